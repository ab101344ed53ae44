import PyProof.Rows.All
import Lean
import KE.KDictList
import KE.KTops
import KE.KRevSl
import KE.KFromBytes
import KE.KTryMore
import KE.KItem
import KE.KUnpack
import KE.KRevIter
import PySem.Challenge.RW_piecelay_k22_whole_shop
set_option Elab.async false
set_option linter.all false
set_option maxRecDepth 100000
set_option maxHeartbeats 0
set_option compiler.extract_closed false
set_option hygiene false in
def rp:Nat->Lean.Syntax->Lean.MacroM (Lean.TSyntax `rcasesPat)
 |0,_=>Lean.Macro.throwUnsupported
 |n+1,s=>match s with
  |`(($a,$b,*))=>do let l<-(#[a.raw]++b.getElems.map (·.raw)).mapM (rp n ·);let l<-l.mapM λx=>`(Lean.Parser.Tactic.rcasesPatLo|$x:rcasesPat);`(rcasesPat|⟨$l,*⟩)
  |`(_)=>`(rcasesPat|_)
  |`($i:ident)=>`(rcasesPat|$i:ident)
  |_=>Lean.Macro.throwUnsupported
local macro_rules|`(tactic|let $p:term:=$t)=>do let q<-rp 9 p;`(tactic|obtain $q:rcasesPat:=$t)
local macro_rules|`(($a,$b,$c,*))=>`(⟨$a,$b,$c,*⟩)|`(($a,$b))=>`(⟨$a,$b⟩)
set_option hygiene false in
local macro_rules|`($x:scientific)=>do
  let some (m,_,e):=x.raw.isScientificLit?|Lean.Macro.throwUnsupported
  let n:=Lean.quote (m%10^e)
  match m/10^e with
  |1=>`(cV $n)
  |2=>`(cI $n)
  |3=>`(cZ $n)
  |_=>`(gN $n)
set_option hygiene false in
local macro_rules|`(%[$x|0])=>`(aC $x aN)|`(%[$x,$y,*|0])=>`(aC $x %[$y,*|0])
local macro_rules|`(↑$x)=>`(some $x)
local macro_rules|`(⇑$x)=>`(.ref $x)
abbrev qa:=List (PySem.Addr×PySem.Obj)
abbrev ql:=PySem.Value->PySem.Shared->Prop
abbrev qs:=PySem.W.Frag
abbrev qw:=List PySem.Value
abbrev za:=PySem.Str->Option PySem.Value
abbrev zb:=List Int
abbrev zl:=List PySem.Str
abbrev zp:=List PySem.Expr
abbrev zz:=List PySem.Addr
local macro_rules|`(⋯)=>`(by first|decide +kernel|lia)
abbrev xd:=@PySem.wpAny_bind
abbrev Ar:=@PySem.Heap.get?_push_of_some
abbrev LD:=@List.getElem?_eq_some_iff
abbrev Nt:=@Bool.and_eq_true
abbrev Nu:=@Nat.le_refl
abbrev Nv:=@PySem.wpAny_pure
abbrev Nz:=@List.getElem?_eq_getElem
abbrev NB:=@List.mem_cons
abbrev NC:=@List.length_map
abbrev ND:=@List.size_toArray
abbrev NF:=@Nat.le_of_ble_eq_true
abbrev NG:=@PySem.Heap.get?_push_size
abbrev NH:=@if_neg
abbrev NI:=@List.mem_singleton
abbrev NJ:=@Nat.eq_of_beq_eq_true
abbrev NK:=@List.length_append
abbrev NL:=@if_pos
abbrev NO:=@List.mem_append_right
abbrev NP:=@Nat.ble_eq_true_of_le
abbrev NQ:=@List.getElem?_map
abbrev NR:=@List.map_cons
abbrev NS:=@List.mem_append
abbrev NT:=@of_decide_eq_true
abbrev NU:=@List.not_mem_nil
abbrev NV:=@Nat.lt_of_lt_of_le
abbrev NW:=@PySem.Heap.lt_size
abbrev NX:=@List.all_eq_true
abbrev NY:=@List.map_append
abbrev NZ:=@congrArg
abbrev N1:=@Option.map_eq_some_iff
abbrev N2:=@Nat.beq_refl
abbrev N3:=@Nat.ne_of_lt
abbrev N4:=@Nat.le_trans
abbrev N5:=@List.getElem?_append_right
abbrev N6:=@List.length_cons
abbrev N7:=@List.getElem?_append_left
abbrev N8:=@PySem.Heap.size_push
abbrev N9:=@List.append_nil
abbrev Oa:=@Option.some.inj
abbrev Oe:=@List.nodup_cons
abbrev Of:=@List.getD_eq_getElem?_getD
abbrev Og:=@List.all_cons
abbrev Oi:=@List.mem_cons_of_mem
abbrev Oj:=@List.mem_append_left
abbrev Ol:=@PySem.sizeLine_eq
abbrev Om:=@Nat.zero_le
abbrev Oo:=@Option.bind_eq_some_iff
abbrev Oq:=@List.mem_of_getElem?
abbrev Ot:=@List.lookup_cons
abbrev Ou:=@or_false
abbrev Ov:=@PySem.wpAny_truthy_bool
abbrev Ow:=@List.append_assoc
abbrev Ox:=@PySem.wpAny_holding
abbrev Oz:=@decide_eq_true
abbrev OB:=@Ne.symm
abbrev OD:=@PySem.wpAny_callSpecial?_slot
abbrev OJ:=@PySem.codeAny_mono
abbrev OM:=@Bool.true_and
abbrev ON:=@PySem.mem_of_lookup
abbrev OO:=@List.mem_map
abbrev OP:=@List.mem_cons_self
abbrev OQ:=@PySem.wpAny_Call_Name_kw
abbrev OR:=@PySem.wpAny_call_entry
abbrev OU:=@PySem.Heap.get?_push_at
abbrev OV:=@Bool.not_eq_true'
abbrev OX:=@PyProof.Rows.callWith_type1
abbrev OY:=@decide_eq_false
abbrev OZ:=@PySem.wpAny_setField_rec
abbrev O0:=@Int.emod_lt_of_pos
abbrev O1:=@PySem.wpAny_field
abbrev O2:=@List.find?_cons
abbrev O3:=@PySem.wpAny_mono
abbrev O4:=@List.foldl_cons
abbrev O5:=@PySem.F.plainAttrs_list
abbrev O6:=@Array.length_toList
abbrev O7:=@PySem.W.Fast.te11892475500146522536
abbrev O8:=@PySem.W.Fast.te14364793385576792824
abbrev O9:=@Nat.le_of_lt
abbrev Pb:=@Nat.ne_of_gt
abbrev Pd:=@PyProof.Rows.F.plain_set_update_loop
abbrev Pe:=@PySem.wpAny_passesOwn
abbrev Pf:=@PySem.builtinLookup_eq_fast
abbrev Pg:=@Int.emod_nonneg
abbrev Ph:=@Nat.lt_irrefl
abbrev Pj:=@PySem.wpAny_standAt
abbrev Pk:=@List.any_cons
abbrev Pn:=@PySem.F.slot_tuple_iterator_next
abbrev Po:=@List.drop_eq_getElem_cons
abbrev Pp:=@Int.ofNat_eq_natCast
abbrev Pq:=@Option.isSome_iff_exists
abbrev Pr:=@Nat.le_of_eq
abbrev Pu:=@Nat.lt_succ_self
abbrev Pw:=@beq_self_eq_true
abbrev Px:=@PySem.F.called_set
abbrev Py:=@List.mem_map_of_mem
abbrev Pz:=@PyProof.Rows.slot_tuple_getitem
abbrev PB:=@List.getElem?_cons_zero
abbrev PD:=@PySem.wpAny_attempt
abbrev PF:=@Bool.false_ne_true
abbrev PJ:=@List.mem_filterMap
abbrev PL:=@PySem.F.slot_list_extend
abbrev PM:=@PySem.codeAny_builtin
abbrev PN:=@PySem.wpAny_call
abbrev PR:=@List.contains_cons
abbrev PU:=@List.pairwise_cons
abbrev PV:=@List.getElem?_set_self
abbrev PX:=@PySem.Calls.callWith_builtin
abbrev PY:=@List.map_map
abbrev PZ:=@PySem.W.Fast.te10156331382660048174
abbrev P0:=@PySem.Around.under_plainId
abbrev P1:=@Nat.mod_eq_of_lt
abbrev P4:=@PySem.W.Fast.te6613529449190102663
abbrev P5:=@Nat.le_succ
abbrev P6:=@List.mem_filter
abbrev P7:=@PySem.typeLookup_type
abbrev P8:=@Prod.ext
abbrev P9:=@PyProof.Rows.F.entry_set_update_loop
abbrev Qa:=@PySem.F.type_list_extend
abbrev Qc:=@PySem.W.hideAll_none
abbrev Qd:=@PySem.wpAny_seqItems
abbrev Qe:=@List.getElem?_replicate
abbrev Qf:=@List.getElem?_cons_succ
abbrev Qg:=@List.reverse_cons
abbrev Qh:=@PySem.wpAny_newObj_type
abbrev Qi:=@PySem.wpAny_pyIter_list
abbrev Qj:=@Nat.lt_succ_of_lt
abbrev Qk:=@PySem.F.slot_list_index
abbrev Ql:=@List.getElem?_inj
abbrev Qm:=@List.flatMap_cons
abbrev Qn:=@List.take_of_length_le
abbrev Qo:=@PySem.W.cellsFrom_some
abbrev Qp:=@List.length_take
abbrev Qq:=@Nat.le_add_right
abbrev Qs:=@List.drop_length
abbrev Qt:=@List.getElem_mem
abbrev Qu:=@List.take_append_drop
abbrev Qv:=@PySem.W.kia_one
abbrev Qw:=@List.length_filter_le
abbrev Qx:=@List.getElem?_set_ne
abbrev Qy:=@PySem.wpAny_execs_nil
abbrev Qz:=@PySem.wpAny_rule
abbrev QB:=@List.of_mem_zip
abbrev QD:=@PySem.Calls.evalArgs_plain
abbrev QJ:=@PySem.call_meets
abbrev QK:=@List.map_nil
abbrev QM:=@Bool.or_eq_true
abbrev QN:=@List.forIn_cons
abbrev QO:=@Nat.zero_add
abbrev QU:=@PySem.codeAny_call_builtin
abbrev QV:=@PySem.F.slot_zip_next
abbrev QX:=@Bool.eq_iff_iff
abbrev QY:=@List.nil_append
abbrev QZ:=@List.filterMap_cons
abbrev Q0:=@PySem.Value.isStrOf_shape
abbrev Q3:=@Int.negSucc_lt_zero
abbrev Q4:=@List.length_reverse
abbrev Q5:=@List.filter_eq_self
abbrev Q6:=@List.mem_range
abbrev Q7:=@PySem.isSubtype_type
abbrev Q8:=@PySem.wpAny_pyIter_tuple
abbrev Q9:=@PySem.Calls.spliced_cons
abbrev Ra:=@PyProof.Rows.KTD.isSome_datumAt
abbrev Rb:=@decide_eq_true_iff
abbrev Rg:=@PySem.Paired.length
abbrev Rh:=@List.any_eq_false
abbrev Ri:=@List.length_range
abbrev Rj:=@Bool.eq_false_iff
abbrev Rk:=@List.nodup_append
abbrev Rl:=@PySem.W.callWith_K
section
namespace LT
open PySem PySem.W PyProof.Rows
noncomputable def YW(p:Program)(w:World)(a:Nat)(d:Option Value):Nat->SharedT->Thread->Option SharedT
 |0,_,_=>none
 |k+1,s,t=>bif through t then ↑s else bif Fast.tw6613529449190102663 a d t then
   (Fast.tw10156331382660048174 (Fast.tw11892475500146522536 Fast.tw14364793385576792824) p w s t).bind λx=>YW p w a d k x.1 x.2
  else none
theorem Di{p:Program}{w:World}{a:Nat}{d:Option Value}(k:Nat):∀{s e:SharedT}{t:Thread},YW p w a d k s t= ↑e->topRun treeTable p w a d k s.abs t= ↑e.abs:=by
 induction k with
 |zero=>intro s e t h;cases h
 |succ k f =>
  intro s e t h;unfold YW at h;rw[<- P4,<- PZ,<- O7,<- O8]at h;unfold topRun;cases c1:through t
  ·cases c2:stepOk a d t
   ·rw[c1,c2]at h;cases h
   ·rw[c1,c2]at h;let(x,g,i):=Oo.mp (show(stepT (denote treeTable) p w s t).bind _=_ from h);rw[stepT_spec (s':=x.1) (t':=x.2) g];exact f i
  ·rw[c1]at h;cases h;rfl
noncomputable def xU(P:Params):BT:=((boot_heap P).objs.toList.foldl (λ(x:BT×Nat) o=>(x.1.ins x.2 o,x.2+1)) (BT.nil,0)).1
theorem xV:∀P,absHeap (xU P) 11 {}=boot_heap P:=λP=>by kernel_rfl
noncomputable abbrev boot(P:Params)(os:OsState):SharedT:=(xU P,11,{},#[],boot_drawn,boot_toks,os)
theorem xW(P:Params)(os:OsState):(boot P os).abs=(boot_heap P,#[],boot_drawn,boot_toks,os):=by show((absHeap (xU P) 11 {},#[],boot_drawn,boot_toks,os):Shared)=_;rw[xV]
theorem Do:∀P:Params,Eq (α:=Bool×Nat×Option Value) ((boot_heap P).isNs mainGlobals&&(#[]:Array GenState).size==0,(boot_heap P).objs.size,(boot_heap P).nsMap mainGlobals "__annotations__") (true,11,↑⇑6):=λP=>by kernel_rfl
end LT
namespace LT
section
universe u1 u2 u3 u4 u5 u6 u7 u8 u9
end
end LT
namespace LT
open PySem PySem.W PyProof.Rows
noncomputable def goes(p:Program)(w:World)(a:Nat)(d:Option Value):Nat->SharedT->Thread->Option (SharedT×Thread)
 |0,s,t=>↑(Prod.mk (s) t)
 |k+1,s,t=>bif through t then none else bif Fast.tw6613529449190102663 a d t then
   (Fast.tw10156331382660048174 (Fast.tw11892475500146522536 Fast.tw14364793385576792824) p w s t).bind λx=>goes p w a d k x.1 x.2
  else none
variable{n₀:Nat}{ann:Option Value}
theorem yK{p:Program}{w:World}(k:Nat):∀{s a:SharedT}{t d:Thread},goes p w n₀ ann k s t= ↑(Prod.mk (a) d)->topGo treeTable p w n₀ ann k s.abs t= ↑(a.abs,d):=by
 induction k with
 |zero=>intro s a t d h;cases h;rfl
 |succ k e =>
  intro s a t d h;unfold goes at h;rw[<- P4,<- PZ,<- O7,<- O8]at h;unfold topGo;cases c1:through t
  ·cases c2:stepOk n₀ ann t
   ·rw[c1,c2]at h;cases h
   ·rw[c1,c2]at h;let(x,f,g):=Oo.mp (show(stepT (denote treeTable) p w s t).bind _=_ from h);rw[stepT_spec (s':=x.1) (t':=x.2) f];exact e g
  ·rw[c1]at h;cases h
noncomputable def UT(p:Program)(w:World)(n₀:Nat)(ann:Option Value):Nat->SharedT->Thread->Option (Flow×SharedT×Code×Pos)
 |0,_,_=>none
 |k+1,s,t=>match endAt 1 t with
  |some f=>↑(f,s,t.code,t.pos)
  |none=>bif Fast.tw6613529449190102663 n₀ ann t then
   (Fast.tw10156331382660048174 (Fast.tw11892475500146522536 Fast.tw14364793385576792824) p w s t).bind λx=>UT p w n₀ ann k x.1 x.2
  else none
theorem lU{p:Program}{w:World}(k:Nat):∀{s a:SharedT}{t:Thread}{f:Flow}{c:Code}{q:Pos},UT p w n₀ ann k s t= ↑(f,a,c,q)->segRun treeTable p w n₀ ann 1 k s.abs t= ↑(f,a.abs,c,q):=by
 induction k with
 |zero=>intro s a t f c q h;cases h
 |succ k d =>
  intro s a t f c q h;unfold UT at h;unfold segRun
  cases c1:endAt 1 t with
  |some x=>rw[c1]at h;cases h;rfl
  |none =>
   rw[c1]at h;dsimp only at h ⊢;rw[<- P4,<- PZ,<- O7,<- O8]at h;cases c2:stepOk n₀ ann t
   ·rw[c2]at h;cases h
   ·rw[c2]at h;let(x,e,g):=Oo.mp (show(stepT (denote treeTable) p w s t).bind _=_ from h);rw[stepT_spec (s':=x.1) (t':=x.2) e];exact d g
noncomputable def yL{α:Type}:List α->List α×List α
 |[]=>([],[])
 |x::r=>match yL r with | (a,b)=>(x::b,a)
noncomputable def grown:Nat->List Obj->BT
 |0,_=>.nil
 |_,[]=>.nil
 |k+1,x::r=>match yL r with | (a,b)=>.node x (grown k a) (grown k b)
section
universe u1 u2 u3 u4 u5 u6 u7 u8 u9
variable{A:Type u1}{B:Type u2}{C:Type u3}{D:Type u4}{E:Type u5}{F:Type u6}{G:Type u7}{H:Type u8}{I:Type u9}
noncomputable def c1(x:A×B×C×D×E×F×G×H×I):A:=match x with | (a,_)=>a
noncomputable def c2(x:A×B×C×D×E×F×G×H×I):B:=match x with | (_,a,_)=>a
noncomputable def c3(x:A×B×C×D×E×F×G×H×I):C:=match x with | (_,_,a,_)=>a
noncomputable def c4(x:A×B×C×D×E×F×G×H×I):D:=match x with | (_,_,_,a,_)=>a
noncomputable def c5(x:A×B×C×D×E×F×G×H×I):E:=match x with | (_,_,_,_,a,_)=>a
noncomputable def c6(x:A×B×C×D×E×F×G×H×I):F:=match x with | (_,_,_,_,_,a,_)=>a
noncomputable def c7(x:A×B×C×D×E×F×G×H×I):G:=match x with | (_,_,_,_,_,_,a,_)=>a
noncomputable def c8(x:A×B×C×D×E×F×G×H×I):H:=match x with | (_,_,_,_,_,_,_,a,_)=>a
noncomputable def c9(x:A×B×C×D×E×F×G×H×I):I:=match x with | (_,_,_,_,_,_,_,_,a)=>a
noncomputable def d1(x:A×B×C×D×E×F×G×H×I):A:=match x with | (a,_)=>a
noncomputable def d2(x:A×B×C×D×E×F×G×H×I):B:=match x with | (_,a,_)=>a
noncomputable def d3(x:A×B×C×D×E×F×G×H×I):C:=match x with | (_,_,a,_)=>a
noncomputable def d4(x:A×B×C×D×E×F×G×H×I):D:=match x with | (_,_,_,a,_)=>a
noncomputable def d5(x:A×B×C×D×E×F×G×H×I):E:=match x with | (_,_,_,_,a,_)=>a
noncomputable def d6(x:A×B×C×D×E×F×G×H×I):F:=match x with | (_,_,_,_,_,a,_)=>a
noncomputable def d7(x:A×B×C×D×E×F×G×H×I):G:=match x with | (_,_,_,_,_,_,a,_)=>a
noncomputable def d8(x:A×B×C×D×E×F×G×H×I):H:=match x with | (_,_,_,_,_,_,_,a,_)=>a
noncomputable def d9(x:A×B×C×D×E×F×G×H×I):I:=match x with | (_,_,_,_,_,_,_,_,a)=>a
theorem all9{x y:A×B×C×D×E×F×G×H×I}(h1:c1 x=d1 y)(a:c2 x=d2 y)(d:c3 x=d3 y)(e:c4 x=d4 y)(h5:c5 x=d5 y)(f:c6 x=d6 y)(h7:c7 x=d7 y)(g:c8 x=d8 y)(i:c9 x=d9 y):x=y:=(P8 h1 (P8 a (P8 d (P8 e (P8 h5 (P8 f (P8 h7 (P8 g i))))))))
end
noncomputable def tA{α:Type}(n:Nat)(l:List α):List α:=l.take n
noncomputable def tB{α:Type}(n:Nat)(l:List α):List α:=l.take n
noncomputable def rA{α:Type}(n:Nat)(l:List α):List α:=l.drop n
noncomputable def rB{α:Type}(n:Nat)(l:List α):List α:=l.drop n
theorem cut2{α:Type}{x y:List α}(n:Nat)(h1:tA n x=tB n y)(a:rA n x=rB n y):x=y:=by rw[<- Qu n x,<- Qu n y];exact congr (NZ _ h1) a
theorem YX{p q:Program}{loose:zl}{i:Shared->Bool}{α:Type}{j:Shared->α}{m:World->α}{N n1 n2 n3 n4 n5:Nat}{g Sm Sf:World->OsState->SharedT}{a:World->OsState->Shared}{l u:List Stmt}{env:Env}{q0 v y B E:Pos}(e:opening p=plainProg p.main.scope.names)(H:Nat.ble 600 N=true)(f:∀s,fenceModules? p s= ↑s)
  (I:n1+(n2+(n3+(n4+n5)))=N) (J:l++u=behindTheImports p)
  (h1:∀(w:World)(os:OsState),goes p w 11 ↑⇑6 n1 (boot w.params os) (topStub p)= ↑(g w os,(Fast.tw11892475500146522536 Fast.tw14364793385576792824 (.body (behindTheImports p) env),.body (behindTheImports p) env,v,[topFrame q0])))
  (L:∀(w:World)(os:OsState),UT p w 11 ↑⇑6 n2 (g w os) (blockOf (behindTheImports p) env (.body (behindTheImports p) env) v [topFrame q0])= ↑(.next,g w os,.body (behindTheImports p) env,y))
  (M:∀(w:World)(os:OsState),UT p w 11 ↑⇑6 n3 (g w os) (piecesOf l env (.body (behindTheImports p) env) y [topFrame q0])= ↑(.next,Sm w os,.body (behindTheImports p) env,B))
  (O:∀(w:World)(os:OsState),UT p w 11 ↑⇑6 n4 (Sm w os) (piecesOf u env (.body (behindTheImports p) env) B [topFrame q0])= ↑(.next,Sf w os,.body (behindTheImports p) env,E))
  (h5:∀(w:World)(os:OsState),YW p w 11 ↑⇑6 n5 (Sf w os) (restOf [] env (.body (behindTheImports p) env) E [topFrame q0])= ↑(Sf w os))
  (Q:∀(w:World)(os:OsState),(Sf w os).abs=a w os)
  (T:∀(w:World)(os:OsState),(staticsOk (Fast.tw5923862056798008813 p.main.body) (boot_heap w.params) (a w os).heap&&namesBound p (a w os).heap&&gensDone (a w os)&&laidKept (boot_heap w.params) (a w os).heap)=true)
  (U:∀(w:World)(os:OsState),Fast.tw4187177175401517315 q loose (Fast.tw5923862056798008813 p.main.body) i true (a w os)=openGood q loose)
  (Y:∀(w:World)(os:OsState),j (a w os)=m w):LeftO p q loose i j m N:=λw=>by
 let((h0,gs,d,k,os),e,e'):=N1.mp (boot_open e H f w);obtain⟨rfl,rfl,rfl,rfl⟩:h0=boot_heap w.params/\gs=Array.mk []/\d=boot_drawn/\k=boot_toks:=by simpa using e'
 have r:=Di n5 (h5 w os);have r:=piece_app (lU n4 (O w os)) r;rw[N9]at r;have r:=piece_app (lU n3 (M w os)) r;rw[J]at r;have r:=piece_block (lU n2 (L w os)) r;have z:=yK n1 (h1 w os);rw[<- O7,<- O8]at z;have r:=go_top z r;rw[I,xW,Q]at r;have hl:=T w os;have G:=U w os;have hy:=Y w os;rw[<- Fast.te5923862056798008813]at hl;rw[<- Fast.te4187177175401517315,<- Fast.te5923862056798008813]at G;obtain⟨z1,z2,z3⟩:_/\_/\_:=by simpa only[Prod.mk.injEq]using Do w.params
 have t:topFrom treeTable p w N (boot_heap w.params,Array.mk [],boot_drawn,boot_toks,os)= ↑(a w os):=by unfold topFrom;dsimp only;rw[z1,z2,z3,r];show(match staticsOk (importedModules p.main.body) (boot_heap w.params) (a w os).heap&&namesBound p (a w os).heap&&gensDone (a w os)&&laidKept (boot_heap w.params) (a w os).heap with|true=>_|false=>_)=_;rw[hl]
 unfold openEnds;rw[e];show(topFrom treeTable p w N _).map _=_;rw[t];exact NZ some (P8 G hy)
end LT
namespace My
open PySem
noncomputable def top(i:Nat):Stmt:=PySem.Challenge.pw_piecelay_k22_whole_shop.main.body.getD i (.Pass (0,0,0,0))
end My
namespace LM
open PySem PySem.W
noncomputable def o(c:Value)(d:Data):Obj:=(c,none,d,#[])
noncomputable def tu(l:qw):Obj:=o (.type "tuple") (.seq l.toArray 0)
noncomputable def fi(c:Value)(l:qw):Obj:=o c (.fields l.toArray)
noncomputable def di(P:Params)(n:Nat)(l:List (Str×Nat×Value)):Obj:=o (.type "dict") (.dict (l.map λx=>((PyData.keyHash P x.1,.str x.1 x.2.1,x.2.2):DictEntry)).toArray n)
noncomputable def co(a b:Str)(t l c k f r:Nat)(z:Bool)(m:qw)(u:Nat):Obj:=fi (.type "code") ([.str a t,.str b (t+1),.str "/claim/cut.py" (t+2),.int l 0,.int c 0,.int 0 0,.int k 0,.int f 0,⇑r,.bool z,.int 181 0,⇑(r+1),.none]++m++[.int u 0,.int l 0,.str "/claim/cut.py" (u+1)])
noncomputable def fr(a b c:Value):Obj:=(.type "frame",none,.plain,#[↑a,↑⇑3,↑b,none,↑c,none,↑⇑0])
noncomputable def ty(n:Str)(b m:qw)(a:Nat)(s:qw)(l:List (Option Value)):Obj:=(.type "type",none,.cls (n,b,m,a,n,true,[],s,false,none,false),l.toArray)
noncomputable def ca(s:Stmt)(j:Nat):Stmt:=match s with
 | .ClassDef _ _ _ b _ _ _ _ _ _ _=>b.getD j (.Pass (0,0,0,0))
 |_=>s
noncomputable def fu(c:Value)(s:Stmt)(q:Str)(g:Nat)(d k m v:Value):Obj:=match s with
 | .FunctionDef n a b _ _ _ e _ _ _=>o c (.func (n,q,a,.stmts b,e,g,[],d,k,.none,m,none,v,.none,0))
 |_=>o c .plain
noncomputable def loc(s:Scope):List Str:=(s.names.filter λx=>match x.2 with | .local=>true|_=>false).map (·.1)
noncomputable def f7(s:Stmt)(q:Str)(A t:Nat)(d k m:Value):List Obj:=match s with
 | .FunctionDef n a _ _ _ _ e _ _ p=>[tu [],fi .none [],tu ((loc e).zipIdx.map λx=>.str x.1 (t+3+x.2)),tu [],fu .none s q 0 .none .none .none .none,co n q t p.line a.args.length a.kwonlyargs.length 3 A true [⇑(A+2),⇑(A+3),⇑(A+4)] (t+3+(loc e).length),fu (.type "function") s q 3 d k m ⇑(A+5)]
 |_=>[]
noncomputable def f5(s:Stmt)(q:Str)(A t:Nat)(d k m:Value):List Obj:=match s with
 | .FunctionDef n a _ _ _ _ _ _ _ p=>[tu [],fi .none [],fu .none s q 0 .none .none .none .none,co n q t p.line a.args.length a.kwonlyargs.length 3 A true [.none,.none,⇑(A+2)] (t+3),fu (.type "function") s q 3 d k m ⇑(A+3)]
 |_=>[]
noncomputable def fn(s:Stmt):Str:=match s with
 | .FunctionDef n _ _ _ _ _ _ _ _ _=>n
 |_=>""
noncomputable def h7(m:Value)(i A t:Nat):List Obj:=f7 (My.top i) (fn (My.top i)) A t .none .none m
noncomputable def h5(m:Value)(i A t:Nat):List Obj:=f5 (My.top i) (fn (My.top i)) A t .none .none m
noncomputable def rs(l:List (Str×Nat×Nat)):List (Str×Nat×Value):=l.map λx=>(x.1,x.2.1,⇑x.2.2)
noncomputable def oc(P:Params)(i:Nat)(n:Str):List Obj:=[tu [⇑31],fi (.type "builtin_function_or_method") [(.builtin "type.__prepare__"),(.type "type")],di P 4 [("__module__",(221+16*i),(.str "piecelay.errors" 194)),("__qualname__",(223+16*i),(.str n (222+16*i))),("__firstlineno__",(225+16*i),(.int (7+2*i) (224+16*i))),("__static_attributes__",(226+16*i),⇑(42+12*i))],tu [],fi .none [],co n n (216+16*i) (7+2*i) 0 0 0 (38+12*i) false [.none,.none,.none] (219+16*i),fr ⇑(40+12*i) ⇑(37+12*i) (.str "piecelay.errors" 194),tu [],di P 2 [("__module__",(221+16*i),(.str "piecelay.errors" 194)),("__firstlineno__",(225+16*i),(.int (7+2*i) (224+16*i))),("__static_attributes__",(226+16*i),⇑(42+12*i)),("__doc__",(227+16*i),.none)],ty n [⇑31] [⇑(44+12*i),⇑31,(.type "ValueError"),(.type "Exception"),(.type "BaseException"),(.type "object")] (43+12*i) [] [↑⇑(35+12*i),none,↑(.str n (214+16*i)),↑(.str n (222+16*i)),↑(.builtin "ValueError.__new__"),↑(.bool true)],fi (.type "super") [⇑(44+12*i),⇑(44+12*i),⇑(44+12*i)],fi (.type "builtin_function_or_method") [(.builtin "object.__init_subclass__"),⇑(44+12*i)]]
noncomputable def b11(P:Params):List Obj:=(boot_heap P).objs.toList
noncomputable def st(P:Params)(os:OsState)(t:Nat)(l:List Obj):SharedT:=(LT.grown 12 l,l.length,{},#[],boot_drawn,t,os)
noncomputable def a4:List Obj:=[tu [],fi .none [],co "<module>" "<module>" 182 1 0 0 0 11 false [.none,.none,.none] 185,fr ⇑13 ⇑3 (.str "__main__" 164)]
noncomputable abbrev sa(w:World)(os:OsState):SharedT:=st w.params os 187 (b11 w.params++a4)
noncomputable def ml(P:Params):List Obj:=([
 [tu [],fi .none [],tu [(.str "k" 190)],tu [],fu .none (My.top 0) "_wall" 0 .none .none .none .none,co "_wall" "_wall" 187 1 1 0 3 15 true [⇑17,⇑18,⇑19] 191,fu (.type "function") (My.top 0) "_wall" 3 .none .none (.str "__main__" 164) ⇑20,tu [(.type "ValueError")],fi (.type "builtin_function_or_method") [(.builtin "type.__prepare__"),(.type "type")],di P 4 [("__module__",203,(.str "piecelay.errors" 194)),("__qualname__",205,(.str "PieceError" 204)),("__firstlineno__",207,(.int 5 206)),("__static_attributes__",208,⇑29)],tu [],fi .none [],co "PieceError" "PieceError" 198 5 0 0 0 25 false [.none,.none,.none] 201,fr ⇑27 ⇑24 (.str "piecelay.errors" 194),tu [],di P 3 [("__module__",203,(.str "piecelay.errors" 194)),("__firstlineno__",207,(.int 5 206)),("__static_attributes__",208,⇑29),("__weakref__",210,⇑32),("__doc__",211,.none)],ty "PieceError" [(.type "ValueError")] [⇑31,(.type "ValueError"),(.type "Exception"),(.type "BaseException"),(.type "object")] 30 [⇑44,⇑56,⇑68,⇑80,⇑92,⇑104,⇑116,⇑128,⇑140,⇑152,⇑164,⇑176,⇑195,⇑214] [↑⇑22,none,↑(.str "PieceError" 196),↑(.str "PieceError" 204),↑(.builtin "ValueError.__new__"),↑(.bool true)],fi (.type "getset_descriptor") [(.str "__weakref__" 209),⇑31,(.builtin "ExceptionGroup.__weakref__"),.none],fi (.type "super") [⇑31,⇑31,⇑31],fi (.type "builtin_function_or_method") [(.builtin "object.__init_subclass__"),⇑31]],
 (List.range 12).flatMap (λi=>oc P i (["NoSize","NoTree","NoArgs","NoCode","NoSteps","Late","NoPiece","NoSet","NoCover","NoParts","NoName","Taken"].getD i "")),
 [tu [⇑31],fi (.type "builtin_function_or_method") [(.builtin "type.__prepare__"),(.type "type")],di P 5 [("__module__",413,(.str "piecelay.errors" 194)),("__qualname__",415,(.str "Fault" 414)),("__firstlineno__",417,(.int 31 416)),("__init__",425,⇑192),("__static_attributes__",427,⇑193)],tu [],fi .none [(.int 33 0),(.int 4 0),⇑191],co "Fault" "Fault" 408 31 0 0 0 182 false [.none,.none,.none] 411,fr ⇑184 ⇑181 (.str "piecelay.errors" 194),tu [],fi .none [],tu [(.str "self" 421),(.str "place" 422)],tu [],fu .none (ca (My.top 15) 0) "Fault.__init__" 0 .none .none .none .none,co "__init__" "Fault.__init__" 418 33 2 0 3 186 true [⇑188,⇑189,⇑190] 423,fu (.type "function") (ca (My.top 15) 0) "Fault.__init__" 3 .none .none (.str "piecelay.errors" 194) ⇑191,tu [(.str "place" 426)],di P 2 [("__module__",413,(.str "piecelay.errors" 194)),("__firstlineno__",417,(.int 31 416)),("__init__",425,⇑192),("__static_attributes__",427,⇑193),("__doc__",428,.none)],ty "Fault" [⇑31] [⇑195,⇑31,(.type "ValueError"),(.type "Exception"),(.type "BaseException"),(.type "object")] 194 [] [↑⇑179,none,↑(.str "Fault" 406),↑(.str "Fault" 414),↑(.builtin "ValueError.__new__"),↑(.bool true)],fi (.type "super") [⇑195,⇑195,⇑195],fi (.type "builtin_function_or_method") [(.builtin "object.__init_subclass__"),⇑195],tu [⇑31],fi (.type "builtin_function_or_method") [(.builtin "type.__prepare__"),(.type "type")],di P 5 [("__module__",438,(.str "piecelay.errors" 194)),("__qualname__",440,(.str "Broken" 439)),("__firstlineno__",442,(.int 35 441)),("__init__",450,⇑211),("__static_attributes__",452,⇑212)],tu [],fi .none [(.int 37 0),(.int 4 0),⇑210],co "Broken" "Broken" 433 35 0 0 0 201 false [.none,.none,.none] 436,fr ⇑203 ⇑200 (.str "piecelay.errors" 194),tu [],fi .none [],tu [(.str "self" 446),(.str "trial" 447)],tu [],fu .none (ca (My.top 16) 0) "Broken.__init__" 0 .none .none .none .none,co "__init__" "Broken.__init__" 443 37 2 0 3 205 true [⇑207,⇑208,⇑209] 448,fu (.type "function") (ca (My.top 16) 0) "Broken.__init__" 3 .none .none (.str "piecelay.errors" 194) ⇑210,tu [(.str "trial" 451)],di P 2 [("__module__",438,(.str "piecelay.errors" 194)),("__firstlineno__",442,(.int 35 441)),("__init__",450,⇑211),("__static_attributes__",452,⇑212),("__doc__",453,.none)],ty "Broken" [⇑31] [⇑214,⇑31,(.type "ValueError"),(.type "Exception"),(.type "BaseException"),(.type "object")] 213 [] [↑⇑198,none,↑(.str "Broken" 431),↑(.str "Broken" 439),↑(.builtin "ValueError.__new__"),↑(.bool true)],fi (.type "super") [⇑214,⇑214,⇑214],fi (.type "builtin_function_or_method") [(.builtin "object.__init_subclass__"),⇑214]]]:List (List Obj)).flatten
noncomputable abbrev sm(w:World)(os:OsState):SharedT :=
 st w.params os 456 ((b11 w.params).set 3 (di w.params 25 [("__name__",165,(.str "piecelay.errors" 194)),("__doc__",166,.none),("__package__",167,.none),("__loader__",168,(.builtin "__main__.__loader__#opaque")),("__spec__",169,.none),("__annotations__",170,⇑6),("__builtins__",171,⇑4),("__file__",173,(.str "/claim/cut.py" 172)),("__cached__",174,.none),("_wall",193,⇑21),("PieceError",213,⇑31),("NoSize",229,⇑44),("NoTree",245,⇑56),("NoArgs",261,⇑68),("NoCode",277,⇑80),("NoSteps",293,⇑92),("Late",309,⇑104),("NoPiece",325,⇑116),("NoSet",341,⇑128),("NoCover",357,⇑140),("NoParts",373,⇑152),("NoName",389,⇑164),("Taken",405,⇑176),("Fault",430,⇑195),("Broken",455,⇑214)])++([tu [],fi .none [(.int 1 0),(.int 0 0),⇑20,(.int 5 0),(.int 0 0),⇑27,(.int 7 0),(.int 0 0),⇑40,(.int 9 0),(.int 0 0),⇑52,(.int 11 0),(.int 0 0),⇑64,(.int 13 0),(.int 0 0),⇑76,(.int 15 0),(.int 0 0),⇑88,(.int 17 0),(.int 0 0),⇑100,(.int 19 0),(.int 0 0),⇑112,(.int 21 0),(.int 0 0),⇑124,(.int 23 0),(.int 0 0),⇑136,(.int 25 0),(.int 0 0),⇑148,(.int 27 0),(.int 0 0),⇑160,(.int 29 0),(.int 0 0),⇑172,(.int 31 0),(.int 0 0),⇑184,(.int 35 0),(.int 0 0),⇑203],co "<module>" "<module>" 182 1 0 0 0 11 false [.none,.none,.none] 185,fr ⇑13 ⇑3 (.str "__main__" 164)]++ml w.params))
noncomputable def env:Env:={scope:=PySem.Challenge.pw_piecelay_k22_whole_shop.main.scope,locals:=mainNs,globals:=mainNs,cells:=[],code:= ⇑13,frame:= ↑14}
noncomputable abbrev n0:Value:=(.str "piecelay.checks" 456)
noncomputable abbrev n1:Value:=(.str "piecelay.trees" 500)
noncomputable abbrev n2:Value:=(.str "piecelay.machine" 587)
noncomputable abbrev n3:Value:=(.str "piecelay.pieces" 801)
noncomputable abbrev n4:Value:=(.str "piecelay.covers" 1074)
noncomputable abbrev n5:Value:=(.str "piecelay.laying" 1154)
noncomputable abbrev n6:Value:=(.str "piecelay.shops" 1202)
noncomputable abbrev n7:Value:=(.str "law_piecelay_k22_whole_shop" 1344)
noncomputable def fl(P:Params):List Obj:=([
 h7 n0 21 217 464,
 h7 n0 22 224 473,
 h5 n0 23 231 480,
 [tu [(.int 10000 458)]],
 f7 (My.top 24) "need_size" 237 486 ⇑236 .none n0,
 h5 n0 25 244 494,
 [di P 2 [("num",506,(.int 9999 507)),("arg",508,(.int 3 509))],di P 5 [("add",513,(.int 2 514)),("sub",515,(.int 2 516)),("mul",517,(.int 2 518)),("less",519,(.int 2 520)),("pick",521,(.int 3 522))]],
 h7 n1 31 251 529,
 h7 n1 32 258 537,
 h5 n1 33 265 544,
 h7 n1 34 270 550,
 h7 n1 35 277 557,
 h7 n1 36 284 567,
 h7 n1 37 291 578,
 [tu [(.str "end" 599),(.int 0 600)],tu [(.str "put" 601),(.int 1 602)],tu [(.str "far" 603),(.int 2 604)],tu [(.str "load" 605),(.int 1 606)],tu [(.str "add" 607),(.int 0 608)],tu [(.str "sub" 609),(.int 0 610)],tu [(.str "mul" 611),(.int 0 612)],tu [(.str "less" 613),(.int 0 614)],tu [(.str "skip" 615),(.int 1 616)],tu [(.str "jump" 617),(.int 2 618)],tu [(.str "zero" 619),(.int 1 620)],tu [(.str "none" 621),(.int 2 622)],tu [(.str "more" 623),(.int 1 624)],tu [(.str "twice" 625),(.int 0 626)],tu [(.str "about" 627),(.int 0 628)],tu [(.str "call" 629),(.int 2 630)],tu [(.str "back" 631),(.int 0 632)],tu [⇑298,⇑299,⇑300,⇑301,⇑302,⇑303,⇑304,⇑305,⇑306,⇑307,⇑308,⇑309,⇑310,⇑311,⇑312,⇑313,⇑314],di P 3 [("load",634,(.int 3 635)),("skip",636,(.int 9 637)),("zero",638,(.int 9 639))],tu [(.str "skip" 644),(.str "jump" 645),(.str "zero" 646),(.str "none" 647),(.str "call" 648),(.str "back" 649)]],
 h5 n2 47 318 651,
 h7 n2 48 323 657,
 h7 n2 49 330 664,
 h7 n2 50 337 675,
 [tu [],fi (.type "builtin_function_or_method") [(.builtin "type.__prepare__"),(.type "type")],di P 11 [("__module__",691,(.str "piecelay.machine" 587)),("__qualname__",693,(.str "Machine" 692)),("__firstlineno__",695,(.int 140 694)),("__init__",706,⇑357),("take",713,⇑364),("push",721,⇑371),("step",732,⇑378),("way",742,⇑385),("finish",749,⇑392),("change",760,⇑399),("__static_attributes__",768,⇑400)],tu [],fi .none [(.int 142 0),(.int 4 0),⇑356,(.int 151 0),(.int 4 0),⇑363,(.int 156 0),(.int 4 0),⇑370,(.int 161 0),(.int 4 0),⇑377,(.int 175 0),(.int 4 0),⇑384,(.int 189 0),(.int 4 0),⇑391,(.int 194 0),(.int 4 0),⇑398],co "Machine" "Machine" 686 140 0 0 0 347 false [.none,.none,.none] 689,fr ⇑349 ⇑346 (.str "piecelay.machine" 587)],
 f7 (ca (My.top 51) 0) "Machine.__init__" 351 696 .none .none n2,
 f7 (ca (My.top 51) 1) "Machine.take" 358 707 .none .none n2,
 f7 (ca (My.top 51) 2) "Machine.push" 365 714 .none .none n2,
 f7 (ca (My.top 51) 3) "Machine.step" 372 722 .none .none n2,
 f7 (ca (My.top 51) 4) "Machine.way" 379 733 .none .none n2,
 f7 (ca (My.top 51) 5) "Machine.finish" 386 743 .none .none n2,
 f7 (ca (My.top 51) 6) "Machine.change" 393 750 .none .none n2,
 [tu [(.str "cells" 761),(.str "ended" 762),(.str "given" 763),(.str "kept" 764),(.str "pile" 765),(.str "place" 766),(.str "size" 767)],di P 4 [("__module__",691,(.str "piecelay.machine" 587)),("__firstlineno__",695,(.int 140 694)),("__init__",706,⇑357),("take",713,⇑364),("push",721,⇑371),("step",732,⇑378),("way",742,⇑385),("finish",749,⇑392),("change",760,⇑399),("__static_attributes__",768,⇑400),("__dict__",770,⇑403),("__weakref__",772,⇑404),("__doc__",773,.none)],ty "Machine" [(.type "object")] [⇑402,(.type "object")] 401 [] [none,none,↑(.str "Machine" 684),↑(.str "Machine" 692),↑(.builtin "object.__new__"),↑(.bool true)],fi (.type "getset_descriptor") [(.str "__dict__" 769),⇑402,(.builtin "function.__dict__"),(.builtin "function.__dict__#set")],fi (.type "getset_descriptor") [(.str "__weakref__" 771),⇑402,(.builtin "ExceptionGroup.__weakref__"),.none],fi (.type "super") [⇑402,⇑402,⇑402],fi (.type "builtin_function_or_method") [(.builtin "object.__init_subclass__"),⇑402]],
 h7 n2 52 407 776,
 [di P 1 [("steps",787,(.int 1000 786))]],
 f7 (My.top 53) "run" 415 788 .none ⇑414 n2,
 [di P 3 [("hole",813,(.int 2 814)),("gap",815,(.int 3 816)),("slot",817,(.int 2 818))],di P 3 [("low",823,(.str "gap" 824)),("high",825,(.str "gap" 826)),("arg",827,(.str "slot" 828))],tu [(.str "put" 833),(.str "far" 834),(.str "load" 835),(.str "add" 836),(.str "sub" 837),(.str "mul" 838),(.str "less" 839),(.str "more" 840),(.str "twice" 841),(.str "about" 842)],tu [(.int 0 844),(.int 1 845),(.int 2 846),(.int 99 847),(.int 100 848),(.int 9999 849)],tu [(.str "gap" 854),(.int 0 855),(.int 99 856)],tu [(.str "low" 858),(.int 0 859)],tu [(.int 1 857),⇑427],tu [(.str "one" 853),⇑426,⇑428],tu [(.str "gap" 861),(.int 0 862),(.int 9999 863)],tu [(.str "low" 865),(.int 0 866)],tu [(.str "high" 867),(.int 0 868)],tu [(.int 2 864),⇑431,⇑432],tu [(.str "two" 860),⇑430,⇑433],tu [(.str "slot" 870),(.int 0 871)],tu [(.str "arg" 873),(.int 0 874)],tu [(.int 3 872),⇑436],tu [(.str "slot" 869),⇑435,⇑437],tu [(.str "hole" 877),(.int 0 878)],tu [(.str "hole" 879),(.int 1 880)],tu [(.str "add" 876),⇑439,⇑440],tu [(.int 4 881)],tu [(.str "add" 875),⇑441,⇑442],tu [(.str "hole" 884),(.int 0 885)],tu [(.str "hole" 886),(.int 1 887)],tu [(.str "sub" 883),⇑444,⇑445],tu [(.int 5 888)],tu [(.str "sub" 882),⇑446,⇑447],tu [(.str "hole" 891),(.int 0 892)],tu [(.str "hole" 893),(.int 1 894)],tu [(.str "mul" 890),⇑449,⇑450],tu [(.int 6 895)],tu [(.str "mul" 889),⇑451,⇑452],tu [(.str "hole" 898),(.int 0 899)],tu [(.str "hole" 900),(.int 1 901)],tu [(.str "less" 897),⇑454,⇑455],tu [(.int 7 902)],tu [(.str "less" 896),⇑456,⇑457],tu [(.str "hole" 905),(.int 0 906)],tu [(.str "gap" 907),(.int 0 908),(.int 99 909)],tu [(.str "add" 904),⇑459,⇑460],tu [(.str "low" 911),(.int 0 912)],tu [(.int 12 910),⇑462],tu [(.str "more" 903),⇑461,⇑463],o (.type "list") (.seq #[⇑429,⇑434,⇑438,⇑443,⇑448,⇑453,⇑458,⇑464] 0)],
 h7 n3 67 466 914,
 h5 n3 68 473 921,
 h7 n3 69 478 927,
 h5 n3 70 485 937,
 h5 n3 71 490 943,
 h7 n3 72 495 949,
 h7 n3 73 502 957,
 h5 n3 74 509 965,
 h7 n3 75 514 971,
 h7 n3 76 521 981,
 h5 n3 77 528 988,
 h7 n3 78 533 994,
 h7 n3 79 540 1001,
 h7 n3 80 547 1009,
 h7 n3 81 554 1019,
 h7 n3 82 561 1028,
 h7 n3 83 568 1037,
 h5 n3 84 575 1050,
 h5 n3 85 580 1056,
 h5 n3 86 585 1062,
 h5 n3 87 590 1068,
 [tu [(.int 10 1080),(.int 11 1081)],tu [(.int 8 1083),(.int 9 1084)]],
 h7 n4 93 597 1086,
 h7 n4 94 604 1096,
 h7 n4 95 611 1106,
 h7 n4 96 618 1117,
 h5 n4 97 625 1129,
 h7 n4 98 630 1135,
 h7 n4 99 637 1146,
 h5 n5 103 644 1160,
 h5 n5 104 649 1166,
 h7 n5 105 654 1172,
 h7 n5 106 661 1183,
 h7 n5 107 668 1193,
 [tu [],fi (.type "builtin_function_or_method") [(.builtin "type.__prepare__"),(.type "type")],di P 19 [("__module__",1213,(.str "piecelay.shops" 1202)),("__qualname__",1215,(.str "Shop" 1214)),("__firstlineno__",1217,(.int 468 1216)),("__init__",1225,⇑689),("has_piece",1231,⇑694),("order",1239,⇑701),("put",1248,⇑708),("drop",1254,⇑713),("pieces",1261,⇑720),("lay",1271,⇑727),("code",1279,⇑734),("tree",1287,⇑741),("run",1297,⇑748),("is_stale",1307,⇑755),("stale",1313,⇑760),("total",1319,⇑765),("twin",1326,⇑772),("__len__",1333,⇑779),("__static_attributes__",1336,⇑780)],tu [],fi .none [(.int 470 0),(.int 4 0),⇑688,(.int 477 0),(.int 4 0),⇑693,(.int 480 0),(.int 4 0),⇑700,(.int 485 0),(.int 4 0),⇑707,(.int 496 0),(.int 4 0),⇑712,(.int 503 0),(.int 4 0),⇑719,(.int 506 0),(.int 4 0),⇑726,(.int 513 0),(.int 4 0),⇑733,(.int 516 0),(.int 4 0),⇑740,(.int 519 0),(.int 4 0),⇑747,(.int 522 0),(.int 4 0),⇑754,(.int 529 0),(.int 4 0),⇑759,(.int 532 0),(.int 4 0),⇑764,(.int 535 0),(.int 4 0),⇑771,(.int 538 0),(.int 4 0),⇑778],co "Shop" "Shop" 1208 468 0 0 0 678 false [.none,.none,.none] 1211,fr ⇑680 ⇑677 (.str "piecelay.shops" 1202),tu [.none]],
 f7 (ca (My.top 111) 0) "Shop.__init__" 683 1218 ⇑682 .none n6,
 f5 (ca (My.top 111) 1) "Shop.has_piece" 690 1226 .none .none n6,
 f7 (ca (My.top 111) 2) "Shop.order" 695 1232 .none .none n6,
 f7 (ca (My.top 111) 3) "Shop.put" 702 1240 .none .none n6,
 f5 (ca (My.top 111) 4) "Shop.drop" 709 1249 .none .none n6,
 f7 (ca (My.top 111) 5) "Shop.pieces" 714 1255 .none .none n6,
 f7 (ca (My.top 111) 6) "Shop.lay" 721 1262 .none .none n6,
 f7 (ca (My.top 111) 7) "Shop.code" 728 1272 .none .none n6,
 f7 (ca (My.top 111) 8) "Shop.tree" 735 1280 .none .none n6,
 f7 (ca (My.top 111) 9) "Shop.run" 742 1288 .none .none n6,
 f7 (ca (My.top 111) 10) "Shop.is_stale" 749 1298 .none .none n6,
 f5 (ca (My.top 111) 11) "Shop.stale" 756 1308 .none .none n6,
 f5 (ca (My.top 111) 12) "Shop.total" 761 1314 .none .none n6,
 f7 (ca (My.top 111) 13) "Shop.twin" 766 1320 .none .none n6,
 f7 (ca (My.top 111) 14) "Shop.__len__" 773 1327 .none .none n6,
 [tu [(.str "orders" 1334),(.str "ready" 1335)],di P 4 [("__module__",1213,(.str "piecelay.shops" 1202)),("__firstlineno__",1217,(.int 468 1216)),("__init__",1225,⇑689),("has_piece",1231,⇑694),("order",1239,⇑701),("put",1248,⇑708),("drop",1254,⇑713),("pieces",1261,⇑720),("lay",1271,⇑727),("code",1279,⇑734),("tree",1287,⇑741),("run",1297,⇑748),("is_stale",1307,⇑755),("stale",1313,⇑760),("total",1319,⇑765),("twin",1326,⇑772),("__len__",1333,⇑779),("__static_attributes__",1336,⇑780),("__dict__",1338,⇑783),("__weakref__",1340,⇑784),("__doc__",1341,.none)],ty "Shop" [(.type "object")] [⇑782,(.type "object")] 781 [] [none,none,↑(.str "Shop" 1206),↑(.str "Shop" 1214),↑(.builtin "object.__new__"),↑(.bool true)],fi (.type "getset_descriptor") [(.str "__dict__" 1337),⇑782,(.builtin "function.__dict__"),(.builtin "function.__dict__#set")],fi (.type "getset_descriptor") [(.str "__weakref__" 1339),⇑782,(.builtin "ExceptionGroup.__weakref__"),.none],fi (.type "super") [⇑782,⇑782,⇑782],fi (.type "builtin_function_or_method") [(.builtin "object.__init_subclass__"),⇑782]],
 h7 n7 113 787 1346,
 h7 n7 114 794 1358,
 h5 n7 115 801 1367,
 h5 n7 116 806 1373,
 h7 n7 117 811 1379,
 h7 n7 118 818 1387,
 h7 n7 119 825 1397,
 h7 n7 120 832 1406,
 h5 n7 121 839 1416,
 h7 n7 122 844 1422,
 h7 n7 123 851 1431,
 h5 n7 124 858 1438,
 h7 n7 125 863 1444,
 h7 n7 126 870 1453,
 h5 n7 127 877 1464,
 h7 n7 128 882 1470,
 h7 n7 129 889 1478,
 h5 n7 130 896 1489,
 h5 n7 131 901 1495]:List (List Obj)).flatten
noncomputable def en:List (Str×Nat×Value):=([
 [("__name__",165,(.str "law_piecelay_k22_whole_shop" 1344)),("__doc__",166,.none),("__package__",167,.none),("__loader__",168,(.builtin "__main__.__loader__#opaque")),("__spec__",169,.none),("__annotations__",170,⇑6),("__builtins__",171,⇑4),("__file__",173,(.str "/claim/cut.py" 172)),("__cached__",174,.none)],
 rs [("_wall",193,21),("PieceError",213,31),("NoSize",229,44),("NoTree",245,56),("NoArgs",261,68),("NoCode",277,80),("NoSteps",293,92),("Late",309,104),("NoPiece",325,116),("NoSet",341,128),("NoCover",357,140),("NoParts",373,152),("NoName",389,164),("Taken",405,176),("Fault",430,195),("Broken",455,214)],
 [("MOST_SIZE",459,(.int 10000 458))],
 [("MANY_ARGS",461,(.int 4 460))],
 [("LONGEST_NAME",463,(.int 8 462))],
 rs [("is_whole",472,223),("is_tagged",479,230),("is_name",485,235),("need_size",493,243),("need_args",499,248)],
 [("MOST_PARTS",503,(.int 40 502))],
 [("MOST_DEEP",505,(.int 8 504))],
 rs [("MOST_IN_LEAF",512,249),("TREES_IN_BRANCH",528,250),("is_node",536,257),("trees_within",543,264),("is_tree",549,269),("need_tree",556,276),("worth_of_both",566,283),("reckoned",577,290),("walked",586,297)],
 [("MOST_CELLS",590,(.int 1000 589))],
 [("MOST_CELL",592,(.int 99 591))],
 [("MOST_STEPS",594,(.int 100000 593))],
 [("MOST_PILE",596,(.int 64 595))],
 [("MOST_KEPT",598,(.int 16 597))],
 rs [("INSTRUCTIONS",633,315),("MOST_TOLD",643,316),("WAYS",650,317),("is_code",656,322),("need_code",663,329),("instruction_at",674,336),("number_told",683,343),("Machine",775,402),("started",785,413),("run",799,421),("run_machine",800,421)],
 [("MOST_PATTERN_DEEP",804,(.int 3 803))],
 [("MOST_GAP",806,(.int 9999 805))],
 [("MOST_PIECE_CELLS",808,(.int 12 807))],
 [("MOST_PIECES",810,(.int 16 809))],
 [("MOST_TRIED_SIZE",812,(.int 5 811))],
 rs [("MARK_LENGTHS",822,422),("FILLED_FROM",832,423),("STRAIGHT",843,424),("TRIED_NUMS",850,425)],
 [("BENEATH_HOLES",852,(.int 1 851))],
 rs [("BASIC",913,465),("is_mark",920,472),("is_pattern_part",926,477),("marks_in",936,484),("is_numbered",942,489),("is_pattern",948,494),("is_filling",956,501),("is_cell",964,508),("are_instructions",970,513),("is_piece",980,520),("need_piece",987,527),("is_set",993,532),("need_set",1000,539),("may_stand_for",1008,546),("matches",1018,553),("found_in",1027,560),("filled_cell",1036,567),("filled_pattern",1049,574),("keeps",1055,579),("rows_of",1061,584),("args_for",1067,589),("failing",1073,594)],
 [("MOST_NEAR",1077,(.int 9 1076))],
 [("CALL_CELLS",1079,(.int 3 1078))],
 rs [("AHEAD",1082,595),("BEHIND",1085,596),("jump_over",1095,603),("jumps_of_pick",1105,610),("ways_of",1116,617),("length_by",1128,624),("best_by_ways",1134,629),("best_covering",1145,636),("length_of",1153,643)],
 [("END",1157,(.int 0 1156))],
 [("CALL",1159,(.int 15 1158))],
 rs [("laid_pick",1165,648),("laid_piece",1171,653),("laid_cells",1182,660),("code_of",1192,667),("lay",1200,674),("lay_laying",1201,674)],
 [("TRIED_SIZE",1205,(.int 3 1204))],
 rs [("Shop",1343,782),("_law_draw",1357,793),("_law_pick",1366,800),("_law_tree",1372,805),("_law_args",1378,810),("_law_size",1386,817),("_law_two",1396,824),("_law_worth",1405,831),("_law_pieces",1415,838),("_law_set",1421,843),("_law_fit",1430,850),("_law_over",1437,857),("_law_least",1443,862),("_law_jump",1452,869),("_law_fill",1463,876),("_law_lay",1469,881),("_law_which",1477,888),("_law_ask",1488,895),("_law_shop_right",1494,900),("law",1500,905)]]:List (List (Str×Nat×Value))).flatten
noncomputable def ol(P:Params):List Obj:=(b11 P).set 3 (di P 132 en)++([tu [],fi .none ([(1,0,20),(5,0,27),(7,0,40),(9,0,52),(11,0,64),(13,0,76),(15,0,88),(17,0,100),(19,0,112),(21,0,124),(23,0,136),(25,0,148),(27,0,160),(29,0,172),(31,0,184),(35,0,203),(43,0,222),(45,0,229),(47,0,234),(51,0,242),(54,0,247),(64,0,256),(71,0,263),(75,0,268),(85,0,275),(88,0,282),(96,0,289),(106,0,296),(120,0,321),(124,0,328),(127,0,335),(135,0,342),(140,0,349),(213,0,412),(220,0,420),(240,0,471),(246,0,476),(254,0,483),(261,0,488),(264,0,493),(268,0,500),(272,0,507),(274,0,512),(287,0,519),(296,0,526),(299,0,531),(305,0,538),(308,0,545),(312,0,552),(324,0,559),(329,0,566),(337,0,573),(349,0,578),(360,0,583),(365,0,588),(367,0,593),(387,0,602),(392,0,609),(396,0,616),(405,0,623),(411,0,628),(423,0,635),(432,0,642),(439,0,647),(443,0,652),(451,0,659),(458,0,666),(461,0,673),(468,0,680),(541,0,792),(555,0,799),(557,0,804),(567,0,809),(569,0,816),(571,0,823),(579,0,830),(587,0,837),(598,0,842),(601,0,849),(614,0,856),(616,0,861),(631,0,868),(633,0,875),(643,0,880),(664,0,887),(672,0,894),(687,0,899),(704,0,904)].flatMap λ(x:Nat×Nat×Nat)=>[.int x.1 0,.int x.2.1 0,⇑x.2.2]),co "<module>" "<module>" 182 1 0 0 0 11 false [.none,.none,.none] 185,fr ⇑13 ⇑3 (.str "__main__" 164)]++(ml P++fl P))
noncomputable abbrev sf(w:World)(os:OsState):SharedT:=st w.params os 1501 (ol w.params)
noncomputable abbrev fs(w:World)(os:OsState):Shared:=(((ol w.params).toArray,{}),#[],boot_drawn,1501,os)
end LM
end
section
open PySem PySem.W PyProof.Rows
section
local macro_rules | `(tactic|o_head $H:term)=>`(tactic| (have _hook:=$H;assumption))
theorem My.k0(h:PySem.Challenge.rw_piecelay_k22_whole_shop.row.Holds):PySem.Challenge.rw_piecelay_k22_whole_shop.row.Holds:=by
 k_head
end
namespace My
noncomputable def view:Program:={PySem.Challenge.pw_piecelay_k22_whole_shop with main:={PySem.Challenge.pw_piecelay_k22_whole_shop.main with body:=[top 0,top 2,top 3,top 4,top 5,top 6,top 7,top 8,top 9,top 10,top 11,top 12,top 13,top 14,top 15,top 16,top 18,top 19,top 20,top 21,top 22,top 23,top 25,top 27,top 28,top 29,top 30,top 31,top 32,top 33,top 34,top 35,top 36,top 37,top 39,top 40,top 41,top 42,top 43,top 44,top 45,top 46,top 47,top 48,top 49,top 50,top 51,top 52,top 54,top 56,top 57,top 58,top 59,top 60,top 61,top 62,top 63,top 64,top 65,top 66,top 67,top 68,top 69,top 70,top 71,top 72,top 73,top 74,top 75,top 76,top 77,top 78,top 79,top 80,top 81,top 82,top 83,top 84,top 85,top 86,top 87,top 89,top 90,top 91,top 92,top 93,top 94,top 95,top 96,top 97,top 98,top 99,top 101,top 102,top 103,top 104,top 105,top 106,top 107,top 108,top 110,top 111,top 113,top 114,top 115,top 116,top 117,top 118,top 119,top 120,top 121,top 122,top 123,top 124,top 125,top 126,top 127,top 128,top 129,top 130,top 131]}}
noncomputable abbrev V2:Program:=PySem.Challenge.pw_piecelay_k22_whole_shop
noncomputable abbrev loose:List Str:=["need_size","MOST_IN_LEAF","TREES_IN_BRANCH","MOST_TOLD","run","run_machine","MARK_LENGTHS","FILLED_FROM","BASIC","lay_laying"]
noncomputable abbrev xt(s:Shared):Bool:=xlAt view [] s&&recOk (RowW.records (OpenRow.toRowW (OpenLaw.row PySem.Challenge.rw_piecelay_k22_whole_shop))) s
noncomputable abbrev kas:List Addr:=[2,3,15,17,18,20,21,22,29,30,31,32,35,42,43,44,47,54,55,56,59,66,67,68,71,78,79,80,83,90,91,92,95,102,103,104,107,114,115,116,119,126,127,128,131,138,139,140,143,150,151,152,155,162,163,164,167,174,175,176,179,186,188,189,191,192,193,194,195,198,205,207,208,210,211,212,213,214,217,219,220,222,223,224,226,227,229,230,231,234,235,236,237,239,240,242,243,244,247,248,249,250,251,253,254,256,257,258,260,261,263,264,265,268,269,270,272,273,275,276,277,279,280,282,283,284,286,287,289,290,291,293,294,296,297,298,299,300,301,302,303,304,305,306,307,308,309,310,311,312,313,314,315,316,317,318,321,322,323,325,326,328,329,330,332,333,335,336,337,339,340,342,343,351,353,354,356,357,358,360,361,363,364,365,367,368,370,371,372,374,375,377,378,379,381,382,384,385,386,388,389,391,392,393,395,396,398,399,400,401,402,403,404,407,409,410,412,413,414,415,417,418,420,421,422,423,424,425,426,427,428,429,430,431,432,433,434,435,436,437,438,439,440,441,442,443,444,445,446,447,448,449,450,451,452,453,454,455,456,457,458,459,460,461,462,463,464,465,466,468,469,471,472,473,476,477,478,480,481,483,484,485,488,489,490,493,494,495,497,498,500,501,502,504,505,507,508,509,512,513,514,516,517,519,520,521,523,524,526,527,528,531,532,533,535,536,538,539,540,542,543,545,546,547,549,550,552,553,554,556,557,559,560,561,563,564,566,567,568,570,571,573,574,575,578,579,580,583,584,585,588,589,590,593,594,595,596,597,599,600,602,603,604,606,607,609,610,611,613,614,616,617,618,620,621,623,624,625,628,629,630,632,633,635,636,637,639,640,642,643,644,647,648,649,652,653,654,656,657,659,660,661,663,664,666,667,668,670,671,673,674,682,683,685,686,688,689,690,693,694,695,697,698,700,701,702,704,705,707,708,709,712,713,714,716,717,719,720,721,723,724,726,727,728,730,731,733,734,735,737,738,740,741,742,744,745,747,748,749,751,752,754,755,756,759,760,761,764,765,766,768,769,771,772,773,775,776,778,779,780,781,782,783,784,787,789,790,792,793,794,796,797,799,800,801,804,805,806,809,810,818,820,821,823,824,825,827,828,830,831,832,834,835,837,838,844,846,847,849,850,851,853,854,856,857,858,861,862,882,884,885,887,888,889,891,892,894,895,896,899,900,901,904,905]
theorem kas_ok:∀P,kas=(My.k0.heap_1 P).map (·.1):=λ_=>by kernel_rfl
noncomputable abbrev hk:Hook:=kHook My.k0.heap_1 kas kas_ok
noncomputable abbrev NN:Nat:=7364
noncomputable abbrev cd:Code:=.body (behindTheImports V2) LM.env
noncomputable abbrev q0:Pos:=(0,0,0,0)
theorem m1:∀(w:World)(os:OsState),LT.goes V2 w 11 ↑⇑6 12 (LT.boot w.params os) (topStub V2)= ↑(LM.sa w os,(Fast.tw11892475500146522536 Fast.tw14364793385576792824 cd,cd,q0,[topFrame q0])):=λw os=>by kernel_rfl
theorem m2:∀(w:World)(os:OsState),LT.UT V2 w 11 ↑⇑6 1 (LM.sa w os) (blockOf (behindTheImports V2) LM.env cd q0 [topFrame q0])= ↑(.next,LM.sa w os,cd,q0):=λw os=>by kernel_rfl
theorem m3:∀(w:World)(os:OsState),LT.UT V2 w 11 ↑⇑6 3271 (LM.sa w os) (piecesOf ((behindTheImports V2).take 17) LM.env cd q0 [topFrame q0])= ↑(.next,LM.sm w os,cd,(35,0,38,26)):=λw os=>by kernel_rfl
noncomputable abbrev m4S(w:World):Prop:=∀os:OsState,LT.UT V2 w 11 ↑⇑6 4039 (LM.sm w os) (piecesOf ((behindTheImports V2).drop 17) LM.env cd (35,0,38,26) [topFrame q0])= ↑(.next,LM.sf w os,cd,(704,0,735,15))
theorem m4a:∀w:World,m4S (w.withFollow "special-get-raises" false):=λw os=>by kernel_rfl
theorem m4b:∀w:World,m4S (w.withFollow "special-get-raises" true):=λw os=>by kernel_rfl
theorem m5:∀(w:World)(os:OsState),LT.YW V2 w 11 ↑⇑6 41 (LM.sf w os) (restOf [] LM.env cd (704,0,735,15) [topFrame q0])= ↑(LM.sf w os):=λw os=>by kernel_rfl
theorem m6:∀(w:World)(os:OsState),(LM.sf w os).abs=LM.fs w os:=λw os=>by kernel_rfl
noncomputable abbrev im:=Fast.tw5923862056798008813 V2.main.body
theorem e1:∀(w:World)(os:OsState),staticsOk im (boot_heap w.params) (LM.fs w os).heap=true:=λw os=>by kernel_rfl
theorem e2:∀(w:World)(os:OsState),namesBound V2 (LM.fs w os).heap=true:=λw os=>by kernel_rfl
theorem e3:∀(w:World)(os:OsState),laidKept (boot_heap w.params) (LM.fs w os).heap=true:=λw os=>by kernel_rfl
noncomputable abbrev lT(w:World)(os:OsState):=Fast.tw4187177175401517315 view loose im xt true (LM.fs w os)
noncomputable abbrev kT:=openGood view loose
theorem g1:∀(w:World)(os:OsState),LT.c1 (lT w os)=LT.d1 kT:=λw os=>by kernel_rfl
theorem g2:∀(w:World)(os:OsState),LT.c2 (lT w os)=LT.d2 kT:=λw os=>by kernel_rfl
theorem g3:∀(w:World)(os:OsState),LT.c3 (lT w os)=LT.d3 kT:=λw os=>by kernel_rfl
theorem g4:∀(w:World)(os:OsState),LT.c4 (lT w os)=LT.d4 kT:=λw os=>by kernel_rfl
theorem g5:∀(w:World)(os:OsState),LT.c5 (lT w os)=LT.d5 kT:=λw os=>by kernel_rfl
theorem g6a:∀(w:World)(os:OsState),LT.tA 45 (LT.c6 (lT w os))=LT.tB 45 (LT.d6 kT):=λw os=>by kernel_rfl
theorem g6b:∀(w:World)(os:OsState),LT.rA 45 (LT.c6 (lT w os))=LT.rB 45 (LT.d6 kT):=λw os=>by kernel_rfl
theorem g6(w:World)(os:OsState):LT.c6 (lT w os)=LT.d6 kT:=LT.cut2 45 (g6a w os) (g6b w os)
theorem g7:∀(w:World)(os:OsState),LT.c7 (lT w os)=LT.d7 kT:=λw os=>by kernel_rfl
theorem g8:∀(w:World)(os:OsState),LT.c8 (lT w os)=LT.d8 kT:=λw os=>by kernel_rfl
theorem g9:∀(w:World)(os:OsState),LT.c9 (lT w os)=LT.d9 kT:=λw os=>by kernel_rfl
theorem g0:∀(w:World)(os:OsState),Hook.obs hk (LM.fs w os)=Hook.val hk w:=λw os=>by kernel_rfl
theorem left:LeftO V2 view loose xt (Hook.obs hk) (Hook.val hk) NN :=
 LT.YX (by rfl) ⋯ (λs=>by rfl) ⋯ (Qu 17 _) m1 m2 m3 (λw=>byRow2 "special-get-raises" (P:=m4S) m4a m4b w) m5 m6 (λw os=>by rw[e1,e2,e3];rfl) (λw os=>LT.all9 (g1 w os) (g2 w os) (g3 w os) (g4 w os) (g5 w os) (g6 w os) (g7 w os) (g8 w os) (g9 w os)) g0
end My
end
section
namespace My
open PySem PySem.W PyProof.Rows
noncomputable abbrev lw:=PySem.Challenge.rw_piecelay_k22_whole_shop
noncomputable abbrev ZM:=lw.row.prog
theorem sd1:namesResolve ZM=true:=by kernel_rfl
theorem sd2:(namesMeet ZM ZM.main.body λ_ n=>attrL n)=true:=by kernel_rfl
theorem sd3:looksOpen ZM=true:=by unfold looksOpen;rw[sd1,sd2];kernel_rfl
theorem said:OpenLaw.wellSaid lw=true:=by unfold OpenLaw.wellSaid OpenRow.wellSaid OpenRow.partSaid;rw[sd3];kernel_rfl
end My
namespace L2
open PySem PySem.Spec PyProof.Rows
inductive V where
 |Ro|bl (b:Bool)|int (i:Int)|str (x:Str)|ref (a:Addr)|ty (n:String)
 deriving DecidableEq
noncomputable def RelV:V->Value->Prop
 | .Ro,u=>u=Value.none
 | .bl b,u=>u=Value.bool b
 | .int i,u=>∃t,u=Value.int i t
 | .str x,u=>∃t,u=Value.str x t
 | .ref a,u=>u=Value.ref a
 | .ty n,u=>u=Value.type n
noncomputable abbrev Vals:List V->List Value->Prop:=Paired RelV
theorem Vals.length(r:Vals a d):a.length=d.length:=Rg r
theorem Vals.get:∀{xs:List V}{a:qw}{i:Nat}{x:V},Vals xs a->xs[i]?= ↑x->∃u,a[i]?= ↑u/\RelV x u
 |_,_,_,_,.nil,e=>by simp at e
 |_,_,0,_,.cons r _,e=>by simp at e;subst e;exact(_,rfl,r)
 |_,_,i+1,x,.cons _ t,e=>by let(u,h1,d):=Vals.get (i:=i) (x:=x) t (by simpa using e);exact(u,by simpa using h1,d)
theorem Vals.set(r:RelV x u):∀{a:List V}{d:qw}(i:Nat),Vals a d->Vals (a.set i x) (d.set i u)
 |_,_,_,.nil=>.nil
 |_,_,0,.cons _ t=>.cons r t
 |_,_,i+1,.cons q t=>.cons q (Vals.set r i t)
theorem Vals.append:∀{a d:List V}{e f:qw},Vals a e->Vals d f->Vals (a++d) (e++f)
 |_,_,_,_,.nil,s=>s
 |_,_,_,_,.cons r t,s=>.cons r (Vals.append t s)
theorem Vals.take:∀{a:List V}{d:qw}(n:Nat),Vals a d->Vals (a.take n) (d.take n)
 |_,_,0,_=>.nil
 |_,_,_+1,.nil=>.nil
 |_,_,n+1,.cons r t=>.cons r (Vals.take n t)
theorem Vals.drop:∀{a:List V}{d:qw}(n:Nat),Vals a d->Vals (a.drop n) (d.drop n)
 |_,_,0,r=>r
 |_,_,_+1,.nil=>.nil
 |_,_,n+1,.cons _ t=>Vals.drop n t
noncomputable def TN:Option V->Option Value->Prop
 |some v,↑u=>RelV v u
 |none,none=>True
 |_,_=>False
noncomputable def KV:List (Str×V)->List (Str×Value)->Prop:=Paired λp q=>p.1=q.1/\RelV p.2 q.2
noncomputable def cw(a:List (Str×V))(k:Str):Option V:=(a.find? λd=>decide (d.1=k)).map (·.2)
noncomputable def dZ(a:List (Str×V))(k:Str)(v:V):List (Str×V) :=
 if (a.any λd=>decide (d.1=k))=true then a.map (λd=>if d.1=k then (d.1,v)else d)else a++[Prod.mk k v]
theorem Bf{p:Str×V}(e:p.1=k):cw (p::r) k= ↑p.2:=by simp[cw,O2,e]
theorem Be{p:Str×V}(e:¬ p.1=k):cw (p::r) k=cw r k:=by simp[cw,O2,e]
theorem ma(k:Str)(a:List (Str×V)):(a.any λd=>decide (d.1=k))=(cw a k).isSome:=by rw[cw,Option.isSome_map,List.isSome_find?]
theorem gg(a:List (Str×V))(k:Str)(v:V):(dZ a k v).length<=a.length+1:=by unfold dZ;split<;>simp
theorem Au(v:V)(h:cw a k=none):dZ a k v=a++[Prod.mk k v]:=by unfold dZ;rw[ma,h];exact NH ⋯
theorem xC(k:Str)(v:V)(g:Str)(a:List (Str×V)):cw (dZ a k v) g=if g=k then ↑v else cw a g:=by
 have t:∀l:List (Str×V),cw (l.map λd=>if d.1=k then (d.1,v)else d) g=(cw l g).map λu=>if g=k then v else u:=by
  intro l
  induction l with
  |nil=>rfl
  |cons p r f =>unfold cw at f ⊢;rw[NR,O2,O2];by_cases e:p.1=k<;>by_cases z:p.1=g<;>grind
 unfold dZ;rw[ma];by_cases h:(cw a k).isSome=true
 ·rw[NL h,t];by_cases z:g=k
  ·subst z;let(u,e):=Pq.mp h;rw[e];simp
  ·simp[z]
 ·rw[NH h];unfold cw at h ⊢;rw[List.find?_append];by_cases z:g=k<;>grind
theorem Bc(h:cw a g= ↑v):g∈a.map (·.1):=by let(p,q,_):=N1.mp h;have e:=List.find?_some q;exact OO.mpr (p,List.mem_of_find?_eq_some q,NT e)
inductive HO where
 |lst (xs:List V)
 |tup (xs:List V)
 |dK (kvs:List (Str×V))
 |ins (C dx:Addr) (fs:List (Str×V))
 |own (x:Addr)
 |U8 (lo hi:Int)
 |Th (o:Obj) (u:HO)
 |ext (φ:Heap->Prop)
noncomputable abbrev Hp:=Addr->Option HO
noncomputable def upd(H:Hp)(a:Addr)(o:HO):Hp:=λb=>if b=a then ↑o else H b
theorem ak:upd H a o a= ↑o:=by unfold upd;rw[NL rfl]
theorem ao(h:b≠a):upd H a o b=H b:=by unfold upd;rw[NH h]
theorem bo{H:Hp}(h:H a= ↑o)(d:H b=none):a≠b:=by intro e;subst e;rw[h]at d;cases d
section
variable(P:Program)(w:World)
noncomputable def RD(H:Hp)(h:Heap)(a:Addr):HO->Prop
 | .lst e=>e.length<=sizeLine/\∃(d:qw)(n:Nat),Vals e d/\h.get? a=some {cls:=.type "list",data:=.seq d.toArray n}
 | .tup e=>e.length<=sizeLine/\∃d:List Value,Vals e d/\IsTup h a d.toArray
 | .dK g=>g.length<=sizeLine/\(a==sysModules)=false/\∃j,KV g j/\h.DictOf (strKind P w) a j
 | .ins C i fs=>H i= ↑(.own a)/\fs.length<=1000/\i≠a/\h.get? a= ↑(W.instObj C i) /\
   ∃k,h.Ns1 i k/\∀f,TN (cw fs f) (k f)
 | .own _=>∃o,h.get? a= ↑o
 | .U8 lo m=>∃t u v,h.get? a=some {cls:=.type "range",data:=.fields #[.int lo t,.int m u,.int 1 v]}
 | .Th o u=>h.get? a= ↑o/\RD H h a u
 | .ext φ=>φ h/\(∃o,h.get? a= ↑o)/\∀h1 l:Heap,φ h1->(∀o,h1.get? a= ↑o->l.get? a= ↑o)->φ l
noncomputable def SK(H:Hp)(h:Heap):Prop:=∀a o,H a= ↑o->RD P w H h a o
end
section
theorem RD.has(x:RD P w H h a o):∃u,h.get? a= ↑u:=by
 cases o with
 |lst d=>let(_,_,_,_,e):=x;exact(_,e)
 |tup d=>let(_,_,_,o,e,_):=x;exact(_,e)
 |dK f=>let(_,_,_,_,o,_,_,e,_):=x;exact(_,e)
 |ins C g fs=>let(_,_,_,e,_):=x;exact(_,e)
 |own y=>exact x
 |U8 lo i=>let(_,_,_,e):=x;exact(_,e)
 |Th ob u=>exact(_,x.1)
 |ext φ=>exact x.2.1
theorem RD.lt(x:RD P w H h a o):a<h.objs.size:=let⟨_,e⟩:=x.has;NW e
theorem RD.stay{j:Heap}(x:RD P w H h a o)(k:∀b u,(b=a\/H b= ↑(.own a))->h.get? b= ↑u->j.get? b= ↑u)
  (l:∀b,H b= ↑(.own a)->m b= ↑(.own a)):RD P w m j a o:=by
 induction o with
 |lst B=>let(z,f,n,r,e):=x;exact(z,f,n,r,k _ _ (.inl rfl) e)
 |tup B=>let(z,f,r,ob,e,c):=x;exact(z,f,r,ob,k _ _ (.inl rfl) e,c)
 |dK E=>let(z,y,G,r,ob,g,i,e,c):=x;exact(z,y,G,r,ob,g,i,k _ _ (.inl rfl) e,c)
 |ins C M fs =>let(d,z,ne,e,I,(J,g,i,e2,c),r):=x;exact(l _ d,z,ne,k _ _ (.inl rfl) e,I,(J,g,i,k _ _ (.inr d) e2,c),r)
 |own y=>let(ob,e):=x;exact(ob,k _ _ (.inl rfl) e)
 |U8 lo N=>let(t,u,v,e):=x;exact(t,u,v,k _ _ (.inl rfl) e)
 |Th ob u L=>let(e,q):=x;exact(k _ _ (.inl rfl) e,L q)
 |ext φ=>let(p,(o,e),st):=x;exact(st _ _ p λo q=>k _ _ (.inl rfl) q,(o,k _ _ (.inl rfl) e),st)
theorem SK.lt(x:SK P w H h)(e:H a= ↑o):a<h.objs.size:=(x a o e).lt
theorem SK.fresh{P:Program}{w:World}{H:Hp}{h:Heap}{a:Addr}(x:SK P w H h)(e:h.objs.size<=a):H a=none:=by
 cases q:H a with
 |none=>rfl
 |some u=>exact absurd (NV (x.lt q) e) (Ph _)
theorem SK.kept{h':Heap}(x:SK P w H h)(k:∀b u,h.get? b= ↑u->h'.get? b= ↑u):SK P w H h':=λa o e =>
 (x a o e).stay (λb u _ q=>k b u q) λ_ q=>q
theorem SK.laid{P:Program}{w:World}{H:Hp}{h h':Heap}{a:Addr}{o:HO}(x:SK P w H h)(k:∀b u,h.get? b= ↑u->h'.get? b= ↑u)(f:h.objs.size<=a)(new:RD P w (upd H a o) h' a o):SK P w (upd H a o) h':=λb u e=>by
 have g:=x.fresh f;by_cases d:b=a
 ·subst d;rw[ak]at e;cases e;exact new
 ·rw[ao d]at e;exact(x b u e).stay (λc v _ q=>k c v q) λc q=>by rw[ao (bo q g)];exact q
end
noncomputable def Rd(H:Hp)(a:Addr)(u:HO):Prop:=H a= ↑u\/∃o,H a= ↑(.Th o u)
theorem Rd.ok(r:Rd H a u)(x:SK P w H h):RD P w H h a u:=by
 rcases r with r|⟨o,r⟩
 ·exact x a u r
 ·let(_,q):=x a _ r;exact q
noncomputable def YY:Option HO->Prop
 |some (.lst _)=>True
 |some (.dK _)=>True
 |some (.ins _ _ _)=>True
 |some (.ext _)=>True
 |_=>False
section
theorem SK.write{a:Heap}(ok:SK P w H h)(g:YY (H x))(i:e=x\/H e= ↑(.own x))(k:∀b u,b≠e->h.get? b= ↑u->a.get? b= ↑u)(p:∃u,a.get? e= ↑u)
  (new:RD P w (upd H x j) a x j):SK P w (upd H x j) a:=λb u q=>by
 have l:∀c y,H c= ↑(.own y)->c≠x:=λc y r z=>by subst z;rw[r]at g;exact g
 by_cases d:b=x
 ·subst d;rw[ak]at q;cases q;exact new
 ·rw[ao d]at q;by_cases f:b=e
  ·have m:H b= ↑(.own x):=by
    rcases i with z|z
    ·exact absurd (f.trans z) d
    ·rw[f];exact z
   rw[q]at m;cases m;let(v,t):=p;exact(v,by rw[f];exact t)
  ·refine(ok b u q).stay (λc v hc r=>k c v ?_ r) λc r=>by rw[ao (l c b r)];exact r
   rcases hc with rfl|hc
   ·exact f
   ·rintro rfl;rcases i with z|z
    ·exact l c b hc z
    ·rw[hc]at z;cases z;exact d rfl
end
structure Un(fs ex:zz)(H H':Hp)(h h':Heap):Prop where
 keep:∀b o,h.get? b= ↑o->H b=none->b∉fs->b∉ex->h'.get? b= ↑o
 slot:∀b o,h.get? b= ↑o->H b=none->b∈fs->b∉ex->∃sl,h'.get? b=some {o with slots:=sl}
 free:∀b o,h.get? b= ↑o->H b=none->b∉ex->H' b=none
 there:∀b o,h.get? b= ↑o->b∉ex->∃o',h'.get? b= ↑o'
 T9:∀b o u,H b= ↑(.Th o u)->H' b= ↑(.Th o u)
section
theorem Un.any(u:Un fs ex H f h h1)(q:h.get? b= ↑ob)(n:H b=none)(a:b∉ex):∃e,h1.get? b=some {ob with slots:=e}:=by
 by_cases d:b∈fs
 ·exact u.slot b ob q n d a
 ·exact(ob.slots,u.keep b ob q n d a)
theorem Un.kept{h h':Heap}(k:∀b u,h.get? b= ↑u->h'.get? b= ↑u):Un fs ex H H h h' :=
 (λb ob q _ _ _=>k b ob q,λb ob q _ _ _=>(ob.slots,k b ob q),λ_ _ _ n _=>n,λb ob q _=>(ob,k b ob q),λ_ _ _ q=>q)
theorem Un.refl:Un fs ex H H h h:=Un.kept λ_ _ q=>q
theorem Un.laid{fs ex:zz}{H:Hp}{h h':Heap}{a:Addr}{o:HO}(k:∀b u,h.get? b= ↑u->h'.get? b= ↑u)(d:h.objs.size<=a)(e:H a=none):Un fs ex H (upd H a o) h h' where
 keep:=λb u q _ _ _=>k b u q
 slot:=λb u q _ _ _=>(u.slots,k b u q)
 free:=λb u q n _=>by rw[ao (N3 (NV (NW q) d))];exact n
 there:=λb u q _=>(u,k b u q)
 T9:=λb u f q=>by rw[ao (bo q e)];exact q
theorem Un.write{h d:Heap}(a:YY (H x))(j:e=x\/H e= ↑(.own x))(k:∀b u,b≠e->h.get? b= ↑u->d.get? b= ↑u)(l:∃u,d.get? e= ↑u):Un fs ex H (upd H x o) h d:=by
 have f:∀b,H b=none->b≠x:=λb n z=>by subst z;rw[n]at a;exact a
 have g:∀b,H b=none->b≠e:=λb n z=>by
  subst z;rcases j with r|r
  ·exact f b n r
  ·rw[n]at r;cases r
 have m:∀b u,H b= ↑u->¬ YY ↑u->b≠x:=λb u q nm z=>by subst z;rw[q]at a;exact nm a
 refine⟨λb u q n _ _=>k b u (g b n) q,λb u q n _ _=>(u.slots,k b u (g b n) q),λb u q n _=>by rw[ao (f b n)];exact n,λb u q _=>?_,
  λb u p q=>by rw[ao (m b _ q λz=>z)];exact q⟩
 by_cases i:b=e
 ·subst i;exact l
 ·exact(u,k b u i q)
end
noncomputable def ZN(h:Heap)(H:Hp):List Addr:=(List.range h.objs.size).filter λa=>(H a).isSome
noncomputable def oE(h:Heap)(H:Hp):Heap:=W.hideAll h (ZN h H)
theorem wH(h:Heap)(H:Hp):(oE h H).objs.size=h.objs.size:=W.hideAll_size _ _
theorem yM{h:Heap}(e:h.get? b= ↑o)(n:H b=none):(oE h H).get? b= ↑o :=
 W.hideAll_get _ e λa=>by have q:(H b).isSome=true:=(P6.mp a).2;rw[n]at q;simp at q
theorem Cm(e:(oE h H).get? b= ↑o):h.get? b= ↑o/\H b=none:=by
 have a:h.get? b= ↑o:=W.of_hideAll (ZN h H) e;refine(a,?_)
 cases q:H b with
 |none=>rfl
 |some x =>have d:b∈ZN h H:=P6.mpr (Q6.mpr (NW a),by simp[q]);have z:(oE h H).get? b=none:=Qc (ZN h H) d;rw[z]at e;cases e
structure Mod(K:qs)(mg:za)(base:Heap):Prop where
 WJ:K.In base
 glob:base.Ns mainGlobals mg
 blt:∃mb,base.Ns builtinsNs mb/\∀x:Str,x≠"__name__"->mb x=bootBuiltins x
 nolimit:base.NoLimit
structure Cx where
 prog:Program
 w:World
 K:W.Frag
 mg:Str->Option Value
 base:Heap
 A:Around
 N:List Str
 s₀:Shared
 H₀:Hp
 env:Env
 outer:List Env
 stack:List Env
 ex:List Addr
 fn:Str->Bool
 calm:Bool
 pn:List (Addr×Obj)
 xe:Value->Shared->Prop
noncomputable def frs(l:List Env):List Addr:=l.filterMap (·.frame)
noncomputable abbrev Cx.fs(X:Cx):List Addr:=frs X.outer
noncomputable def W6(a:Scope)(x:Str):Prop:=a.names.lookup x=some .local\/a.names.lookup x=some .cell\/a.names.lookup x=some .free
noncomputable def Loc(a:Scope)(x:Str):Prop:=a.names.lookup x=some .local\/a.names.lookup x=some .cell
noncomputable def D8(env:Env)(h:Heap)(m:za)(x:Str)(u:Value):Prop :=
 (env.kindOf x=some .local/\m x= ↑u)\/((env.kindOf x=some .cell\/env.kindOf x=some .free)/\∃c,env.cells.lookup x= ↑c/\h.IsCell c ↑u)
structure Cx.Ok(X:Cx):Prop where
 mod:Mod X.K X.mg X.base
 kind:X.env.scope.kind=.function
 glob:X.env.globals=mainGlobals
 blt:X.env.builtins=builtinsNs
 above:X.s₀.heap.objs.size<=X.env.locals
 inj:∀x y c,X.env.cells.lookup x= ↑c->X.env.cells.lookup y= ↑c->x=y
 has:∀x,(X.env.kindOf x=some .cell\/X.env.kindOf x=some .free)->∃c,X.env.cells.lookup x= ↑c
 Xv:∀x c,X.fn x=true->X.env.cells.lookup x= ↑c->X.s₀.heap.objs.size<=c
 hd:X.calm=true->X.A.handled=none
 frames:X.A.frames= ↑X.stack
 stk:X.stack=X.outer\/(X.stack=X.env::X.outer/\X.env.frame= ↑X.env.locals)
 XW:∀b∈X.ex,b≠X.env.locals/\∀x c,X.env.cells.lookup x= ↑c->c≠b
 bs:∀b o,X.base.get? b= ↑o->X.s₀.heap.get? b= ↑o/\X.H₀ b=none
 VP:X.base.objs.size<=X.s₀.heap.objs.size
 Vd:∀b o,X.base.get? b= ↑o->b∉X.ex
 Ve:∀b∈X.ex,b∉X.fs
 S8:X.s₀.heap.FunFrames X.base X.outer
 Wg:∀b∈X.fs,X.H₀ b=none
structure Inv(X:Cx)(pins:qa)(σ:List (Option V))(H:Hp)(s:Shared):Prop where
 ok:X.Ok
 os:s.os=X.s₀.os
 bare:AllBare s.gens
 base:Un X.fs X.ex X.H₀ H X.s₀.heap s.heap
 loc:∃m,s.heap.Ns X.env.locals m/\∀(i:Nat)(x:Str)(v:V),X.N[i]?= ↑x->σ[i]?= ↑(some v)->W6 X.env.scope x->∃u,RelV v u/\D8 X.env s.heap m x u
 cell:∀x c,X.env.cells.lookup x= ↑c->∃v,s.heap.IsCell c v
 free:H X.env.locals=none
 R7:∀x c,X.env.cells.lookup x= ↑c->H c=none
 pin:∀p∈X.pn++pins,s.heap.get? p.1= ↑p.2/\H p.1=none/\p.1≠X.env.locals/\p.1∉X.fs/\∀v,p.2.data≠.cell v
 hok:SK X.prog X.w H s.heap
 len:σ.length=X.N.length
section
theorem Cx.Ok.nofr{X:Cx}(ok:X.Ok)(e:X.base.get? b= ↑o):b∉X.fs:=λa=>by have:=(ok.S8.mem a).1;rw[e]at this;cases this
theorem Inv.bs(I:Inv X a d H s):∀b o,X.base.get? b= ↑o->s.heap.get? b= ↑o/\H b=none:=λb o e =>
 (I.base.keep b o (I.ok.bs b o e).1 (I.ok.bs b o e).2 (I.ok.nofr e) (I.ok.Vd b o e),I.base.free b o (I.ok.bs b o e).1 (I.ok.bs b o e).2 (I.ok.Vd b o e))
theorem Inv.bk(I:Inv X a d H s):∀b o,X.base.get? b= ↑o->s.heap.get? b= ↑o:=λb o e=>(I.bs b o e).1
theorem Inv.mod(I:Inv X a d H s):Mod X.K X.mg X.base:=I.ok.mod
theorem Inv.Se(I:Inv X a d H s):X.K.In s.heap:=I.ok.mod.WJ.keeps I.bk
theorem Inv.lt(I:Inv X a e H s):X.env.locals<s.heap.objs.size:=let⟨_,d,_⟩:=I.loc;d.lt
theorem Inv.sz(I:Inv X a d H s):X.s₀.heap.objs.size<=s.heap.objs.size:=N4 I.ok.above (O9 I.lt)
theorem Inv.nofs{X:Cx}{d:qa}{e:List (Option V)}{H:Hp}{s:Shared}(I:Inv X d e H s){a:Addr}(h:s.heap.objs.size<=a):a∉X.fs:=λf=>by let(_,o,g,_):=I.ok.S8.mem f;exact absurd (NV (NW g) (N4 I.sz h)) (Ph _)
theorem Inv.Xw(I:Inv X f j H s):∀x c,X.env.cells.lookup x= ↑c->c≠X.env.locals:=λx c e z=>by let(v,o,g,i):=I.cell x c e;let(m,(k,l,p,a,d,_),_):=I.loc;rw[z,a]at g;cases g;rw[d]at i;cases i
theorem Inv.S8(I:Inv X g q H s):s.heap.FunFrames X.base X.outer:=by
 have all:∀(l:List Env),(∀b∈frs l,b∈X.fs)->X.s₀.heap.FunFrames X.base l->s.heap.FunFrames X.base l:=by
  intro l
  induction l with
  |nil=>intro _ _;trivial
  |cons env r i =>intro hs hl;let(hk,(L,o,a,j,k,m),p):=hl;have d:L∈X.fs:=hs L (by unfold frs;rw[QZ,a];exact OP);let(t,e):=I.base.slot L o k (I.ok.Wg L d) d λz=>I.ok.Ve L z d;exact(hk,(L,_,a,j,e,m),i (λb f=>hs b (by unfold frs;rw[QZ,a];exact Oi _ f)) p)
 exact all X.outer (λ_ f=>f) I.ok.S8
theorem Inv.stack(I:Inv X a g H s):s.heap.FunFrames X.base X.stack:=by
 rcases I.ok.stk with e|⟨e,d⟩
 ·rw[e];exact I.S8
 ·rw[e];let(m,f,_):=I.loc;refine .cons (by rw[I.ok.kind];decide) d f ?_ I.S8;exact Heap.get?_none_of_le (N4 I.ok.VP I.ok.above)
theorem Inv.Vt(I:Inv X d g H s):∀b∈frs X.stack,b∈X.env.locals::X.fs:=λb a=>by
 rcases I.ok.stk with e|⟨e,f⟩
 ·rw[e]at a;exact Oi _ a
 ·rw[e]at a;unfold frs at a;rw[QZ,f]at a;exact a
theorem Inv.Ud(I:Inv X a f H s):∀b∈frs X.stack,H b=none:=λb hb=>by
 rcases NB.mp (I.Vt b hb)with e|hb
 ·rw[e];exact I.free
 ·let(_,o,d,_):=I.ok.S8.mem hb;exact I.base.free b o d (I.ok.Wg b hb) λz=>I.ok.Ve b z hb
theorem Inv.step{X:Cx}{f:qa}{T:List (Option V)}{H J:Hp}{s:Shared}{t:Heap}{g':Array GenState}{d':Drawn}{ch:zz}(I:Inv X f T H s)
  (g:∀b∈ch,(b∈X.ex\/X.s₀.heap.objs.size<=b)/\b≠X.env.locals/\(∀x c,X.env.cells.lookup x= ↑c->c≠b)/\∀p∈X.pn++f,p.1≠b)
  (keep:∀b o,b≠X.env.locals->b∉X.fs->b∉ch->s.heap.get? b= ↑o->H b=none->t.get? b= ↑o)
  (slot:∀b o,b≠X.env.locals->b∈X.fs->b∉ch->s.heap.get? b= ↑o->H b=none->∃M,t.get? b=some {o with slots:=M}) (free:∀b o,b∉ch->s.heap.get? b= ↑o->H b=none->J b=none)
  (there:∀b o,b∉ch->s.heap.get? b= ↑o->∃E,t.get? b= ↑E)
  (T9:∀b o u,H b= ↑(.Th o u)->J b= ↑(.Th o u))
  (ns:∀m,s.heap.Ns X.env.locals m->t.Ns X.env.locals m) (N:SK X.prog X.w J t) (hg:AllBare g') :
  Inv X f T J {s with heap:=t,gens:=g',drawn:=d',toks:=t'}:=by
 have Xx:∀b o,X.s₀.heap.get? b= ↑o->b≠X.env.locals:=λb o e=>N3 (NV (NW e) I.ok.above)
 have L:∀b o,X.s₀.heap.get? b= ↑o->b∉X.ex->b∉ch:=λb o e a y=>by
  rcases(g b y).1 with z|z
  ·exact a z
  ·exact absurd (NV (NW e) z) (Ph _)
 have j:∀x c,X.env.cells.lookup x= ↑c->∀v,s.heap.IsCell c v->t.IsCell c v:=λx c e v ⟨o,B,O⟩=>by
  have G:c∉ch:=λz=>(g c z).2.2.1 x c e rfl;by_cases U:c∈X.fs
  ·let(M,q):=slot c o (I.Xw x c e) U G B (I.R7 x c e);exact(_,q,O)
  ·exact(o,keep c o (I.Xw x c e) U G B (I.R7 x c e),O)
 refine(I.ok,I.os,hg,(λb o e n y a=>?_,λb o e n y a=>?_,λb o e n a=>?_,λb o e a=>?_,λb o Y e=>T9 b o Y (I.base.T9 b o Y e)),?_,λx c e=>?_,?_,λx c e=>?_,λp hp=>?_,N,I.len)
 ·exact keep b o (Xx b o e) y (L b o e a) (I.base.keep b o e n y a) (I.base.free b o e n a)
 ·let(M,e1):=I.base.slot b o e n y a;let(Q,e2):=slot b _ (Xx b o e) y (L b o e a) e1 (I.base.free b o e n a);exact(Q,e2)
 ·let(E,e1):=I.base.there b o e a;exact free b E (L b o e a) e1 (I.base.free b o e n a)
 ·let(E,e1):=I.base.there b o e a;exact there b E (L b o e a) e1
 ·let(m,hn,hl):=I.loc;refine(m,ns m hn,λi x v e1 e2 e3=>?_);let(u,r,l):=hl i x v e1 e2 e3;refine(u,r,?_);rcases l with l|⟨k,c,e,z⟩
  ·exact .inl l
  ·exact .inr (k,c,e,j x c e _ z)
 ·let(v,z):=I.cell x c e;exact(v,j x c e v z)
 ·let(m,(o,_,_,B,_),_):=I.loc;exact free _ o (λz=>(g _ z).2.1 rfl) B I.free
 ·let(v,o,B,O):=I.cell x c e;exact free c o (λz=>(g c z).2.2.1 x c e rfl) B (I.R7 x c e)
 ·let(e,n,ne,nf,d):=I.pin p hp;have G:p.1∉ch:=λz=>(g p.1 z).2.2.2 p hp rfl;exact(keep p.1 p.2 ne nf G e n,free p.1 p.2 G e n,ne,nf,d)
theorem Inv.un(I:Inv X a l H s)(u:Un X.fs [] H j s.heap h')(f:SK X.prog X.w j h'):Inv X a l j {s with heap:=h',toks:=t'}:=by
 let(m,(o,y,B,k,r),_):=id I.loc;let(E,p):=u.any k I.free (by simp)
 exact I.step (g':=s.gens) (d':=s.drawn) (ch:=[]) (λ_ z=>nomatch z) (λb o _ g _ e n=>u.keep b o e n g (by simp)) (λb o _ g _ e n=>u.slot b o e n g (by simp)) (λb o _ e n=>u.free b o e n (by simp)) (λb o _ e=>u.there b o e (by simp)) u.T9 (λG q=>by
  let(J,i,t,d,v):=q;rw[k]at d;cases d;exact(_,i,t,p,v)) f I.bare
theorem Inv.call(I:Inv X a t H s)(u:Un (frs X.stack) ch H l s.heap h')(i:SK X.prog X.w l h')(v:AllBare g')
  (f:∀b∈ch,(b∈X.ex\/X.s₀.heap.objs.size<=b)/\b≠X.env.locals/\(∀x c,X.env.cells.lookup x= ↑c->c≠b)/\∀p∈X.pn++a,p.1≠b) :
  Inv X a t l {s with heap:=h',gens:=g',drawn:=d',toks:=t'}:=by
 let(m,(o,J,L,q,r),_):=id I.loc;let(M,j):=u.any q I.free λz=>(f _ z).2.1 rfl
 exact I.step (ch:=ch) f (λb o j y d e n=>u.keep b o e n (λz=>(NB.mp (I.Vt b z)).elim j y) d) (λb o _ _ d e n=>u.any e n d) (λb o d e n=>u.free b o e n d) (λb o d e=>u.there b o e d) u.T9 (λN B=>by
  let(O,k,E,g,G):=B;rw[q]at g;cases g;exact(_,k,E,j,G)) i v
theorem Inv.tok(I:Inv X a d H s)(t:Nat):Inv X a d H {s with toks:=t}:=I.un (h':=s.heap) (t':=t) Un.refl I.hok
theorem Inv.kept{h':Heap}(I:Inv X a d H s)(k:∀b u,s.heap.get? b= ↑u->h'.get? b= ↑u):Inv X a d H {s with heap:=h',toks:=t'}:=I.un (Un.kept k) (I.hok.kept k)
theorem Inv.laid{X:Cx}{d:qa}{f:List (Option V)}{H:Hp}{s:Shared}{h':Heap}{a:Addr}{o:HO}{t':Nat}(I:Inv X d f H s)(k:∀b u,s.heap.get? b= ↑u->h'.get? b= ↑u)(e:s.heap.objs.size<=a)(new:RD X.prog X.w (upd H a o) h' a o) :
  Inv X d f (upd H a o) {s with heap:=h',toks:=t'}:=I.un (Un.laid k e (I.hok.fresh e)) (I.hok.laid k e new)
theorem Inv.write{d:Heap}(I:Inv X a j H s)(f:YY (H x))(g:e=x\/H e= ↑(.own x))(k:∀b u,b≠e->s.heap.get? b= ↑u->d.get? b= ↑u)(i:∃u,d.get? e= ↑u)
  (new:RD X.prog X.w (upd H x o) d x o):Inv X a j (upd H x o) {s with heap:=d,toks:=l}:=I.un (Un.write f g k i) (I.hok.write f g k i new)
theorem Inv.VQ(I:Inv X a d H s)(h:∀p∈e,s.heap.get? p.1= ↑p.2/\H p.1=none/\p.1≠X.env.locals/\p.1∉X.fs/\∀v,p.2.data≠.cell v):Inv X e d H s :=
 (I.ok,I.os,I.bare,I.base,I.loc,I.cell,I.free,I.R7,λp f=>(NS.mp f).elim (λz=>I.pin p (Oj _ z)) (h p),I.hok,I.len)
theorem rp{N:zl}(d:N.Nodup){i j:Nat}{x:Str}(a:N[i]?= ↑x)(b:N[j]?= ↑x):i=j:=by let(h1,e1):=LD.mp a;let(e,e2):=LD.mp b;exact(List.getElem_inj d).mp (e1.trans e2.symm)
theorem Inv.but(I:Inv X d E H s)(hs:Heap.SameBut a s.heap f)(t:H a=none)(y:X.s₀.heap.objs.size<=a)(B:∀p∈X.pn++d,p.1≠a)
  (loc:∃m,f.Ns X.env.locals m/\∀(i:Nat)(x:Str)(v:V),X.N[i]?= ↑x->g[i]?= ↑(some v)->W6 X.env.scope x->∃u,RelV v u/\D8 X.env f m x u)
  (j:∀x c,X.env.cells.lookup x= ↑c->∃v,f.IsCell c v) (len:g.length=X.N.length):Inv X d g H {s with heap:=f,toks:=G} :=
 have low:∀b o,X.s₀.heap.get? b= ↑o->f.get? b=s.heap.get? b:=λb o e=>hs.2 b (N3 (NV (NW e) y))
 ⟨I.ok,I.os,I.bare,(λb o e n l k=>(low b o e).trans (I.base.keep b o e n l k),λb o e n l k=>by rw[low b o e];exact I.base.slot b o e n l k,I.base.free,λb o e k=>by rw[low b o e];exact I.base.there b o e k,I.base.T9),loc,j,I.free,I.R7,λp q=>let⟨e,r⟩:=I.pin p q;((hs.2 p.1 (B p q)).trans e,r),λb ob e=>(I.hok b ob e).stay (λc w hc q=>(hs.2 c λz=>by
  subst z;rcases hc with rfl|hc
  ·rw[t]at e;cases e
  ·rw[t]at hc;cases hc).trans q) λ_ q=>q,len⟩
theorem Inv.Wo{d:Heap}(I:Inv X a l H s)(t:X.N.Nodup)(f:X.N[i]?= ↑x)(hk:X.env.kindOf x=some .local)
  (hl:∀(i:Nat)(y:Str)(v:V),X.N[i]?= ↑y->l[i]?= ↑(some v)->W6 X.env.scope y->∃u,RelV v u/\D8 X.env s.heap m y u)
  (B:d.Ns X.env.locals (λy=>if y=x then w else m y)) (hs:Heap.SameBut X.env.locals s.heap d) (E:∀v,o= ↑v->∃u,RelV v u/\w= ↑u):Inv X a (l.set i o) H {s with heap:=d,toks:=O}:=by
 refine I.but hs I.free I.ok.above (λp q=>(I.pin p q).2.2.1) (_,B,λj y v e1 e2 e3=>?_) (λy c e=>let⟨G,z⟩:=I.cell y c e;(G,z.sameBut hs (I.Xw y c e))) (by simpa using I.len);by_cases g:j=i
 ·subst g;rw[f]at e1;cases e1;rw[PV (by rw[I.len];exact(LD.mp f).1)]at e2;let(u,r,e):=E v (Oa e2);exact(u,r,.inl (hk,by simp[e]))
 ·rw[Qx (OB g)]at e2;let(J,L,q):=hl j y v e1 e2 e3;have M:y≠x:=λe=>g (rp t e1 (e▸f));exact(J,L,q.imp (λ⟨k,e⟩=>(k,(NH M).trans e)) λ⟨k,c,e,z⟩=>(k,c,e,z.sameBut hs (I.Xw y c e)))
theorem nB(I:Inv X g σ H s)(Y:X.N.Nodup)(B:X.N[i]?= ↑x)(hx:Loc X.env.scope x)(r:RelV v u)
  (h:∀J,Inv X g (σ.set i ↑v) H J->(∃a,Heap.SameBut a s.heap J.heap/\(a=X.env.locals\/X.env.cells.lookup x= ↑a))->Q () J) (hf:X.fn x=true\/X.env.scope.names.lookup x=some .local:=by first|exact .inl rfl|exact .inr rfl|assumption):wpAny M A (storeName X.env x u) Q E s:=by
 let(m,hn,hl):=id I.loc;rcases hx with hk|hk
 ·exact wpAny_storeName_local hk hn (λh' L hs=>h _ (I.Wo (o:= ↑v) Y B hk hl L hs λ_ e=>(u,by cases e;exact r,rfl)) (_,hs,.inl rfl)) (by rw[I.ok.kind];rfl)
 ·have O:X.fn x=true:=by
   rcases hf with z|z
   ·exact z
   ·rw[z]at hk;cases hk
  let(c,f):=I.ok.has x (.inl hk);let(w',z):=I.cell x c f;refine wpAny_storeName_cell I.ok.kind hk f z (λh' l hs=>?_);refine h {s with heap:=h'} (I.but hs (I.R7 x c f) (I.ok.Xv x c O f) (λp hp q=>?_) (m,hn.sameBut hs (OB (I.Xw x c f)),λj y v' e1 e2 e3=>?_) (λy G e=>?_) (by simpa using I.len)) (c,hs,.inr f)
  ·let(e,n,ne,nf,d):=I.pin p hp;let(oc,T,t):=z;rw[q,T]at e;cases e;exact d w' t
  ·by_cases U:j=i
   ·subst U;rw[B]at e1;cases e1;rw[PV (by rw[I.len];exact(LD.mp B).1)]at e2;cases e2;exact(u,r,.inr (.inl hk,c,f,l))
   ·rw[Qx (OB U)]at e2;let(u',r',q):=hl j y v' e1 e2 e3;refine(u',r',q.imp id λ⟨k,G,e,z'⟩=>(k,G,e,z'.sameBut hs ?_));rintro rfl;exact U (rp Y e1 (I.ok.inj _ _ _ e f▸B))
  ·by_cases w:G=c
   ·subst w;exact(_,l)
   ·let(w2,z2):=I.cell y G e;exact(w2,z2.sameBut hs w)
theorem gn(I:Inv X a e H s)(f:X.N.Nodup)(g:X.N[i]?= ↑x)(j:Loc X.env.scope x)(r:RelV v u)
  (h:∀d,Inv X a (e.set i ↑v) H d->Q () d) (k:X.fn x=true\/X.env.scope.names.lookup x=some .local:=by first|exact .inl rfl|exact .inr rfl|assumption):wpAny M A (storeName X.env x u) Q E s :=
 nB I f g j r (λd l _=>h d l) k
theorem Inv.UL{s':Shared}(I:Inv X a i H s)(j:s'.os=s.os)(u:Un (frs X.stack) ch H g s.heap s'.heap)(d:SK X.prog X.w g s'.heap)(k:AllBare s'.gens)
  (f:∀b∈ch,(b∈X.ex\/X.s₀.heap.objs.size<=b)/\b≠X.env.locals/\(∀x c,X.env.cells.lookup x= ↑c->c≠b)/\∀p∈X.pn++a,p.1≠b):Inv X a i g s':=by
 let(t,l,m,q,r):=s';have e:r=s.os:=j;subst e;exact I.call (g':=l) (t':=q) (d':=m) u d k f
end
noncomputable abbrev XK:=Value->Option Addr->Hp->Prop
noncomputable abbrev St:=List (Option V)
noncomputable abbrev VK:=V->Hp->Prop
noncomputable abbrev TE:=St->Hp->VK->Prop
noncomputable abbrev TT:=St->Hp->(Bool->Hp->Prop)->Prop
noncomputable abbrev TA:=St->Hp->(List V->Hp->Prop)->Prop
structure Ends where
 nx:St->Hp->Prop
 rt:VK
 bk:St->Hp->Prop:=λ_ _=>False
 ct:St->Hp->Prop:=λ_ _=>False
noncomputable abbrev TS:=Ends->St->Hp->Prop
noncomputable def EP(X:Cx)(a:qa)(e:St)(Q:VK)(u:Value)(f:Shared):Prop:=∃v d,Inv X a e d f/\RelV v u/\Q v d
noncomputable def TP(X:Cx)(a:qa)(e:St)(Q:Bool->Hp->Prop)(b:Bool)(f:Shared):Prop:=∃d,Inv X a e d f/\Q b d
noncomputable def AP(X:Cx)(a:qa)(f:St)(Q:List V->Hp->Prop)(g:qw)(i:Shared):Prop:=∃d e,Inv X a f e i/\Vals d g/\Q d e
noncomputable def SP(X:Cx)(d:qa)(D:Ends)(f:Flow)(g:Shared):Prop :=
 match f with
 | .next=>∃a e,Inv X d a e g/\D.nx a e
 | .brk=>∃a e,Inv X d a e g/\D.bk a e
 | .cont=>∃a e,Inv X d a e g/\D.ct a e
 | .ret u=>∃v a e,Inv X d a e g/\RelV v u/\D.rt v e
noncomputable def PE(X:Cx)(e:Expr)(t:TE):Prop :=
 ∀(a:qa)(s:Shared)(d:St)(H:Hp)(Q:VK),Inv X a d H s->t d H Q->wpAny (model X.prog X.w) X.A (eval e X.env) (EP X a d Q) X.xe s
noncomputable def PT(X:Cx)(e:Expr)(t:TT):Prop :=
 ∀(a:qa)(s:Shared)(d:St)(H:Hp)(Q:Bool->Hp->Prop),Inv X a d H s->t d H Q->wpAny (model X.prog X.w) X.A (isTrue e X.env (eval e X.env)) (TP X a d Q) X.xe s
noncomputable def PW(X:Cx)(e:Expr)(t:TT):Prop :=
 ∀(d:Sem Value)(a:qa)(s:Shared)(f:St)(H:Hp)(Q:Bool->Hp->Prop),Inv X a f H s->t f H Q->wpAny (model X.prog X.w) X.A (isTrue e X.env d) (TP X a f Q) X.xe s
theorem PW.pt(h:PW X e t):PT X e t:=h _
noncomputable def PA(X:Cx)(f:zp)(t:TA):Prop :=
 ∀(d:Pos)(a:qa)(s:Shared)(e:St)(H:Hp)(Q:List V->Hp->Prop),Inv X a e H s->t e H Q->wpAny (model X.prog X.w) X.A (spliced (backTo d (starEach f X.env))) (AP X a e Q) X.xe s
noncomputable def PS(X:Cx)(st:Stmt)(t:TS):Prop :=
 ∀(a:qa)(s:Shared)(d:St)(H:Hp)(D:Ends),Inv X a d H s->t D d H->wpAny (model X.prog X.w) X.A (exec st X.env) (SP X a D) X.xe s
noncomputable def Su(X:Cx)(st:List Stmt)(t:TS):Prop :=
 ∀(a:qa)(s:Shared)(d:St)(H:Hp)(D:Ends),Inv X a d H s->t D d H->wpAny (model X.prog X.w) X.A (execs st X.env) (SP X a D) X.xe s
theorem RA{α:Type}{t:Sem α}{Q d:α->Shared->Prop}{A:Around}{E:ql}(h:wpAny M A t Q E s)(e:∀a s,Q a s->d a s):wpAny M A t d E s:=O3 h e λ_ _ x=>x
section
variable{X:Cx}
noncomputable def rX(i:Nat):TE:=λa H Q=>∃v,a[i]?= ↑(some v)/\Q v H
noncomputable def tC(v:V):TE:=λ_ H Q=>Q v H
theorem Ad(k:X.N[i]?= ↑x)(p:W6 X.env.scope x)(f:(x==("__debug__":Str))=false:=by decide)(g:(x==("__classdict__":Str))=false:=by decide):PE X (.Name x q) (rX i):=by
 intro d s t H Q I h;let(v,e,h):=h;let(m,w,hl):=I.loc;let(u,r,l):=hl i x v k e p;have fin:EP X d t Q u s:=(v,H,I,r,h)
 rcases l with⟨hk,y⟩|⟨hk,c,j,a⟩
 ·exact wpAny_Name (wpAny_loadName_local I.ok.kind hk w y fin) f
 ·rcases hk with hk|hk
  ·exact wpAny_Name (wpAny_loadName_cell I.ok.kind hk j a fin) f
  ·exact wpAny_Name (wpAny_loadName_free I.ok.kind hk j a fin g) f
theorem a9{i j a}:PE X (.Constant (.int i) j a) (tC (.int i)):=λ_ _ _ H _ I h=>wpAny_Constant_int (.int i,H,I.tok _,(_,rfl),h)
theorem vz{b j a}:PE X (.Constant (.bool b) j a) (tC (.bl b)):=λ_ _ _ H _ I h=>Constant_bool (.bl b,H,I,rfl,h)
theorem uc{j a}:PE X (.Constant .none j a) (tC .Ro):=λ_ _ _ H _ I h=>Constant_none (.Ro,H,I,rfl,h)
theorem jw{x j a}:PE X (.Constant (.str x) j a) (tC (.str x)):=λ_ _ _ H _ I h=>Calls.Constant_str (.str x,H,I.tok _,(_,rfl),h)
noncomputable def Gl(X:Cx)(x:Str):Prop:=X.env.kindOf x=some .globalImplicit
theorem dj{E:ql}{a:qa}{s:Shared}{e:St}{H:Hp}{x:Str}{u:Value}{d:Pos}{Q:ql}(I:Inv X a e H s)(f:Gl X x)(g:X.mg x= ↑u)(h:Q u s)
  (i:(x==("__debug__":Str))=false:=by decide):wpAny (model X.prog X.w) X.A (eval (.Name x d) X.env) Q E s :=
 Calls.Name_function_global I.ok.kind f (Calls.loadGlobal_global (by rw[I.ok.glob];exact I.mod.glob.keeps I.bk) g h) i
theorem hV{E:ql}{a:qa}{s:Shared}{e:St}{H:Hp}{x:Str}{u:Value}{d:Pos}{Q:ql}(I:Inv X a e H s)(f:Gl X x)(g:X.mg x=none)(i:bootBuiltins x= ↑u)(h:Q u s)
  (j:x≠"__name__":=by decide) (k:(x==("__debug__":Str))=false:=by decide):wpAny (model X.prog X.w) X.A (eval (.Name x d) X.env) Q E s:=by
 let(m,h1,l):=I.mod.blt;exact Calls.Name_function_global I.ok.kind f (Calls.loadGlobal_builtin (by rw[I.ok.glob];exact I.mod.glob.keeps I.bk) g (by rw[I.ok.blt];exact h1.keeps I.bk) ((l x j).trans i) h) k
theorem eI(a:Gl X x)(d:X.mg x= ↑u)(r:RelV v u)(e:(x==("__debug__":Str))=false:=by decide):PE X (.Name x f) (tC v) :=
 λ_ _ _ H _ I h=>dj I a d (v,H,I,r,h) e
theorem pj(a:Gl X x)(d:X.mg x=none)(e:bootBuiltins x= ↑u)(r:RelV v u)(f:x≠"__name__":=by decide)(g:(x==("__debug__":Str))=false:=by decide):PE X (.Name x i) (tC v) :=
 λ_ _ _ H _ I h=>hV I a d e (v,H,I,r,h) f g
variable{a b:Expr}{ta tb:TE}
noncomputable def PC(X:Cx)(i:CmpOp)(a b:Expr)(t:TE):Prop :=
 ∀(d:qa)(s:Shared)(g:St)(H:Hp)(Q:VK),Inv X d g H s->t g H Q ->
  wpAny (model X.prog X.w) X.A (eval a X.env) (λv e=>wpAny (model X.prog X.w) X.A (eval b X.env) (λu f=>wpAny (model X.prog X.w) X.A (compareOp i v u) (EP X d g Q) X.xe f) X.xe e) X.xe s
theorem lF(b:Expr)(h:d≠.In:=by decide)(e:d≠.NotIn:=by decide):behindInMarks d b=false:=by
 have e1:(d==CmpOp.In)=false:=by cases d<;>first|rfl|exact absurd rfl h
 have e2:(d==CmpOp.NotIn)=false:=by cases d<;>first|rfl|exact absurd rfl e
 cases b<;>simp[behindInMarks,e1,e2]
theorem RelV.Vf(r:RelV x v):(v==Value.none)=decide (x=.Ro):=by
 cases x with
 |Ro=>cases r;rfl
 |bl _=>cases r;rfl
 |int _=>let(t,rfl):=r;rfl
 |str _=>let(t,rfl):=r;rfl
 |ref _=>cases r;rfl
 |ty _=>cases r;rfl
noncomputable def Ue(t:TE):TT:=λd H Q=>t d H λx e=>∃k,x=.bl k/\Q k e
theorem FZ(h:PC X e a b t)(h1:behindInMarks e b=false):PE X (.Compare a [e] [b] f) t:=λd s g H Q I i=>wpAny_Compare1 (h d s g H Q I i) h1
theorem As(h:PC X f a b t)(h1:behindInMarks f b=false):PT X (.Compare a [f] [b] g) (Ue t):=by intro e s i H Q I j;refine wpAny_isTrue_Compare1 (RA (h e s i H _ I j) λv w h1=>RA h1 λu y k=>RA k λc z ⟨x,l,m,p,r⟩=>?_) h1;let(d,rfl,q):=r;cases p;exact Ov (l,m,q)
noncomputable def Ls(t u:TT):TT:=λd H Q=>t d H λc e=>if c=true then u d e Q else Q false e
noncomputable def tOr(t u:TT):TT:=λd H Q=>t d H λc e=>if c=true then Q true e else u d e Q
noncomputable def Lz(t:TT):TT:=λd H Q=>t d H λc e=>Q (!c) e
theorem vD(f:PT X a tA):PW X (.BoolOp .And [a] g) tA:=by
 intro j d s i H Q I h;refine isTrue_and (RA (f d s i H Q I h) λc k e=>?_)
 cases c with
 |true=>exact isTrue_and_nil e
 |false=>exact e
theorem ug(f:PT X a tA):PW X (.BoolOp .Or [a] g) tA:=by
 intro j d s i H Q I h;refine isTrue_or (RA (f d s i H Q I h) λc k e=>?_)
 cases c with
 |false=>exact isTrue_or_nil e
 |true=>exact e
theorem Av(m:PT X a tA)(p:PW X (.BoolOp .And (b::e) f) g):PW X (.BoolOp .And (a::b::e) f) (Ls tA g):=by
 intro q d s i H Q I h;refine isTrue_and (RA (m d s i H _ I h) λc r ⟨j,k,l⟩=>?_)
 cases c with
 |true=>exact p q d r i j Q k l
 |false=>exact(j,k,l)
theorem Aw(m:PT X a tA)(p:PW X (.BoolOp .Or (b::e) f) g):PW X (.BoolOp .Or (a::b::e) f) (tOr tA g):=by
 intro q d s i H Q I h;refine isTrue_or (RA (m d s i H _ I h) λc r ⟨j,k,l⟩=>?_)
 cases c with
 |true=>exact(j,k,l)
 |false=>exact p q d r i j Q k l
theorem pG(e:PT X a tA):PT X (.UnaryOp .Not a f) (Lz tA):=by intro d s g H Q I h;exact isTrue_not (e d s g H (λc i=>Q (!c) i) I h)
noncomputable def JG(ta tb:TE):TE:=λd H Q=>ta d H λx e=>∃c,x=.bl c/\if c=true then tb d e Q else Q (.bl false) e
noncomputable def LA(ta tb:TE):TE:=λd H Q=>ta d H λx e=>∃c,x=.bl c/\if c=true then Q (.bl true) e else tb d e Q
noncomputable def JM(ta:TE):TE:=λd H Q=>ta d H λx e=>∃c,x=.bl c/\Q (.bl (!c)) e
theorem F3{e}(h:PE X a t):PE X (.BoolOp e [a] f) t:=λd s g H Q I i=>BoolOp_one (h d s g H Q I i)
theorem FW(l:PE X a ta)(m:PE X (.BoolOp .And (b::e) g) tb):PE X (.BoolOp .And (a::b::e) g) (JG ta tb):=by
 intro d s i H Q I h;refine BoolOp_and (RA (l d s i H _ I h) λv p ⟨x,j,k,q,f⟩=>?_);let(c,rfl,f):=f;cases q;refine Ov ?_
 cases c with
 |true=>exact m d p i j Q k f
 |false=>exact(.bl false,j,k,rfl,f)
theorem IH(l:PE X a ta)(m:PE X (.BoolOp .Or (b::e) g) tb):PE X (.BoolOp .Or (a::b::e) g) (LA ta tb):=by
 intro d s i H Q I h;refine BoolOp_or (RA (l d s i H _ I h) λv p ⟨x,j,k,q,f⟩=>?_);let(c,rfl,f):=f;cases q;refine Ov ?_
 cases c with
 |false=>exact m d p i j Q k f
 |true=>exact(.bl true,j,k,rfl,f)
theorem F2(f:PE X a ta):PE X (.UnaryOp .Not a g) (JM ta):=by intro d s i H Q I h;refine UnaryOp_ (RA (f d s i H _ I h) λv m ⟨x,j,k,l,e⟩=>?_);let(c,rfl,e):=e;cases l;exact not_of (Ov (.bl (!c),j,k,rfl,e))
noncomputable def tIf(t:TT)(ta tb:TE):TE:=λd H Q=>t d H λc e=>if c=true then ta d e Q else tb d e Q
theorem Ab(l:PT X c tA)(m:PE X a ta)(p:PE X b tb):PE X (.IfExp c a b q) (tIf tA ta tb):=by
 intro e s f H Q I h;refine wpAny_IfExp (RA (l e s f H _ I h) λd g ⟨i,j,k⟩=>?_)
 cases d with
 |true=>exact m e g f i Q j k
 |false=>exact p e g f i Q j k
end
noncomputable def RP(K:qs)(H:Hp)(a:Addr)(e:List V):Prop :=
 Rd H a (.lst e) \/
  ∃(o:Obj)(d:Array Value)(n:Nat),K.lookup a= ↑o/\o.cls=.type "list"/\o.dict=none/\o.data=.seq d n/\d.size<=sizeLine/\Vals e d.toList
noncomputable def RW(K:qs)(H:Hp)(a:Addr)(e:List V):Prop :=
 Rd H a (.tup e) \/
  ∃(o:Obj)(d:Array Value)(n:Nat),K.lookup a= ↑o/\o.cls=.type "tuple"/\o.data=.seq d n/\d.size<=sizeLine/\Vals e d.toList
noncomputable def Kd:Value->Option V
 | .none=>some .Ro
 | .bool b=>↑(.bl b)
 | .int i _=>↑(.int i)
 | .str x _=>↑(.str x)
 | .ref a=>↑⇑a
 | .type n=>↑(.ty n)
 |_=>none
theorem RelV.abs(r:RelV x u):Kd u= ↑x:=by
 cases x with
 |Ro=>cases r;rfl
 |bl _=>cases r;rfl
 |int _=>let(t,rfl):=r;rfl
 |str _=>let(t,rfl):=r;rfl
 |ref _=>cases r;rfl
 |ty _=>cases r;rfl
theorem RelV.inj(r:RelV x u)(q:RelV y u):x=y:=Oa (r.abs.symm.trans q.abs)
theorem Vals.inj:∀{a d:List V}{e:qw},Vals a e->Vals d e->a=d
 |_,_,_,.nil,.nil=>rfl
 |_,_,_,.cons r t,.cons f g=>by rw[r.inj f,Vals.inj t g]
section
theorem RP.of{K:qs}(h:H a= ↑(.lst d)):RP K H a d:=.inl (.inl h)
theorem RW.of{K:qs}(h:H a= ↑(.tup d)):RW K H a d:=.inl (.inl h)
theorem Inv.list{X:Cx}{f:qa}{i:St}{H:Hp}{s:Shared}{a:Addr}{g:List V}(I:Inv X f i H s)(h:RP X.K H a g):∃d:List Value,Vals g d/\PlainL s.heap a d.toArray/\g.length<=sizeLine:=by
 rcases h with h|⟨o,d,n,hk,j,k,hs,l,r⟩
 ·let(z,d,n,r,e):=h.ok I.hok;exact(d,r,(_,n,e,rfl,rfl,rfl),z)
 ·refine(d.toList,r,(o,n,I.Se a o hk,j,k,by simpa using hs),?_);have e:=r.length;simp only[O6]at e;lia
theorem Inv.tuple{X:Cx}{f:qa}{i:St}{H:Hp}{s:Shared}{a:Addr}{g:List V}(I:Inv X f i H s)(h:RW X.K H a g):∃d:List Value,Vals g d/\IsTup s.heap a d.toArray/\g.length<=sizeLine:=by
 rcases h with h|⟨o,d,n,hk,j,hs,k,r⟩
 ·let(z,d,r,p):=h.ok I.hok;exact(d,r,p,z)
 ·refine(d.toList,r,(o,I.Se a o hk,j,n,by simpa using hs),?_);have e:=r.length;simp only[O6]at e;lia
theorem Inv.Wq{X:Cx}{f:qa}{p:St}{H:Hp}{s:Shared}{a:Addr}{j k:List V}(I:Inv X f p H s)(h:RP X.K H a j)(q:RP X.K H a k):j=k:=by
 let(i,r,(o,n,e,_,_,d),_):=I.list h;let(g,t,(u,v,l,_,_,m),_):=I.list q;rw[e]at l;cases l;rw[d]at m;injection m with d1 _;have:i=g:=by simpa using NZ Array.toList d1
 subst this;exact r.inj t
theorem Inv.UM{X:Cx}{f:qa}{p:St}{H:Hp}{s:Shared}{a:Addr}{j k:List V}(I:Inv X f p H s)(h:RW X.K H a j)(q:RW X.K H a k):j=k:=by
 let(i,r,(o,e,_,n,d),_):=I.tuple h;let(g,t,(u,l,_,v,m),_):=I.tuple q;rw[e]at l;cases l;rw[d]at m;injection m with d1 _;have:i=g:=by simpa using NZ Array.toList d1
 subst this;exact r.inj t
end
noncomputable abbrev Cx.UD(X:Cx)(E:ql):Cx:={X with xe:=E}
noncomputable abbrev Cx.UU(X:Cx):Cx:=X.UD λ_ _=>False
theorem Cx.Ok.UD{X:Cx}(ok:X.Ok)(E:ql):(X.UD E).Ok :=
 (ok.mod,ok.kind,ok.glob,ok.blt,ok.above,ok.inj,ok.has,ok.Xv,ok.hd,ok.frames,ok.stk,ok.XW,ok.bs,ok.VP,ok.Vd,ok.Ve,ok.S8,ok.Wg)
theorem Cx.Ok.Tc{X:Cx}(ok:(X.UD E).Ok):X.Ok :=
 (ok.mod,ok.kind,ok.glob,ok.blt,ok.above,ok.inj,ok.has,ok.Xv,ok.hd,ok.frames,ok.stk,ok.XW,ok.bs,ok.VP,ok.Vd,ok.Ve,ok.S8,ok.Wg)
section
theorem Inv.UD{X:Cx}{a:qa}{d:St}{H:Hp}{s:Shared}(I:Inv X a d H s)(E:ql):Inv (X.UD E) a d H s:=(I.ok.UD E,I.os,I.bare,I.base,I.loc,I.cell,I.free,I.R7,I.pin,I.hok,I.len)
theorem Inv.Tc{X:Cx}{a:qa}{d:St}{H:Hp}{s:Shared}{E:ql}(I:Inv (X.UD E) a d H s):Inv X a d H s:=(I.ok.Tc,I.os,I.bare,I.base,I.loc,I.cell,I.free,I.R7,I.pin,I.hok,I.len)
theorem SP.Tc{X:Cx}(h:SP (X.UD E) e D f g):SP X e D f g:=by
 cases f with
 |next=>let(a,d,I,q):=h;exact(a,d,I.Tc,q)
 |brk=>let(a,d,I,q):=h;exact(a,d,I.Tc,q)
 |cont=>let(a,d,I,q):=h;exact(a,d,I.Tc,q)
 |ret u=>let(v,a,d,I,r,q):=h;exact(v,a,d,I.Tc,r,q)
theorem Su.UU{X:Cx}{st:List Stmt}(h:Su X.UU st t):Su X st t:=λa s d H D I e =>
 O3 (h a s d H D (I.UD _) e) (λ_ _ q=>q.Tc) λ_ _ z=>False.elim z
end
section
variable{t u:TS}{te:TE}
noncomputable def JL:TS:=λD a H=>D.nx a H
noncomputable def LC(t u:TS):TS:=λD a H=>t {D with nx:=u D} a H
theorem fH:Su X [] JL:=λ_ _ a H _ I h=>Qy (a,H,I,h)
theorem bq{X:Cx}{st:Stmt}(h1:PS X st t)(g:Su X d u):Su X (st::d) (LC t u):=by
 intro a s i H D I h;refine wpAny_execs_cons (RA (h1 a s i H {D with nx:=u D} I h) λf j q=>?_)
 cases f with
 |next =>let(e,k,l,q):=q;exact g a j e k D l q
 |ret v=>exact q
 |brk=>exact q
 |cont=>exact q
theorem dk{X:Cx}{st:Stmt}(h1:PS X st t):Su X [st] t:=by
 intro a s d H D I h;refine wpAny_execs_cons (RA (h1 a s d H D I h) λf e q=>?_)
 cases f with
 |next=>exact Qy q
 |ret v=>exact q
 |brk=>exact q
 |cont=>exact q
noncomputable def JI:TS:=λD a H=>D.ct a H
theorem rG:PS X (.Continue a) JI:=λ_ _ d H _ I h=>wpAny_Continue (d,H,I,h)
theorem Inv.quiet{X:Cx}{a:qa}{d:St}{H:Hp}{s:Shared}(I:Inv X a d H s):interactive X.env=false:=by simp[interactive,I.ok.kind]
noncomputable def DZ(te:TE):TS:=λD a H=>te a H λ_ d=>D.nx a d
theorem ki{a:Pos}(g:PE X e te)(hs:swapsWith e none a.line X.env=pure false:=by rfl):PS X (.Expr e a) (DZ te):=by intro d s f H D I h;exact wpAny_Expr_any (RA (g d s f H _ I h) λv l ⟨x,i,j,m,k⟩=>(f,i,j,k)) I.quiet hs
noncomputable def G4(te:TE):TS:=λD a H=>te a H D.rt
theorem eS(f:PE X e te):PS X (.Return ↑e g) (G4 te):=by intro a s d H D I h;exact wpAny_Return_some (RA (f a s d H _ I h) λv m ⟨x,i,j,k,l⟩=>(x,d,i,j,k,l))
noncomputable def JO:TS:=λD _ H=>D.rt .Ro H
theorem CS:PS X (.Return none a) JO:=λ_ _ d H _ I h=>wpAny_Return_none (.Ro,d,H,I,rfl,h)
noncomputable def Ly(c:TT)(t u:TS):TS:=λD a H=>c a H λb d=>if b=true then t D a d else u D a d
theorem nu(l:PT X c m)(p:Su X a t)(q:Su X b u):PS X (.If c a b r) (Ly m t u):=by
 intro e s f H D I h;refine wpAny_If (RA (l e s f H _ I h) λd g ⟨i,j,k⟩=>?_)
 cases d with
 |true=>exact p e g f i D j k
 |false=>exact q e g f i D j k
end
noncomputable abbrev TG:=V->St->Hp->(St->Hp->Prop)->Prop
noncomputable abbrev XX:=List V->St->Hp->(St->Hp->Prop)->Prop
noncomputable def PG(X:Cx)(a:Expr)(t:TG):Prop :=
 ∀(d:qa)(s:Shared)(f:St)(H:Hp)(v:V)(u:Value)(Q:St->Hp->Prop),Inv X d f H s->RelV v u->t v f H Q ->
  wpAny (model X.prog X.w) X.A (assign a X.env u) (λ_ i=>∃e g,Inv X d e g i/\Q e g) X.xe s
noncomputable def Wr(X:Cx)(j:zp)(t:XX):Prop :=
 ∀(a:qa)(s:Shared)(e:St)(H:Hp)(f:List V)(g:qw)(Q:St->Hp->Prop),Inv X a e H s->Vals f g->t f e H Q ->
  wpAny (model X.prog X.w) X.A (assignInOrder ((assignEach j X.env).map (·.2)) g) (λ_ k=>∃d i,Inv X a d i k/\Q d i) X.xe s
noncomputable abbrev Ec:=V->V->V->Hp->(Hp->Prop)->Prop
noncomputable def Ea(X:Cx)(t:Ec):Prop :=
 ∀(a:qa)(s:Shared)(d:St)(H:Hp)(o i v:V)(ov e u:Value)(Q:Hp->Prop),Inv X a d H s->RelV o ov->RelV i e->RelV v u->t o i v H Q ->
  wpAny (model X.prog X.w) X.A (setItem ov e u) (λ_ g=>∃f,Inv X a d f g/\Q f) X.xe s
noncomputable abbrev ZQ:=V->V->Hp->VK->Prop
noncomputable def ZR(X:Cx)(e:Operator)(t:ZQ):Prop :=
 ∀(a:qa)(s:Shared)(d:St)(H:Hp)(x y:V)(v u:Value)(Q:VK),Inv X a d H s->RelV x v->RelV y u->t x y H Q ->
  wpAny (model X.prog X.w) X.A (inplaceOp e v u) (EP X a d Q) X.xe s
section
variable{X:Cx}
noncomputable def qL(i:Nat):TG:=λv a H Q=>Q (a.set i ↑v) H
theorem vB(d:X.N.Nodup)(e:X.N[i]?= ↑x)(f:Loc X.env.scope x)(g:X.fn x=true\/X.env.scope.names.lookup x=some .local:=by first|exact .inl rfl|exact .inr rfl|assumption):PG X (.Name x j) (qL i):=by intro a s l H v u Q I r h;exact wpAny_assign_Name (gn I d e f r (λm k=>(_,H,k,h)) g)
noncomputable def KD:XX:=λa d H Q=>a=[]/\Q d H
noncomputable def HJ(t:TG)(u:XX):XX:=λd e H Q=>∃v r,d=v::r/\t v e H λa f=>u r a f Q
theorem CG:Wr X [] KD:=by intro a s d H f g Q I r h;let(e,h):=h;subst e;cases r;exact assignInOrder_nil (d,H,I,h)
theorem Af(h1:PG X e t)(g:Wr X d u)
  (hs:(assignEach (e::d) X.env).map (·.2)=assign e X.env::(assignEach d X.env).map (·.2):=by rfl):Wr X (e::d) (HJ t u):=by
 intro a s i H q w Q I r h;let(v,y,e1,h):=h;subst e1
 cases r with
 |cons r j =>rw[hs];refine assignInOrder_cons (RA (h1 a s i H _ _ _ I r h) λ_ k ⟨f,l,m,p⟩=>?_);exact g a k f l _ _ Q m j p
noncomputable def KH(K:qs)(n:Nat)(t:XX):TG:=λv e H Q=>∃a d,v= ⇑a/\RW K H a d/\d.length=n/\t d e H Q
theorem F4(m:X.calm=true)(h:Wr X f t)
  (p:(assignEach f X.env).length=n:=by rfl) (g:(assignEach f X.env).findIdx? (·.1)=none:=by rfl):PG X (.Tuple f k q) (KH X.K n t):=by
 intro d s j H v u Q I r i;let(a,w,e1,y,hl,i):=i;subst e1;cases r;let(z,l,B,L):=I.tuple y;refine assign_Tuple_tuple (I.ok.hd m) B (by simp[p,<- hl,l.length]) g λE G=>?_;have J:Inv X d j H {s with heap:=E}:=I.kept (t':=s.toks) λb o e=>G b o (N3 (NW e)) e;exact h d _ j H w _ Q J (by simpa using l) i
noncomputable def KG(to ti:TE)(t:Ec):TG:=λv a H Q=>to a H λo d=>ti a d λi e=>t o i v e λf=>Q a f
theorem Ae(g:PE X o to)(j:PE X i ti)(hs:Ea X t)
  (k:∀v,assign (.Subscript o i d) X.env v=(do
   let ov <- holding [v] (eval o X.env);let e <- holding [v,ov] (eval i X.env)
   standAt d
   holding [v,ov,e] (setItem ov e v)
   release [v,ov,e] []):=by intro _;rfl):PG X (.Subscript o i d) (KG to ti t):=by
 intro a s f H v u Q I r h;rw[k];refine xd (Ox (RA (g a s f H _ I h) λov l ⟨x,m,p,q,w⟩=>?_));refine xd (Ox (RA (j a l f m _ p w) λe z ⟨y,B,E,G,J⟩=>?_));refine xd (Pj (xd (Ox (RA (hs a z f B x y v ov e u _ E q G r J) λ_ O ⟨L,M,N⟩=>?_))));exact wpAny_release (f,L,M,N)
noncomputable def Vu(d:TE)(g:TG):TS:=λD a H=>d a H λx e=>g x a e D.nx
theorem pF{d:Pos}(j:PE X e k)(l:PG X f g)(hs:swapsWithSole [f] e d.line X.env=pure false:=by rfl)(m:swappedStores [f] e X.env=pure none:=by rfl)
  (h1:(assignEach [f] X.env).map (·.2)=[assign f X.env]:=by rfl):PS X (.Assign [f] e d) (Vu k g):=by
 intro a s i H D I h;refine wpAny_Assign_stores (RA (j a s i H _ I h) λv p ⟨x,r,t,u,w⟩=>?_) hs m;rw[h1];exact RA (l a p i r x v _ t u w) λ_ y q=>q
theorem lK{a:Pos}(g:X.N.Nodup)(j:X.N[i]?= ↑x)(k:Loc X.env.scope x)(l:PE X e m)(hs:swapsWith e ↑(.Name x d) a.line X.env=pure false:=by rfl)(p:X.fn x=true\/X.env.scope.names.lookup x=some .local:=by first|exact .inl rfl|exact .inr rfl|assumption) :
  PS X (.Assign [.Name x d] e a) (Vu m (qL i)):=by
 intro f s q H D I h;refine wpAny_Assign_Name (RA (l f s q H _ I h) λv B ⟨y,r,t,u,w⟩=>?_) hs;exact gn t g j k u (λE z=>(_,r,z,w)) p
noncomputable def rT:List Nat->List V->St->St
 |i::is,v::d,a=>(rT is d a).set i ↑v
 |_,_,a=>a
noncomputable def LB(is:List Nat)(e:TA):TS:=λD a H=>e a H λd f=>d.length=is.length/\D.nx (rT is d a) f
noncomputable abbrev ZS(X:Cx):List Nat->List Str->Prop:=Paired λi x=>X.N[i]?= ↑x/\X.env.scope.names.lookup x=some .local
theorem xn(l:X.N.Nodup):∀{is:List Nat}{i:zl}{d:List V}{f rest:qw}{k:List (Value->Sem Unit)}{s:Shared}{g:St},ZS X is i->Vals d f->d.length=is.length->Inv X e g H s ->
  (∀j,Inv X e (rT is d g) H j->wpAny M A (assignInOrder k rest) Q E j)->wpAny M A (assignInOrder (i.reverse.map (λn=>bindName X.env n)++k) (f.reverse++rest)) Q E s:=by
 intro is i d f rest k s g a
 induction a generalizing d f rest k s g with
 |nil =>
  intro r hl I h
  cases r with
  |nil=>exact h _ I
  |cons=>cases hl
 |cons a _ m =>
  intro r hl I h
  cases r with
  |nil=>cases hl
  |cons r rs =>rw[Qg,Qg,NY,Ow,Ow];exact m rs (by simpa using hl) I λj p=>assignInOrder_cons (wpAny_bindName (gn p l a.1 (.inl a.2) r (λq t=>h q t) (.inr a.2)))
theorem Gg{i:Pos}{l m p}(G:X.calm=true)(J:X.N.Nodup)(a:ZS X is j)(h9:is.length<=9)(L:PA X t O)(T:swappedStores [.Tuple v l pt] (.Tuple t m p) X.env=pure ↑j)
  (hs:swapsWithSole [.Tuple v l pt] (.Tuple t m p) i.line X.env=pure false:=by rfl):PS X (.Assign [.Tuple v l pt] (.Tuple t m p) i) (LB is O):=by
 intro d s y H D I h;rw[exec_Assign_arm];refine xd (Pj ?_);rw[hs];refine xd (Nv ?_);rw[NH ⋯];refine xd (Tuple_ (RA (L _ d s y H _ I h) λu g ⟨vs,z,U,r,hl,q⟩=>?_));have lr:=r.length;have la:=Rg a;refine Qh ?_ (by show u.toArray.size<=sizeLine;rw[Ol,ND];lia);rw[T];refine xd (Nv ?_);show wpAny (model X.prog X.w) X.A (do rule "assign.swapped-stores";let f <- unpackItems ⇑g.heap.objs.size j.length none;assignInOrder (j.reverse.map λn=>bindName X.env n) f.reverse;pure Flow.next) _ _ _;rw[show j.length=u.toArray.size by rw[ND];lia];refine xd (Qz (xd (unpackItems_tuple (I.ok.hd G) (IsTup.new g.heap _) λY hx=>xd ?_)));have I2:Inv X d y z {g with heap:=g.heap.push {cls:=.type "tuple",data:=.seq u.toArray}}:=U.kept (t':=g.toks) λb o e=>Ar _ e;have I3:=I2.kept (h':=Y) (t':=g.toks) λb o e=>hx b o (N3 (NW e)) e;have:=xn (M:=model X.prog X.w) (A:=X.A) (E:=X.xe) (k:=[]) (rest:=[]) (Q:=λ_ B=>wpAny (model X.prog X.w) X.A (pure Flow.next) (SP X d D) X.xe B) J a r hl I3 λB I'=>assignInOrder_nil (Nv (_,z,I',q));simpa using this
noncomputable def Lu(i:Nat)(d:TE)(ti:ZQ):TS:=λD a H=>∃x,a[i]?= ↑(some x)/\d a H λy e=>ti x y e λz f=>D.nx (a.set i ↑z) f
theorem Gd(J:X.N.Nodup)(q:X.N[i]?= ↑x)(j:Loc X.env.scope x)(L:PE X e M)(O:ZR X t ti)(Q:X.fn x=true\/X.env.scope.names.lookup x=some .local:=by first|exact .inl rfl|exact .inr rfl|assumption) :
  PS X (.AugAssign (.Name x B) t e T) (Lu i M ti):=by
 intro a s E H D I h;let(v,e1,h):=h;let(m,U,hl):=I.loc;have p:W6 X.env.scope x:=by rcases j with k|k;exact .inl k;exact .inr (.inl k)
 let(u,r,l):=hl i x v q e1 p;refine wpAny_AugAssign_Name ?_
 have G:wpAny (model X.prog X.w) X.A (eval e X.env) (λw f=>wpAny (model X.prog X.w) X.A (inplaceOp t u w) (λr g=>wpAny (model X.prog X.w) X.A (storeName X.env x r) (λ_=>SP X a D .next) X.xe g) X.xe f) X.xe s:=by refine RA (L a s E H _ I h) λw Y ⟨y,H1,I1,r1,q1⟩=>?_;refine RA (O a Y E H1 v y u w _ I1 r r1 q1) λz s2 ⟨zv,H2,I2,r2,q2⟩=>?_;exact gn I2 J q j r2 (λs3 I3=>(_,H2,I3,q2)) Q
 rcases l with⟨hk,hm⟩|⟨hk,c,hc,d⟩
 ·exact wpAny_loadName_local I.ok.kind hk U hm G
 ·rcases hk with hk|hk
  ·exact wpAny_loadName_cell I.ok.kind hk hc d G
  ·rcases j with k|k
   ·have:X.env.scope.names.lookup x=some .free:=hk;rw[k]at this;cases this
   ·have:X.env.scope.names.lookup x=some .free:=hk;rw[k]at this;cases this
noncomputable def JH(to ti e:TE)(f:V->V->Hp->VK->Prop)(d:ZQ)(g:Ec):TS:=λD a H=>to a H λo j=>ti a j λi k=>f o i k λx l=>e a l λy m=>d x y m λz p=>g o i z p λq=>D.nx a q
noncomputable def Ho(X:Cx)(t:V->V->Hp->VK->Prop):Prop :=
 ∀(a:qa)(s:Shared)(d:St)(H:Hp)(o i:V)(ov e:Value)(Q:VK),Inv X a d H s->RelV o ov->RelV i e->t o i H Q ->
  wpAny (model X.prog X.w) X.A (getItem ov e) (EP X a d Q) X.xe s
theorem vC(q:PE X o to)(r:PE X i ti)(t:Ho X u)(w:PE X e y)(z:ZR X B g)(hs:Ea X E)
  (G:∀ov d new,augStore i ov d new=(do holding [new,ov,d] (setItem ov d new);release [new,ov,d] [];pure .next):=by intros;rfl):PS X (.AugAssign (.Subscript o i j) B e J) (JH to ti y u g E):=by
 intro a s f H D I h;refine wpAny_AugAssign_SubscriptAny (RA (q a s f H _ I h) λov L ⟨k,M,N,l,O⟩=>?_) G;refine RA (r a L f M _ N O) λd Q ⟨m,T,U,p,Y⟩=>?_;refine RA (t a Q f T k m ov d _ U l p Y) λold s3 ⟨x3,H3,I3,r3,q3⟩=>?_;refine RA (w a s3 f H3 _ I3 q3) λv s4 ⟨x4,H4,I4,r4,q4⟩=>?_;refine RA (z a s4 f H4 x3 x4 old v _ I4 r3 r4 q4) λnew s5 ⟨x5,H5,I5,r5,q5⟩=>?_;exact RA (hs a s5 f H5 k m x5 ov d new _ I5 l p r5 q5) λ_ s6 ⟨H6,I6,q6⟩=>(f,H6,I6,q6)
noncomputable def ipI(f:Int->Int->Int):ZQ:=λx y H Q=>∃i j,x=.int i/\y=.int j/\Q (.int (f i j)) H
theorem yS:ZR X .Add (ipI λi j=>i+j):=by intro a s f H x y v u Q I d e h;let(i,j,e1,e2,q):=h;subst e1;subst e2;let(t,rfl):=d;let(g,rfl):=e;exact iadd_int (.int _,H,I.tok _,(_,rfl),q)
theorem EU:ZR X .Sub (ipI λi j=>i - j):=by intro a s f H x y v u Q I d e h;let(i,j,e1,e2,q):=h;subst e1;subst e2;let(t,rfl):=d;let(g,rfl):=e;exact isub_int (.int _,H,I.tok _,(_,rfl),q)
end
section
noncomputable def G5(c:TT)(i:TS):TS:=λD a H=>∃W:Nat->St->Hp->Prop,(∃m,W m a H)/\∀m a H,W m a H ->
 c a H λb e=>if b=true then ∃N:St->Hp->Prop,(∀d f,N d f->∃g,g<m/\W g d f)/\i {D with nx:=N,ct:=N,bk:=D.nx} a e else D.nx a e
theorem Aq{X:Cx}(t:PassesOwn (model X.prog X.w) X.A X.env X.xe)(G:PT X c J)(L:Su X body M):PS X (.While c body [] O) (G5 J M):=by
 intro a s Q H D I h;let(W,(T,U),g):=h;refine wpAny_While (codeAny_whileLoop (λn Y=>∃i u,Inv X a i u Y/\W n i u) ?_ T (Q,H,I,U));rintro n s1 ⟨e,y,I1,w1⟩;refine Pe t (RA (G a s1 e y _ I1 (g n e y w1)) λb s2 ⟨z,B,k⟩=>?_)
 cases b with
 |true =>
  let(N,E,k):=k;rw[NL rfl];refine Pe t (RA (L a s2 e z _ B k) λf s3 l=>?_)
  cases f with
  |next =>let(d,j,m,n3):=l;let(p,q,r):=E d j n3;exact(p,q,d,j,m,r)
  |cont =>let(d,j,m,n3):=l;let(p,q,r):=E d j n3;exact(p,q,d,j,m,r)
  |brk=>exact l
  |ret v=>exact l
 |false =>rw[NH PF];exact Qy (e,z,B,k)
end
structure It where
 go:Nat->Hp->Prop
 Y3:Nat->Hp->V->Hp->Prop
 stop:Nat->Hp->Prop
noncomputable def ko(X:Cx)(a:qa)(H:Hp)(b:Addr):Prop :=
 H b=none/\b≠X.env.locals/\b∉X.fs/\(b∈X.ex\/X.s₀.heap.objs.size<=b)/\(∀x c,X.env.cells.lookup x= ↑c->c≠b)/\∀p∈X.pn++a,p.1≠b
theorem Inv.X4{X:Cx}{a:qa}{g:St}{H f:Hp}{s:Shared}{b:Addr}(I:Inv X a g H s)(d:s.heap.objs.size<=b)(i:f b=none):ko X a f b:=by
 refine(i,Pb (NV I.lt d),I.nofs d,.inr (N4 I.sz d),λx c e z=>?_,λp j z=>?_)
 ·let(v,q):=I.cell x c e;exact absurd (NV q.lt (by rw[z];exact d)) (Ph _)
 ·exact absurd (NV (NW (I.pin p j).1) (by rw[z];exact d)) (Ph _)
theorem Inv.turned{X:Cx}{a:qa}{g:St}{H:Hp}{s:Shared}{i:Heap}{j:Nat}{its:zz}(I:Inv X a g H s)(ok:∀b∈its,ko X a H b)(k:∀b o,b∉its->s.heap.get? b= ↑o->i.get? b= ↑o):Inv X a g H {s with heap:=i,toks:=j}:=by
 have f:∀b u,H b= ↑u->b∉its:=λb u e z=>by rw[(ok b z).1]at e;cases e
 refine I.step (g':=s.gens) (d':=s.drawn) (ch:=its) (λb l=>let⟨_,p,_,t,w⟩:=ok b l;(t,p,w)) (λb o _ _ d e _=>k b o d e) (λb o _ _ d e _=>(o.slots,k b o d e)) (λ_ _ _ _ n=>n)
  (λb o d e=>(o,k b o d e)) (λ_ _ _ e=>e) (λm ⟨o,y,B,E,r⟩=>(o,y,B,k _ o (λz=>(ok _ z).2.1 rfl) E,r)) (λb u e=>(I.hok b u e).stay (λc v d q=>k c v ?_ q) λ_ q=>q) I.bare
 rcases d with z|z
 ·rw[z];exact f b u e
 ·exact f c _ z
structure iu(P:Program)(w:World)(K:qs)(tg:Expr)(J:It)(fp:zz)(it:Addr)(tn:Nat->Heap->Prop):Prop where
 mem:it∈fp
 obj:∀i h,tn i h->∀b∈fp,∃o,h.get? b= ↑o/\∀v,o.data≠.cell v
 keep:∀i h h',tn i h->(∀b∈fp,∀o,h.get? b= ↑o->h'.get? b= ↑o)->tn i h'
 item:∀(X:Cx),X.prog=P->X.w=w->X.K=K->X.calm=true->∀(i:Nat)(pins:qa)(s:Shared)(σ:St)(H:Hp)(E:ql),Inv X pins σ H s->(∀b∈fp,ko X pins H b)->tn i s.heap->J.go i H ->
  wpAny (model P w) X.A (pyNext ⇑it) (λr s1=>∃u,r= ↑u /\
   wpAny (model P w) X.A (letOwnedTupleGo tg ⇑it u) (λ_ s2=>∃x H',Inv X pins σ H' s2/\RelV x u/\J.Y3 i H x H'/\tn (i+1) s2.heap/\∀b∈fp,H' b=none) E s1) E s
 done:∀(X:Cx),X.prog=P->X.w=w->X.K=K->X.calm=true->∀(i:Nat)(pins:qa)(s:Shared)(σ:St)(H:Hp)(E:ql),Inv X pins σ H s->(∀b∈fp,ko X pins H b)->tn i s.heap->J.stop i H ->
  wpAny (model P w) X.A (pyNext ⇑it) (λr s1=>r=none/\Inv X pins σ H s1) E s
 self:∀(A:Around)(i:Nat)(s:Shared)(Q:ql)(E:ql),tn i s.heap->Q ⇑it s->wpAny (model P w) A (pyIter ⇑it) Q E s
noncomputable abbrev TI:=St->Hp->(It->Hp->Prop)->Prop
noncomputable def PIE(X:Cx)(a:qa)(i:St)(j:Expr)(R:It->Hp->Prop)(d:Value)(f:Shared):Prop :=
 ∃(it:Addr)(g:zz)(tn:Nat->Heap->Prop)(J:It)(e:Hp),d= ⇑it/\Inv X a i e f/\iu X.prog X.w X.K j J g it tn/\tn 0 f.heap/\(∀b∈g,ko X a e b)/\R J e
noncomputable def PI(X:Cx)(e iter:Expr)(f:TI):Prop :=
 ∀(a:qa)(s:Shared)(d:St)(H:Hp)(R:It->Hp->Prop),Inv X a d H s->f d H R ->
  wpAny (model X.prog X.w) X.A (eval iter X.env) (λv g=>wpAny (model X.prog X.w) X.A (pyIter v) (PIE X a d e R) X.xe g) X.xe s
noncomputable abbrev owN:List String:=["enumerate","zip","dict_itemiterator","dict_reverseitemiterator","odict_iterator","itertools.zip_longest","itertools.pairwise"]
theorem HL{s:Shared}(d:s.heap.get? it= ↑o)(e:o.cls=.type n)(f:o.data=.fields g)
  (i:owN.contains n=false) (a:Q () s):wpAny M A (letOwnedTupleGo j ⇑it u) Q E s:=by
 unfold letOwnedTupleGo
 cases j<;>first
  |exact Nv a
  | (cases u<;>first
    |exact Nv a
    | (refine xd (wpAny_load d ?_)
       rw[e,f];show wpAny M A (if (["enumerate","zip","dict_itemiterator","dict_reverseitemiterator","odict_iterator","itertools.zip_longest","itertools.pairwise"].contains n&&g[0]?== ↑(rawInt _))=true then _ else _) Q E s;rw[NH (by intro h;rw[i,Bool.false_and]at h;cases h)];exact Nv a))
noncomputable def Itl(K:qs)(a:Addr):It :=
 (λi H=>∃d x,RP K H a d/\d[i]?= ↑x,λi H x e=>e=H/\∀d,RP K H a d->d[i]?= ↑x,λi H=>∃d,RP K H a d/\d.length<=i)
noncomputable def Itt(K:qs)(a:Addr):It :=
 (λi H=>∃d x,RW K H a d/\d[i]?= ↑x,λi H x e=>e=H/\∀d,RW K H a d->d[i]?= ↑x,λi H=>∃d,RW K H a d/\d.length<=i)
noncomputable def Itr(lo:Int)(n:Nat):It:=(λi _=>i<n,λi H x a=>a=H/\x=.int (lo+i),λi _=>n<=i)
theorem cH{K:qs}{J:It}
  (p:∀i h,tn i h->∃o n O,h.get? it= ↑o/\o.cls=.type n/\o.data=.fields O/\owN.contains n=false/\∀f:Heap,f.get? it= ↑o->tn i f)
  (item:∀(X:Cx),X.prog=P->X.w=w->X.K=K->X.calm=true->∀(i:Nat)(a:qa)(s:Shared)(g:St)(H:Hp)(Q:Option Value->Shared->Prop)(E:ql),Inv X a g H s->tn i s.heap->J.go i H ->
   (∀u x f j,RelV x u->J.Y3 i H x H->tn (i+1) f->(∀b o,b∉[it]->s.heap.get? b= ↑o->f.get? b= ↑o)->Q ↑u {s with heap:=f,toks:=j})->wpAny (model P w) X.A (pyNext ⇑it) Q E s)
  (done:∀(X:Cx),X.prog=P->X.w=w->X.K=K->X.calm=true->∀(i:Nat)(a:qa)(s:Shared)(g:St)(H:Hp)(Q:Option Value->Shared->Prop)(E:ql),Inv X a g H s->tn i s.heap->J.stop i H ->
   (∀f j,(∀b o,b∉[it]->s.heap.get? b= ↑o->f.get? b= ↑o)->Q none {s with heap:=f,toks:=j})->wpAny (model P w) X.A (pyNext ⇑it) Q E s)
  (self:∀(A:Around)(i:Nat)(s:Shared)(Q:ql)(E:ql),tn i s.heap->Q ⇑it s->wpAny (model P w) A (pyIter ⇑it) Q E s):iu P w K Y J [it] it tn where
 mem:=.head _
 obj:=λi h st b r=>let⟨o,_,_,e,_,d,_⟩:=p i h st;(o,(NI.mp r).symm▸e,λv z=>by rw[d]at z;cases z)
 keep:=λi h f st k=>let⟨o,_,_,e,_,_,_,q⟩:=p i h st;q f (k it (.head _) o e)
 item:=λX t B G L i a s g H E I m st M=>item X t B G L i a s g H _ E I st M λu x f j T y l N =>
  let⟨_,_,_,e,c,d,U,_⟩:=p _ _ l
  (u,rfl,HL (s:={s with heap:=f,toks:=j}) e c d U (x,H,I.turned m N,T,y,l,λb r=>(m b r).1))
 done:=λX t B G L i a s g H E I m st M=>done X t B G L i a s g H _ E I st M λf j N=>(rfl,I.turned m N)
 self:=self
theorem Inv.WK{X:Cx}{a:qa}{d:St}{H:Hp}{s:Shared}{f:Expr}{J:It}{tn:Nat->Heap->Prop}{o:Obj}{g:Nat}{R:It->Hp->Prop}(I:Inv X a d H s)(T:iu X.prog X.w X.K f J [s.heap.objs.size] s.heap.objs.size tn)(st:tn 0 (s.heap.push o))(q:R J H) :
  PIE X a d f R ⇑s.heap.objs.size {s with heap:=s.heap.push o,toks:=g} :=
 (_,_,_,_,H,rfl,I.kept λb o e=>Ar _ e,T,st,λb i=>by rw[NI.mp i];exact I.X4 (Nu _) (I.hok.fresh (Nu _)),q)
theorem SameBut.of(a:Heap.SameBut it h d):∀b o,b∉[it]->h.get? b= ↑o->d.get? b= ↑o:=λb _ f e=>(a.2 b λz=>f (z▸.head _)).trans e
theorem ExtBut.of(a:Heap.ExtBut it h d):∀b o,b∉[it]->h.get? b= ↑o->d.get? b= ↑o:=λb o f e=>a b o (λz=>f (z▸.head _)) e
theorem xu{K:qs}(a it:Addr):iu P w K N (Itl K a) [it] it (λi h=>h.IsListIter it a i):=by
 refine cH (λi h ⟨o,e,c,d⟩=>(o,_,_,e,c,d,rfl,λg q=>(o,q,c,d))) ?_ ?_ λ_ _ _ _ _ st h=>wpAny_pyIter_listiter st h
 ·rintro X rfl rfl rfl v i f s y H Q E I st ⟨z,x,j,l⟩ k;let(m,r,p,B):=I.list j;let(u,G,J):=r.get l;exact wpAny_pyNext_list_item st p.isList (x:=u) (by simpa using G) λg t L=>k u x g s.toks J (rfl,λO hy=>by rw[I.Wq hy j];exact l) t (SameBut.of L)
 ·rintro X rfl rfl rfl v i f s y H Q E I st ⟨z,j,l⟩ k;let(m,r,p,B):=I.list j;have hl:=r.length;exact wpAny_pyNext_list_end (I.ok.hd v) st p.isList (by simp;lia) λg M=>k g s.toks (ExtBut.of M)
theorem uB{K:qs}(a it:Addr):iu P w K N (Itt K a) [it] it (λi h=>h.IsTupleIter it a i):=by
 refine cH (λi h ⟨o,e,c,d⟩=>(o,_,_,e,c,d,rfl,λj q=>(o,q,c,d))) ?_ ?_ λ_ _ _ _ _ st h=>wpAny_pyIter_tupleiter st h
 ·rintro X rfl rfl rfl v i g s y H Q E I st ⟨z,x,l,m⟩ k;let(f,r,p,B):=I.tuple l;let(u,G,J):=r.get m;exact wpAny_pyNext_tuple_item st (show s.heap.IsTuple a f.toArray from p) (x:=u) (by simpa using G) λj t L=>k u x j s.toks J (rfl,λO hy=>by rw[I.UM hy l];exact m) t (SameBut.of L)
 ·rintro X rfl rfl rfl v i g s y H Q E I st ⟨z,l,m⟩ k;let(f,r,p,B):=I.tuple l;have hl:=r.length;exact wpAny_pyNext_tuple_end (I.ok.hd v) st (show s.heap.IsTuple a f.toArray from p) (by simp;lia) λj M=>k j s.toks (ExtBut.of M)
theorem uA{K:qs}(it:Addr)(lo:Int)(n:Nat):iu P w K u (Itr lo n) [it] it (λi h=>IsRangeIter h it (lo+(i:Nat)*1) ((n:Int) - (i:Nat)) 1):=by
 refine cH (λi h st=>(_,"range_iterator",_,st,rfl,rfl,rfl,λd q=>q)) ?_ ?_ λ_ _ _ _ _ st h=>wpAny_pyIter_rangeiter st h
 ·rintro X rfl rfl rfl f i a s l H Q E I st g k;refine(Walks.range (prog:=X.prog) (w:=X.w) (I.ok.hd f) it lo 1 n).item i s _ _ g st λv d m ⟨t,e⟩ j p=>k v (.int (lo+i)) d m (t,by rw[e,Int.mul_one]) (rfl,rfl) j p
 ·rintro X rfl rfl rfl f i a s l H Q E I st g k;exact wpAny_pyNext_range_end (I.ok.hd f) st (by have:n<=i:=g;lia) λd r=>k d s.toks (ExtBut.of r)
section
noncomputable def HM(K:qs)(tl:TE):TI:=λe H R=>tl e H λx d=>∃a,x= ⇑a/\(∃f,RP K d a f)/\R (Itl K a) d
noncomputable def KL(K:qs)(tl:TE):TI:=λe H R=>tl e H λx d=>∃a,x= ⇑a/\(∃f,RW K d a f)/\R (Itt K a) d
theorem CI(hl:PE X l tl):PI X r l (HM X.K tl):=by intro d s g H R I h;refine RA (hl d s g H _ I h) λv t ⟨x,u,f,i,j⟩=>?_;let(a,e,(w,k),q):=j;subst e;cases i;let(m,y,p,z):=f.list k;refine Qi p.isList ?_;exact f.WK (xu a _) (_,NG _ rfl,rfl,rfl) q
theorem F8(hl:PE X l tl):PI X t l (KL X.K tl):=by intro d s i H R I h;refine RA (hl d s i H _ I h) λv j ⟨x,u,g,k,m⟩=>?_;let(a,e,(w,r),q):=m;subst e;cases k;let(f,y,p,z):=g.tuple r;refine Q8 (show j.heap.IsTuple a f.toArray from p) ?_;exact g.WK (uB a _) (_,NG _ rfl,rfl,rfl) q
theorem Az{X:Cx}{i:Expr}{a:qa}{f:St}{H:Hp}{s:Shared}{R:It->Hp->Prop}{E:ql}{lo d:Int}{t u v:Tok}{g:Nat}(I:Inv X a f H s)(h1:-(2 ^ 62)<=lo)(j:lo<2 ^ 62)(k:-(2 ^ 62)<=d)(l:d<2 ^ 62)
  (q:R (Itr lo (d - lo).toNat) H):wpAny (model X.prog X.w) X.A (pyIter ⇑s.heap.objs.size) (PIE X a f i R) E {s with heap:=s.heap.push {cls:=.type "range",data:=.fields #[.int lo t,.int d u,.int 1 v]},toks:=g}:=by
 refine wpAny_pyIter_range (IsRange.new ..) (small_one h1 j k l) ?_;have m:Inv X a f H {s with heap:=s.heap.push {cls:=.type "range",data:=.fields #[.int lo t,.int d u,.int 1 v]},toks:=g}:=I.kept λb o e=>Ar _ e;refine m.WK (uA _ lo (d - lo).toNat) ?_ q;have e1:lo+((0:Nat):Int)*1=lo:=by simp
 have e2:(((d - lo).toNat:Nat):Int) - ((0:Nat):Int)=Builtin.Range.rangeSize lo d 1:=by rw[rangeSize_one];split<;>lia
 rw[e1,e2];exact NG _ rfl
noncomputable def HP(a:TA):TI:=λd H R=>a d H λe f=>∃j:Int,e=[.int j]/\-(2 ^ 62)<=j/\j<2 ^ 62/\R (Itr 0 j.toNat) f
theorem xc(i:Gl X "range")(k:X.mg "range"=none)(l:PA X [a] m)(hs:starEach [a] X.env=[(false,eval a X.env)]:=by rfl):PI X B (.Call (.Name "range" p) [a] [] f) (HP m):=by
 intro d s u H R I h;refine Call_ (hV I i k boot_range (OX (RA (l f d s u H _ I h) λE G ⟨J,L,v,w,g⟩=>?_) hs rfl));let(j,e,g,y,q):=g;subst e
 cases w with
 |cons r z =>cases z;let(t,rfl):=r;exact call_range_1 (Az v ⋯ ⋯ g y (by simpa using q))
noncomputable def Lx(k:TI)(g:TG)(l:TS):TS:=λD a H=>k a H λJ p=>∃W:Nat->Nat->St->Hp->Prop,(∃m,W 0 m a p)/\∀i m a H,W i m a H ->
 (J.stop i H/\D.nx a H)\/(J.go i H/\∃N:St->Hp->Prop,(∀d e,N d e->∃j,j<m/\W (i+1) j d e)/\∀x e,J.Y3 i H x e->g x a e λf q=>l {D with nx:=N,ct:=N,bk:=D.nx} f q)
noncomputable def pw(a:zz)(h:Heap):List (Addr×Obj):=a.filterMap λb=>(h.get? b).map λo=>(b,o)
theorem fE{h:Heap}(a:b∈d)(e:h.get? b= ↑o):(b,o)∈pw d h:=PJ.mpr (b,a,by rw[e];rfl)
theorem wV(a:p∈pw d h):p.1∈d/\h.get? p.1= ↑p.2:=by
 let(b,f,e):=PJ.mp a
 cases q:h.get? b with
 |none=>rw[q]at e;cases e
 |some o =>rw[q]at e;have g:(b,o)=p:=Oa e;subst g;exact(f,q)
theorem Inv.pinned{X:Cx}{a:qa}{g:St}{H:Hp}{s:Shared}{f:zz}(I:Inv X a g H s)(k:∀b∈f,ko X a H b)(l:∀b∈f,∃o,s.heap.get? b= ↑o/\∀v,o.data≠.cell v):Inv X (a++pw f s.heap) g H s :=
 I.VQ λp m=>(NS.mp m).elim (λz=>I.pin p (NO _ z)) λz=>by let(i,e):=wV z;let(q,r,t,_):=k p.1 i;let(o,j,d):=l p.1 i;rw[e]at j;cases j;exact(e,q,r,t,d)
theorem Inv.Tv{X:Cx}{a e:qa}{d:St}{H:Hp}{s:Shared}(I:Inv X (a++e) d H s):Inv X a d H s:=I.VQ λp f=>I.pin p (NO _ (Oj _ f))
theorem Gf{X:Cx}(B:PassesOwn (model X.prog X.w) X.A X.env X.xe)(hc:X.calm=true)(hi:PI X tg iter wi)(hg:PG X tg g)(k:Su X body tb)
  (hs:∀x,foldedSetIterable iter X.env x=pure x:=by intro _;rfl):PS X (.For tg iter body [] pos) (Lx wi g tb):=by
 intro a s σ H D I h;refine wpAny_For (RA (hi a s σ H _ I h) λv s1 h1=>RA h1 λitv s2 h2=>?_) hs;let(it,E,tn,J,H2,e,I2,T,O,f2,W,(m0,w0),G):=h2;subst e;have Q:∀{y:Hp},(∀b∈E,y b=none)->∀b∈E,ko X a y b:=λhn b k=>(hn b k,(f2 b k).2)
 refine codeAny_forLoop_any (λn s'=>∃i l y,Inv X a l y s'/\tn i s'.heap/\(∀b∈E,y b=none)/\W i n l y) ?_ m0 (0,σ,H2,I2,O,λb k=>(f2 b k).1,w0);rintro n s3 ⟨i,p,M,I3,L,Y4,w3⟩;rcases G i n p M w3 with⟨stop,qn⟩|⟨go,N,hN,step⟩
 ·refine Pe B (RA (T.done X rfl rfl rfl hc i a s3 p M X.xe I3 (Q Y4) L stop) λr s4 ⟨U,I4⟩=>?_);subst U;exact Qy (p,M,I4,qn)
 ·refine Pe B (RA (T.item X rfl rfl rfl hc i a s3 p M X.xe I3 (Q Y4) L go) λr s4 ⟨u,U,h4⟩=>?_);subst U;refine Pe B (RA h4 λ_ s5 ⟨x,H5,I5,r5,y5,Y,fr5⟩=>?_);have I5':=I5.pinned (Q fr5) (T.obj _ _ Y);refine Pe B (RA (hg _ s5 p H5 x u _ I5' r5 (step x H5 y5)) λ_ s6 ⟨σ6,H6,I6,q6⟩=>?_);refine Pe B (RA (k _ s6 σ6 H6 _ I6 q6) λf s7 z=>?_)
  have again:∀{j:St}{q:Hp},Inv X (a++pw E s5.heap) j q s7->N j q->∃m,m<n/\∃i l y,Inv X a l y s7/\tn i s7.heap/\(∀b∈E,y b=none)/\W i m l y:=λ{j q} t n7=>by let(m',hm,w7):=hN j q n7;refine(m',hm,i+1,j,q,t.Tv,T.keep _ _ _ Y λb k o e=>(t.pin (b,o) (NO _ (NO _ (fE k e)))).1,λb k=>?_,w7);let(o,e,d):=T.obj _ _ Y b k;exact(t.pin (b,o) (NO _ (NO _ (fE k e)))).2.1
  cases f with
  |next=>let(j,q,t,n7):=z;exact again t n7
  |cont=>let(j,q,t,n7):=z;exact again t n7
  |brk=>let(j,q,t,z):=z;exact(j,q,t.Tv,z)
  |ret v=>let(x7,j,q,t,r7,z):=z;exact(x7,j,q,t.Tv,r7,z)
end
noncomputable abbrev R2:=V->V->Hp->VK->Prop
noncomputable def Sh(X:Cx)(f:Value->Value->Sem Value)(r:R2):Prop :=
 ∀(a:qa)(s:Shared)(d:St)(H:Hp)(x y:V)(v u:Value)(Q:VK),Inv X a d H s->RelV x v->RelV y u->r x y H Q ->
  wpAny (model X.prog X.w) X.A (f v u) (EP X a d Q) X.xe s
noncomputable def ZT(X:Cx)(f:Value->Sem Value)(r:V->Hp->VK->Prop):Prop :=
 ∀(a:qa)(s:Shared)(d:St)(H:Hp)(x:V)(v:Value)(Q:VK),Inv X a d H s->RelV x v->r x H Q ->
  wpAny (model X.prog X.w) X.A (f v) (EP X a d Q) X.xe s
noncomputable def bE(X:Cx)(f:Value)(r:List V->Hp->VK->Prop):Prop :=
 ∀(a:qa)(s:Shared)(d:St)(H:Hp)(e:List V)(g:qw)(Q:VK),Inv X a d H s->Vals e g->r e H Q ->
  wpAny (model X.prog X.w) X.A (call f g) (EP X a d Q) X.xe s
noncomputable def Kc(X:Cx)(r:V->Hp->(Bool->Hp->Prop)->Prop):Prop :=
 ∀(a:qa)(s:Shared)(d:St)(H:Hp)(x:V)(v:Value)(Q:Bool->Hp->Prop),Inv X a d H s->RelV x v->r x H Q ->
  wpAny (model X.prog X.w) X.A (truthy v) (TP X a d Q) X.xe s
noncomputable def W7(r:R2)(d e:TE):TE:=λa H Q=>d a H λx f=>e a f λy g=>r x y g Q
noncomputable def Xy(r:V->Hp->VK->Prop)(a:TE):TE:=λd H Q=>a d H λx e=>r x e Q
noncomputable def rI(C:Int->Int->Prop)(g:Int->Int->V):R2:=λx y H Q=>∃i j,x=.int i/\y=.int j/\C i j/\Q (g i j) H
noncomputable def U9(g:Int->Int->V):R2:=λx y H Q=>∃i j,x=.int i/\y=.int j/\Q (g i j) H
noncomputable def rU(g:Int->V):V->Hp->VK->Prop:=λx H Q=>∃i,x=.int i/\Q (g i) H
section
theorem Ei{X:Cx}{a b:Expr}{m p:TE}(q:PE X a m)(r:PE X b p){d:qa}{s:Shared}{e:St}{H:Hp}{R:V->V->Hp->Prop}(I:Inv X d e H s)
  (h:m e H λx l=>p e l λy g=>R x y g) {Q:ql} {f:Value->Value->Sem Value}
  (t:∀v u k x y g,Inv X d e g k->RelV x v->RelV y u->R x y g->wpAny (model X.prog X.w) X.A (f v u) Q X.xe k) :
  wpAny (model X.prog X.w) X.A (eval a X.env) (λv i=>wpAny (model X.prog X.w) X.A (eval b X.env) (λu j=>wpAny (model X.prog X.w) X.A (f v u) Q X.xe j) X.xe i) X.xe s:=by
 refine RA (q d s e H _ I h) λv z ⟨x,l,B,E,G⟩=>?_;refine RA (r d z e l _ B G) λu k ⟨y,g,J,L,M⟩=>?_;exact t v u k x y g J E L M
theorem cf(e:Sh X (binaryOp f) r)(g:PE X a i)(j:PE X b k):PE X (.BinOp a f b l) (W7 r i k):=by intro d s m H Q I h;exact wpAny_BinOp (Ei g j I h λv u p x y t w z B q=>e d p m t x y v u Q w z B q)
theorem DR(f:ZT X (unaryOp g) r)(i:PE X a j):PE X (.UnaryOp g a k) (Xy r j):=by intro d s e H Q I h;exact UnaryOp_ (RA (i d s e H _ I h) λv l ⟨x,m,p,q,t⟩=>f d l e m x v Q p q t)
theorem Y5{X:Cx}{f:Value->Value->Sem Value}{C:Int->Int->Prop}{g:Int->Int->Int}
  (rule:∀(i j:Int)(t u:Tok)(s:Shared)(Q:ql)(E:ql),C i j->Q (.int (g i j) s.toks) {s with toks:=s.toks+1}->wpAny (model X.prog X.w) X.A (f (.int i t) (.int j u)) Q E s) :
  Sh X f (rI C λi j=>.int (g i j)):=by
 intro a s m H x y v u Q I d e h;let(i,j,rfl,rfl,k,q):=h;let(t,rfl):=d;let(l,rfl):=e;exact rule i j t l s _ _ k (.int (g i j),H,I.tok _,(_,rfl),q)
theorem IE{X:Cx}{f:Value->Value->Sem Value}{g:Int->Int->Int}
  (rule:∀(i j:Int)(t u:Tok)(s:Shared)(Q:ql)(E:ql),Q (.int (g i j) s.toks) {s with toks:=s.toks+1}->wpAny (model X.prog X.w) X.A (f (.int i t) (.int j u)) Q E s) :
  Sh X f (U9 λi j=>.int (g i j)):=by
 intro a s l H x y v u Q I d e h;let(i,j,rfl,rfl,q):=h;let(t,rfl):=d;let(k,rfl):=e;exact rule i j t k s _ _ (.int (g i j),H,I.tok _,(_,rfl),q)
theorem zR{X:Cx}{f:Value->Value->Sem Value}{g:Int->Int->Bool}
  (rule:∀(i j:Int)(t u:Tok)(s:Shared)(Q:ql)(E:ql),Q (.bool (g i j)) s->wpAny (model X.prog X.w) X.A (f (.int i t) (.int j u)) Q E s) :
  Sh X f (U9 λi j=>.bl (g i j)):=by
 intro a s l H x y v u Q I d e h;let(i,j,rfl,rfl,q):=h;let(t,rfl):=d;let(k,rfl):=e;exact rule i j t k s _ _ (.bl (g i j),H,I,rfl,q)
noncomputable def Hl(i j:Int):Prop:=0<j/\j<1073741824
noncomputable def Kb(i j:Int):Prop:=0<=j/\j<=1000000/\i.natAbs<2 ^ 64
noncomputable def W8(i j:Int):Prop:=(-(2 ^ 64)<i/\i<2 ^ 64)\/(-(2 ^ 64)<j/\j<2 ^ 64)
theorem W8.ok(h:W8 i j):IntMulOk i j:=by
 rcases h with⟨h1,a⟩|⟨h1,a⟩
 ·exact .of_left (intBits_le_64 h1 a)
 ·exact .of_right (intBits_le_64 h1 a)
theorem Vw:Sh X (binaryOp .Add) (U9 λi j=>.int (i+j)):=IE λ_ _ _ _ _ _ _ q=>add_int q
theorem FS:Sh X (binaryOp .Sub) (U9 λi j=>.int (i - j)):=IE λ_ _ _ _ _ _ _ q=>sub_int q
theorem ub:Sh X (binaryOp .Mult) (rI W8 λi j=>.int (i*j)):=Y5 λ_ _ _ _ _ _ _ a q=>mul_int q a.ok
theorem pd:Sh X (binaryOp .FloorDiv) (rI Hl λi j=>.int (i / j)):=Y5 λi j _ _ _ _ _ a q=>by have h1:(0:Int)<j:=a.1;have d:j<1073741824:=a.2;exact floordiv_int ⋯ (by rw[Int.fdiv_eq_ediv_of_nonneg i ⋯];exact q) (.inl (PyProof.noPylong_small ⋯))
theorem eR:Sh X (binaryOp .Mod) (rI (λ_ j=>0<j) λi j=>.int (i%j)):=Y5 λi j _ _ _ _ _ a q=>by have h1:(0:Int)<j:=a;exact mod_int' ⋯ (by rw[Int.fmod_eq_emod_of_nonneg i ⋯];exact q)
theorem pe:Sh X (binaryOp .Pow) (rI Kb λi j=>.int (i ^ j.toNat)):=Y5 λ_ _ _ _ _ _ _ a q=>pow_int_small a.1 a.2.1 a.2.2 q
theorem unI{X:Cx}{f:Value->Sem Value}{g:Int->Int}
  (rule:∀(i:Int)(t:Tok)(s:Shared)(Q:ql)(E:ql),Q (.int (g i) s.toks) {s with toks:=s.toks+1}->wpAny (model X.prog X.w) X.A (f (.int i t)) Q E s) :
  ZT X f (rU λi=>.int (g i)):=by
 intro a s e H x v Q I d h;let(i,rfl,q):=h;let(t,rfl):=d;exact rule i t s _ _ (.int (g i),H,I.tok _,(_,rfl),q)
theorem A9:ZT X (unaryOp .USub) (rU λi=>.int (-i)):=unI λ_ _ _ _ _ q=>neg_int q
end
section
variable{b:Expr}{ta tb tc:TE}
theorem FP:Sh X (compareOp .Is) (λx y H Q=>y=.Ro/\Q (.bl (decide (x=.Ro))) H):=by rintro a s f H x y v u Q I d e ⟨rfl,q⟩;cases e;exact is_none_gen (.bl _,H,I,by rw[d.Vf];rfl,q)
theorem CA:Sh X (compareOp .IsNot) (λx y H Q=>y=.Ro/\Q (.bl (!decide (x=.Ro))) H):=by rintro a s f H x y v u Q I d e ⟨rfl,q⟩;cases e;exact isnot_none_gen (.bl _,H,I,by rw[d.Vf];rfl,q)
theorem IF:Sh X (compareOp .NotEq) (U9 λi j=>.bl (!(i==j))):=zR λ_ _ _ _ _ _ _ q=>ne_int q
theorem DP:Sh X (compareOp .Lt) (U9 λi j=>.bl (decide (i<j))):=zR λ_ _ _ _ _ _ _ q=>lt_int q
theorem lG:Sh X (compareOp .LtE) (U9 λi j=>.bl (decide (i<=j))):=zR λ_ _ _ _ _ _ _ q=>le_int q
theorem DO:Sh X (compareOp .Gt) (U9 λi j=>.bl (decide (j<i))):=zR λ_ _ _ _ _ _ _ q=>gt_int q
theorem DN:Sh X (compareOp .GtE) (U9 λi j=>.bl (decide (j<=i))):=zR λ_ _ _ _ _ _ _ q=>ge_int q
theorem Sh.or(h:Sh X f r)(i:Sh X f j):Sh X f (λx y H Q=>r x y H Q\/j x y H Q):=by
 intro a s d H x y v u Q I e g q;rcases q with q|q
 ·exact h a s d H x y v u Q I e g q
 ·exact i a s d H x y v u Q I e g q
theorem nr(e:Sh X (compareOp f) r)(g:PE X a ta)(i:PE X b tb):PC X f a b (W7 r ta tb):=λd s j H _ I h=>Ei g i I h λv u k x y l m p t q=>e d k j l x y v u _ m p t q
theorem iZ(e:Sh X (compareOp d) r)(f:PE X a ta)(g:PE X b tb)(i:behindInMarks d b=false):PT X (.Compare a [d] [b] j) (Ue (W7 r ta tb)):=As (nr e f g) i
noncomputable def TQ(r e:R2)(ta tb tc:TE):TE:=λa H Q=>ta a H λx f=>tb a f λy g=>r x y g λz d=>∃k,z=.bl k /\
 (if k=true then tc a d λi j=>e y i j Q else Q (.bl false) d)
theorem rE(w:Sh X (compareOp l) r)(j:Sh X (compareOp g) B)(E:PE X a ta)(G:PE X b tb)(J:PE X c tc)
  (L:lastMarks [l,g] [b,c]=false:=by with_unfolding_all rfl):PE X (.Compare a [l,g] [b,c] M) (TQ r B ta tb tc):=by
 intro f s i H Q I h
 refine Compare_chain (RA (E f s i H _ I h) λv N ⟨x,O,T,U,Y⟩=>chain_link (RA (G f N i O _ T Y) λu s2 ⟨y,H2,I2,m,q2⟩ =>
  RA (w f s2 i H2 x y v u _ I2 U m q2) λd s3 ⟨z,p,q,r3,k,e,t⟩=>?_)) L
 subst e;cases r3;refine Ov ?_
 cases k with
 |false=>exact ite_ff (.bl false,p,q,rfl,t)
 |true=>exact ite_tt (chain_last (RA (J f s3 i p _ q t) λw' s4 ⟨z',H4,I4,r4,q4⟩=>j f s4 i H4 y z' u w' Q I4 m r4 q4))
theorem rJ(w:Sh X (compareOp l) r)(j:Sh X (compareOp g) B)(E:PE X a ta)(G:PE X b tb)(J:PE X c tc)
  (L:lastMarks [l,g] [b,c]=false:=by with_unfolding_all rfl):PT X (.Compare a [l,g] [b,c] M) (Ue (TQ r B ta tb tc)):=by
 intro f s i H Q I h
 refine isTrue_chain (RA (E f s i H _ I h) λv N ⟨x,O,T,U,Y⟩=>test_link (RA (G f N i O _ T Y) λu s2 ⟨y,H2,I2,m,q2⟩ =>
  RA (w f s2 i H2 x y v u _ I2 U m q2) λd s3 ⟨z,p,q,r3,k,e,t⟩=>?_)) L
 subst e;cases r3;refine Ov ?_
 cases k with
 |false =>let(k',e',q'):=t;cases e';exact ite_ff (p,q,q')
 |true =>refine ite_tt (test_last (RA (J f s3 i p _ q t) λw' s4 ⟨z',H4,I4,r4,q4⟩=>RA (j f s4 i H4 y z' u w' _ I4 m r4 q4) λd' s5 ⟨z2,H5,I5,r5,k2,e2,q5⟩=>?_));subst e2;cases r5;exact Ov (H5,I5,q5)
noncomputable def Bu(K:qs)(x:V)(H:Hp)(k:Bool):Prop :=
 match x with
 | .Ro=>k=false
 | .bl b=>k=b
 | .int i=>k=(i != 0)
 | .str y=>y.length<=sizeLine/\k=((y.length:Int) != 0)
 | .ref p=>(∃a,RP K H p a/\k=!a.isEmpty)\/(∃a,RW K H p a/\k=!a.isEmpty)\/∃d,H p= ↑(.dK d)/\k=!d.isEmpty
 |_=>False
theorem tD(r:KV a d):(!d.isEmpty)=!a.isEmpty:=by cases r<;>rfl
theorem kZ(r:Vals d a):(!a.toArray.isEmpty)=!d.isEmpty:=by cases r<;>simp
theorem gh:(sizeLine:Nat)<2 ^ 63:=by rw[Ol];decide
theorem Ha:Kc X (λx H Q=>∃k,Bu X.K x H k/\Q k H):=by
 intro E s L H x v Q I j h;let(k,e,q):=h;have hl:=gh;have hs:sizeLine=16777216:=Ol
 cases x with
 |Ro =>cases j;have a:k=false:=e;subst a;exact truthy_none (H,I,q)
 |bl b =>cases j;have a:k=b:=e;subst a;exact Ov (H,I,q)
 |int i =>let(t,rfl):=j;have a:k=(i != 0):=e;subst a;exact PySem.P.truthy_int (H,I,q)
 |str y =>let(t,rfl):=j;obtain⟨hy,a⟩:y.length<=sizeLine/\k=((y.length:Int) != 0):=e;subst a;exact PySem.P.truthy_str ⋯ (H,I.tok _,q)
 |ref p =>
  cases j;have a:(∃g,RP X.K H p g/\k=!g.isEmpty)\/(∃g,RW X.K H p g/\k=!g.isEmpty)\/∃d,H p= ↑(.dK d)/\k=!d.isEmpty:=e;rcases a with⟨g,l,a⟩|⟨g,l,a⟩|⟨d,l,a⟩
  ·subst a;let(z,r,B,G):=I.list l;have f:=r.length;exact wpAny_truthy_list B.isList (by simp only[ND];lia) (H,I.tok _,by rw[kZ r];exact q)
  ·subst a;let(z,r,B,G):=I.tuple l;have f:=r.length;exact truthy_tuple B (by simp only[ND];lia) (H,I.tok _,by rw[kZ r];exact q)
  ·subst a;obtain⟨G,J,u,r,m⟩:d.length<=sizeLine/\(p==sysModules)=false/\∃u,KV d u/\s.heap.DictOf (strKind X.prog X.w) p u:=I.hok p _ l;have f:d.length=u.length:=Rg r;exact wpAny_truthy_dict J m ⋯ (H,I.tok _,by rw[tD r];exact q)
 |_=>exact(show False from e).elim
theorem lM(i:PE X a ta)(j:∀d,isTrue a X.env d=(do let v <- d;standAt a.pos;holding [v] (truthy v))) :
  PT X a (λf H Q=>ta f H λx g=>∃k,Bu X.K x g k/\Q k g):=by
 intro e s f H Q I h;exact isTrue_plain (RA (i e s f H _ I h) λv l ⟨x,m,p,q,r⟩=>Ha e l f m x v Q p q r) (j _)
theorem bM(r:Vals [x] a):∃u,a=[u]/\RelV x u:=by
 cases r with
 |cons d e=>cases e;exact(_,rfl,d)
theorem D2(r:Vals [x,y] d):∃u a,d=[u,a]/\RelV x u/\RelV y a:=by
 cases r with
 |cons e f =>
  cases f with
  |cons g i=>cases i;exact(_,_,rfl,e,g)
end
structure Vx(h:Heap)(x dx C:Addr)(mA:za):Prop where
 obj:h.get? x= ↑(W.instObj C dx)
 ns:h.Ns1 dx mA
 ne:dx≠x
theorem wO{h:Heap}(n:h.Ns1 i j):∃f,h.get? i= ↑f/\∀name,W.lookIn name f= ↑(j name):=by
 let(o,g,r,k,l,hk,_,m):=n;refine(o,k,λname=>?_);have e:=m name;unfold nsFind findBy at e;rw[<- Array.find?_toList]at e;unfold W.lookIn;rw[l];dsimp only;split
 ·rename_i y q;rw[q]at e;exact NZ some e
 ·rename_i q;rw[q]at e
  have a:g.toList.any (·.refKey)=false:=by rw[Rh];intro y hy;let(z,t,d):=hk y (Array.mem_toList_iff.mp hy);simp[DictEntry.refKey,d]
  have p:¬ g.toList.any (·.refKey)=true:=by rw[a];exact PF
  rw[NH p];exact NZ some e
theorem Vx.look(I:Vx h x d C e):∃a,W.InstAt h x (W.instObj C d) C ↑a/\∀name,W.lookIn name a= ↑(e name) :=
 let⟨a,f,hl⟩:=wO I.ns
 (a,(I.obj,rfl,rfl,f),hl)
section
theorem BU{s:Shared}{K:qs}(X:K.In s.heap)(I:Vx s.heap x k C e)(f:W.plainGet K C name=true)(g:W.hasDictIn K C=true)
  (i:W.findIn K ⇑C name= ↑none) (j:e name= ↑v) (a:W.handedIn v=true) (h:Q v {s with toks:=s.toks+1}) :
  wpAny (model prog w) A (getAttr ⇑x name d) Q E s:=by
 let(l,J,hl):=I.look;exact W.get_value X J (W.plainGet_of f).1 (W.findObj_own g i rfl (by rw[hl,j])) a h
theorem yH{s:Shared}{K:qs}(X:K.In s.heap)(I:Vx s.heap x k C d)(a:W.plainGet K C name=true)
  (e:W.findIn K ⇑C name= ↑(some ⇑f)) (g:W.isFn K ⇑f=true) (i:d name=none) (h:Q (⇑f,[⇑x]) s) :
  wpAny (model prog w) A (getMethod ⇑x name l) Q E s:=by
 let(j,J,hl):=I.look;exact W.method_fn X J (W.plainGet_of a).1 (W.plainGet_of a).2 e (beq_iff_eq.mp g) (by show(W.lookIn name j).map (·.isSome)= ↑false;rw[hl,i];rfl) h
theorem Dn{s:Shared}{K:qs}(X:K.In s.heap)(I:Vx s.heap x f C l)
  (hs:W.findIn K ⇑C "__setattr__"= ↑(some (.builtin "object.__setattr__"))) (m:W.plainOver K C=true) (p:W.takerIn K C name= ↑none) (q:W.hasDictIn K C=true)
  (t:PySem.Within l u) (z:u.length<=sizeLine)
  (h:∀g,Vx g x f C (λy=>if y=name then ↑v else l y)->Heap.SameBut f s.heap g->Q () {s with heap:=g,toks:=s.toks+2}) :
  wpAny (model prog w) A (setAttr ⇑x name v) Q E s:=by
 let(N,J,hl):=I.look;refine W.set_plain X J hs (W.osa_open (s:={s with toks:=s.toks+1}) (r:=none) X J m p λb=>?_);let(cd,B,i):=W.any_some q;have G:s.heap.get? x= ↑(⇑C,some f,.plain,#[]):=I.obj;refine xd (Nv (xd (xd (wpAny_loadPart G (xd (W.Looks.here (s:={s with toks:=s.toks+1}) (W.looks_clsIn X B) ?_))))));rw[i];refine Nv (a:= ↑f) (xd (Nv (xd ?_)));refine wpAny_nsSet1 (s:={s with toks:=s.toks+1}) I.ns λg d e=>?_;let(O,H,L,j,k,M):=d.count (PySem.Within.cons name v t);refine xd (wpAny_lookBehind j (by rw[k];exact pastItsLine_dict (N4 M (by rw[N6];lia))) ?_);exact Nv (h _ ((e.2 _ (OB I.ne)).trans I.obj,d,I.ne) e)
theorem zB{A:Around}{s:Shared}{K:qs}(X:K.In s.heap)(e:W.makesIn K C=true)
  (i:W.findIn K ⇑C "__init__"= ↑(some ⇑f)) (j:W.typeIn K ⇑f= ↑(.type "function"))
  (h:codeAny (model prog w) (A.under (.builtin "type.__call__" (⇑C::a,kw))) (.call ⇑f (⇑(s.heap.objs.size+1)::a,kw)) (W.InitBack (s.heap.objs.size+1) R)
   {s with heap:=(s.heap.push W.emptyDict).push (W.instObj C s.heap.objs.size)}) :
  codeAny (model prog w) A (.call ⇑C (a,kw)) R s:=by
 let(k,g,d,t,os):=s;exact W.make_core (W.makes_of X e) (W.looks_findIn X i) (λself=>W.bind_fn X self j) (.inl rfl) h
end
theorem TN.some_of(r:TN ↑v o):∃u,o= ↑u/\RelV v u:=by
 cases o with
 |none=>exact(show False from r).elim
 |some u=>exact(u,rfl,r)
theorem TN.none_of(r:TN none o):o=none:=by
 cases o with
 |none=>rfl
 |some u=>exact(show False from r).elim
theorem wG(r:RelV v u):W.handedIn u=true:=by
 cases v with
 |Ro=>cases (show u=Value.none from r);rfl
 |bl b=>cases (show u=Value.bool b from r);rfl
 |int i=>let(t,e):=(show ∃t,u=Value.int i t from r);cases e;rfl
 |str x=>let(t,e):=(show ∃t,u=Value.str x t from r);cases e;rfl
 |ref a=>cases (show u=Value.ref a from r);rfl
 |ty n=>cases (show u=Value.type n from r);rfl
section
theorem ke(i:SK P w H h)(e:H a= ↑(.ins C j fs)):∃g,Vx h a j C g/\(∀f,TN (cw fs f) (g f))/\fs.length<=1000/\H j= ↑(.own a):=by
 let(d,z,ne,ob,g,n,r):=(show RD P w H h a (.ins C j fs) from i a _ e)
 exact(g,(ob,n,ne),r,z,d)
end
structure Uz(K:qs)(C:Addr):Prop where
 pg:W.plainGet K C Str.empty=true
 hd:W.hasDictIn K C=true
 po:W.plainOver K C=true
 sa:W.findIn K ⇑C "__setattr__"= ↑(some (.builtin "object.__setattr__"))
theorem Uz.get{K:qs}(c:Uz K C)(f:Str):W.plainGet K C f=true:=c.pg
noncomputable def R0(K:qs)(C:Addr)(f:Str):Prop:=W.findIn K ⇑C f= ↑none
theorem R0.Y6{K:qs}(n:R0 K C f):W.takerIn K C f= ↑none:=by unfold W.takerIn;rw[show W.findIn K ⇑C f= ↑none from n];rfl
structure Meth(K:qs)(C:Addr)(m:Str)(f:Addr):Prop where
 at_:W.findIn K ⇑C m= ↑(some ⇑f)
 fn:W.isFn K ⇑f=true
 kp:W.keepIn K ⇑f=true
section
theorem tm{X:Cx}{d:qa}{g:St}{H:Hp}{s:Shared}{a C k:Addr}{fs:List (Str×V)}{f:Str}{v:V}{A:Around}{E:ql}{b:Bool}{Q:ql}(I:Inv X d g H s)(e:H a= ↑(.ins C k fs))(c:Uz X.K C)(n:R0 X.K C f)(l:cw fs f= ↑v)
  (h:∀u i,Inv X d g H i->RelV v u->Q u i):wpAny (model X.prog X.w) A (getAttr ⇑a f b) Q E s:=by
 let(m,O,r,_):=ke I.hok e;let(u,p,j):=TN.some_of (v:=v) (o:=m f) (by rw[<- l];exact r f);exact BU I.Se O (c.get f) c.hd n p (wG j) (h u _ (I.tok _) j)
theorem hU{X:Cx}{d:qa}{f:St}{H:Hp}{s:Shared}{a C i:Addr}{fs:List (Str×V)}{A:Around}{E:ql}{m:Str}{g:Addr}{j:Sem Bool}{Q:Value×List Value->Shared->Prop}(I:Inv X d f H s)(e:H a= ↑(.ins C i fs))(c:Uz X.K C)(k:Meth X.K C m g)(l:cw fs m=none)
  (h:Q (⇑g,[⇑a]) s):wpAny (model X.prog X.w) A (getMethod ⇑a m j) Q E s:=by
 let(p,O,r,_):=ke I.hok e;have q:p m=none:=TN.none_of (by rw[<- l];exact r m);exact yH I.Se O (c.get m) k.at_ k.fn q h
theorem uw{X:Cx}{d:qa}{k:St}{H:Hp}{s:Shared}{a C i:Addr}{fs:List (Str×V)}{f:Str}{A:Around}{E:ql}{y:V}{u:Value}{Q:Unit->Shared->Prop}(I:Inv X d k H s)(e:H a= ↑(.ins C i fs))(c:Uz X.K C)(n:R0 X.K C f)(hl:fs.length<1000)(p:RelV y u)
  (h:∀l,Inv X d k (upd H a (.ins C i (dZ fs f y))) l->Q () l):wpAny (model X.prog X.w) A (setAttr ⇑a f u) Q E s:=by
 let(T,O,r,_,m):=ke I.hok e;have t:(fs.map (·.1)).length<=sizeLine:=by rw[NC,Ol];lia
 refine Dn I.Se O c.sa c.po n.Y6 c.hd (λg B=>?_) t λG j J=>h _ ?_
 ·have:=r g
  cases q:cw fs g with
  |none=>rw[q]at this;exact absurd (TN.none_of this) B
  |some v=>exact Bc q
 have L:∃o,G.get? i= ↑o:=let⟨o,_,_,M,_⟩:=j.ns;(o,M);refine I.write (x:=a) (e:=i) (by rw[e];exact True.intro) (.inr m) (λb q N z=>(J.2 b N).trans z) L ?_;refine(by rw[ao O.ne];exact m,?_,O.ne,j.obj,_,j.ns,λg=>?_)
 ·have:=gg fs f y;lia
 ·rw[xC];by_cases q:g=f
  ·rw[NL q,NL q];exact p
  ·rw[NH q,NH q];exact r g
theorem Inv.made{X:Cx}{d:qa}{f:St}{H:Hp}{s:Shared}{C:Addr}(I:Inv X d f H s):Inv X d f (upd (upd H s.heap.objs.size (.own (s.heap.objs.size+1))) (s.heap.objs.size+1) (.ins C s.heap.objs.size []))
  {s with heap:=(s.heap.push W.emptyDict).push (W.instObj C s.heap.objs.size)}:=by
 have e1:(s.heap.push W.emptyDict).get? s.heap.objs.size= ↑W.emptyDict:=NG s.heap rfl
 have e2:((s.heap.push W.emptyDict).push (W.instObj C s.heap.objs.size)).get? (s.heap.objs.size+1)= ↑(W.instObj C s.heap.objs.size):=by
  have:=NG (s.heap.push W.emptyDict) (o:=W.instObj C s.heap.objs.size) rfl
  rwa [N8]at this
 have e3:(s.heap.push W.emptyDict).Ns s.heap.objs.size (λ_=>none):=(W.emptyDict,#[],_,e1,rfl,(λe g=>absurd g (by simp)),λ_=>rfl)
 have i:=I.laid (a:=s.heap.objs.size) (o:=.own (s.heap.objs.size+1)) (h':=s.heap.push W.emptyDict) (t':=s.toks) (λb u q=>Ar _ q) (Nu _) (_,e1);refine i.laid (a:=s.heap.objs.size+1) (o:=.ins C s.heap.objs.size []) (t':=s.toks) (λb u q=>Ar _ q) (Pr (N8 _ _)) ?_;have ne:s.heap.objs.size≠s.heap.objs.size+1:=N3 (Pu _);refine(by rw[ao ne,ak],Om _,ne,e2,λ_=>none,(Heap.Ns1.of_empty e3).at λo q=>Ar _ q,λ_=>True.intro)
theorem By(d:attributeBase e f env (eval e env)=eval e env)
  (h:wpAny (model prog w) A (eval e env) (λo a=>wpAny (model prog w) A (getAttr o f true) Q E a) E s):wpAny (model prog w) A (eval (.Attribute e f g) env) Q E s :=
 Attribute_any_ h (by rw[arm_eval_Attribute,d])
end
noncomputable def Lw(K:qs)(e:TE)(f:Str):TE:=λg H Q=>e g H λx d=>∃a C i fs v,x= ⇑a/\d a= ↑(.ins C i fs)/\Uz K C/\R0 K C f/\cw fs f= ↑v/\Q v d
noncomputable def fI(K:qs)(i j:TE)(f:Str):TS:=λD d H=>j d H λy k=>i d k λx e=>∃a C g fs,x= ⇑a/\e a= ↑(.ins C g fs)/\Uz K C/\R0 K C f/\fs.length<1000 /\
 D.nx d (upd e a (.ins C g (dZ fs f y)))
section
theorem F0(g:PE X e i)(j:attributeBase e f X.env (eval e X.env)=eval e X.env):PE X (.Attribute e f k) (Lw X.K i f):=by intro d s m H Q I h;refine By j (RA (g d s m H _ I h) λu B ⟨x,p,r,t,a,C,E,fs,v,ex,w,c,n,l,q⟩=>?_);subst ex;obtain rfl:u=Value.ref a:=t;exact tm r w c n l λG J y z=>(v,p,y,z,q)
theorem Ge{g:Pos}(k:PE X o m)(p:PE X d r)(hs:swapsWith d ↑(.Attribute o f i) g.line X.env=pure false):PS X (.Assign [.Attribute o f i] d g) (fI X.K m r f):=by intro e s j H D I h;refine plainObj_wpAny_Assign_Attribute (RA (p e s j H _ I h) λu t ⟨y,v,w,z,q⟩=>RA (k e t j v _ w q) λov M ⟨x,N,B,E,a,C,O,fs,ex,G,c,n,l,J⟩=>?_) hs;subst ex;obtain rfl:ov=Value.ref a:=E;exact uw B G c n l z λQ L=>(j,_,L,J)
end
structure RE(k:Nat)(A:Around):Prop where
 hd:A.handled=none
 dp:A.depth+3*k+5<recursionLimit
 un:A.units+16*k+200<cLine
theorem RE.mono(r:RE k A)(h:j<=k):RE j A:=(r.hd,by have:=r.dp;lia,by have:=r.un;lia)
theorem RE.deeper(r:RE (k+1) A)(env:Env):RE k (A.deeper env) :=
 (r.hd,by have:=r.dp;show A.depth+1+3*k+5<_;lia,by have:=r.un;show A.units+3+16*k+200<_;lia)
theorem RE.in1(r:RE (k+1) A):RE k A.in1 :=
 (r.hd,by have:=r.dp;show A.depth+3*k+5<_;lia,by have:=r.un;show A.units+1+16*k+200<_;lia)
theorem tP{A:Around}:(A.under (.builtin "type.__call__" (⇑C::a,kw))).depth=A.depth+1:=by
 first|rfl|simp[Around.under,Code.weight,Code.isCreation,Code.isGuard,Code.isCaller,Code.frames,Code.isFrame,guardIds]
theorem tQ{A:Around}:(A.under (.builtin "type.__call__" (⇑C::a,kw))).units=A.units+1:=by
 first|rfl|simp[Around.under,Code.cUnits,Code.frames,Code.isFrame]
theorem RE.make(r:RE (k+1) A)(C:Addr)(a:qw)(kw:List (Str×Value)):RE k (A.under (.builtin "type.__call__" (⇑C::a,kw))) :=
 (r.hd,by have:=r.dp;rw[tP];lia,by have:=r.un;rw[tQ];lia)
theorem RE.depth(r:RE k A):A.depth<recursionLimit:=by have:=r.dp;lia
noncomputable def rW:TA:=λ_ H Q=>Q [] H
noncomputable def gR(d:TE)(tr:TA):TA:=λa H Q=>d a H λx e=>tr a e λf g=>Q (x::f) g
section
variable{t:TA}
theorem aZ:PA X [] rW:=λ_ _ _ _ H Q I h=>Calls.spliced_nil ([],H,I,.nil,h)
theorem fF(i:PE X e j)(k:PA X f t)(hs:starEach (e::f) X.env=(false,eval e X.env)::starEach f X.env:=by rfl):PA X (e::f) (gR j t):=by intro d a s g H Q I h;rw[hs];show wpAny _ _ (spliced ((false,eval e X.env)::backTo d (starEach f X.env))) _ _ s;refine Q9 (RA (i a s g H _ I h) λu l ⟨x,m,p,q,r⟩=>?_);exact RA (k d a l g m _ p r) λE G ⟨v,w,y,z,B⟩=>(x::v,w,y,.cons q z,B)
noncomputable def LF(t:TA):TE:=λe H Q=>t e H λa d=>a.length<=sizeLine/\∀p,d p=none->Q ⇑p (upd d p (.tup a))
noncomputable def JK(t:TA):TE:=λe H Q=>t e H λa d=>a.length<=sizeLine/\∀p,d p=none->Q ⇑p (upd d p (.lst a))
theorem ud{j}(h:PA X k t):PE X (.Tuple k j f) (LF t):=by intro a s l H Q I m;refine wpAny_Tuple_spliced (RA (h f a s l H _ I m) λp d ⟨v,g,i,r,z,q⟩=>(by rw[<- r.length];exact z,?_));have w:g d.heap.objs.size=none:=i.hok.fresh (Nu _);refine(⇑d.heap.objs.size,upd g d.heap.objs.size (.tup v),i.laid (t':=d.toks) (λb u e=>Ar _ e) (Nu _) ?_,rfl,q _ w);exact(z,p,r,(_,NG _ rfl,rfl,_,rfl))
theorem jv(h:PA X j t):PE X (.List j f) (JK t):=by intro a s k H Q I l;refine wpAny_List_spliced (RA (h f a s k H _ I l) λm d ⟨p,g,i,r,z,q⟩=>(by rw[<- r.length];exact z,?_));have v:g d.heap.objs.size=none:=i.hok.fresh (Nu _);refine(⇑d.heap.objs.size,upd g d.heap.objs.size (.lst p),i.laid (t':=d.toks) (λb u e=>Ar _ e) (Nu _) ?_,rfl,q _ v);exact(z,m,0,r,NG _ rfl)
end
noncomputable abbrev Sp:=List V->Hp->VK->XK->Prop
noncomputable abbrev Ws:=List Env->Hp->Shared->XK->Value->Shared->Prop
structure Ua(P:Program)(w:World)(K:qs)(mg:za)(base:Heap)(A:Around)(outer:List Env)(s:Shared)(H:Hp):Prop where
 frames:A.frames= ↑outer
 mod:Mod K mg base
 bs:∀b o,base.get? b= ↑o->s.heap.get? b= ↑o/\H b=none
 VP:base.objs.size<=s.heap.objs.size
 S8:s.heap.FunFrames base outer
 Wg:∀b∈frs outer,H b=none
 hok:SK P w H s.heap
 bare:AllBare s.gens
noncomputable def CE(outer:List Env)(P:Program)(w:World)(H:Hp)(s:Shared)(Q:VK)(u:Value)(a:Shared):Prop :=
 ∃v d,a.os=s.os/\AllBare a.gens/\Un (frs outer) [] H d s.heap a.heap/\SK P w d a.heap/\RelV v u/\Q v d
noncomputable def CR(d:Ws)(outer:List Env)(P:Program)(w:World)(H:Hp)(s:Shared)(Q:VK)(E:XK)(r:Result)(a:Shared):Prop :=
 match r with
 | .ok (.ret u)=>CE outer P w H s Q u a
 | .ok _=>False
 | .error e=>d outer H s E e a
structure Rt(P:Program)(w:World)(K:qs)(mg:za)(base:Heap)(CX:Ws)(k:Nat)(f:Addr)(fd:FuncData)(ps:zl)(sp:Sp):Prop where
 len:∀vs H Q E,sp vs H Q E->vs.length=ps.length
 run:∀(A:Around)(outer:List Env)(s:Shared)(H:Hp)(args:Args)(us:qw)(vs:List V)(Q:VK)(E:XK),RE k A->Ua P w K mg base A outer s H->BindsTo s fd args (ps.zip us)->Vals vs us->sp vs H Q E ->
  codeAny (model P w) A (.call ⇑f args) (CR CX outer P w H s Q E) s
theorem Rt.imp{K:qs}(F:Rt P w K mg base e k f g i j)
  (h:∀a H Q E,d a H Q E->j a H Q E):Rt P w K mg base e k f g i d :=
 (λa H Q E q=>F.len a H Q E (h _ _ _ _ q),λA outer s H args l a Q E m p r t hs=>F.run A outer s H args l a Q E m p r t (h _ _ _ _ hs))
theorem Ua.make{K:qs}(e:Ua P w K mg base A outer s H)(C:Addr)(a:qw)(kw:List (Str×Value)) :
  Ua P w K mg base (A.under (.builtin "type.__call__" (⇑C::a,kw))) outer s H:=(by first|exact e.frames | (simpa[Around.under,Code.envs,Code.isFrame,pushEnvs]using e.frames),e.mod,e.bs,e.VP,e.S8,e.Wg,e.hok,e.bare)
theorem Ua.in1{K:qs}(e:Ua P w K mg base A outer s H) :
  Ua P w K mg base A.in1 outer s H:=(e.frames,e.mod,e.bs,e.VP,e.S8,e.Wg,e.hok,e.bare)
section
theorem Inv.V3{X:Cx}{a:qa}{d:St}{H:Hp}{s:Shared}(I:Inv X a d H s):Ua X.prog X.w X.K X.mg X.base X.A X.stack s H :=
 (I.ok.frames,I.ok.mod,I.bs,N4 I.ok.VP I.sz,I.stack,I.Ud,I.hok,I.bare)
theorem Inv.after{X:Cx}{a:qa}{k:St}{H:Hp}{s f:Shared}{Q:VK}{u:Value}(I:Inv X a k H s)(h:CE X.stack X.prog X.w H s Q u f):EP X a k Q u f:=by let(v,l,os,e,un,i,r,q):=h;let(m,g,d,t,j):=f;obtain rfl:j=s.os:=os;exact(v,l,I.call (h':=m) (g':=g) (d':=d) (t':=t) (ch:=[]) un i e (λb z=>absurd z (by simp)),r,q)
end
noncomputable def vS(a:Sp)(d:List V)(E:XK)(t:TA):TE:=λe H Q=>t e H λf g=>a (f++d) g Q E
noncomputable def D0(C:Addr)(m:Str)(f:Sp)(g:List V)(E:XK)(i:TE)(t:TA):TE:=λd H Q=>i d H λx e=>∃a j fs,x= ⇑a/\e a= ↑(.ins C j fs)/\cw fs m=none /\
 t d e λk l=>f (x::(k++g)) l Q E
noncomputable def Binds(K:qs)(f:FuncData)(d:zl)(e:qw):Prop :=
 ∀(s:Shared)(a:qw),K.In s.heap->(a++e).length=d.length->BindsTo s f (a,[]) (d.zip (a++e))
theorem Binds.all{K:qs}{d:zl}(h:∀a:List Value,a.length=d.length->bindArgs e (a,[])=pure (d.zip a)):Binds K e d []:=λs a _ hl=>by rw[N9]at hl ⊢;exact .of_eq (h a hl)
noncomputable def Passes(f:Ws)(X:Cx)(E:XK):Prop:=∀(a:qa)(g:St)(H:Hp)(s:Shared)(e:Value)(d:Shared),Inv X a g H s->f X.stack H s E e d->X.xe e d
section
variable{f C:Addr}
structure Mk(K:qs)(C f:Addr):Prop where
 makes:W.makesIn K C=true
 init:W.findIn K ⇑C "__init__"= ↑(some ⇑f)
 fn:W.isFn K ⇑f=true
 kp:W.keepIn K ⇑C=true
end
noncomputable def PK(X:Cx)(d:List Keyword)(t:TA):Prop :=
 ∀(e:Pos)(a:qa)(s:Shared)(f:St)(H:Hp)(Q:List V->Hp->Prop),Inv X a f H s->t f H Q->wpAny (model X.prog X.w) X.A (evalAll ((backToKw e (keywordEach d X.env)).map (·.2))) (AP X a f Q) X.xe s
section
variable{fd:FuncData}{ps ks:zl}{sp:Sp}{E:XK}{t tk:TA}
theorem Ga:PK X [] rW:=λ_ _ _ _ H Q I h=>wpAny_evalAll_nil ([],H,I,.nil,h)
theorem CM(j:PE X e k)(l:PK X f t):PK X ((nm,e,g)::f) (gR k t):=by intro d a s i H Q I h;show wpAny _ _ (evalAll ((do let v <- eval e X.env;standAt d;pure v)::(backToKw d (keywordEach f X.env)).map (·.2))) _ _ s;refine wpAny_evalAll_cons (xd (RA (j a s i H _ I h) λu m ⟨x,p,q,r,w⟩=>xd (Pj (Nv ?_))));exact RA (l d a m i p _ q w) λL M ⟨y,z,B,G,J⟩=>(x::y,z,B,.cons r G,J)
structure eK(K:qs)(fd:FuncData)(ps ks:zl)(g:List Value->List Value->List Value)(gV:List V->List V->List V):Prop where
 to:∀(s:Shared)(us ws:qw),K.In s.heap->(g us ws).length=ps.length->BindsTo s fd (us,ks.zip ws) (ps.zip (g us ws))
 rel:∀{vs:List V}{us:qw}{zs:List V}{ws:qw},Vals vs us->Vals zs ws->Vals (gV vs zs) (g us ws)
noncomputable def GZ(sp:Sp)(d:List V->List V->List V)(E:XK)(t tk:TA):TE:=λa H Q=>t a H λe f=>tk a f λg i=>sp (d e g) i Q E
end
structure RM(N P:zl)(sc:Scope):Prop where
 kind:sc.kind=.function
 co:sc.isCoroutine=false
 gen:sc.isGenerator=false
 nd:N.Nodup
 pre:N.take P.length=P
 par:∀x∈P,sc.names.lookup x=some .local\/sc.names.lookup x=some .cell
 X5:∀y∈sc.names,y.2≠.free
theorem RM.ZU{N P:zl}{i:Scope}(a:i.kind=.function:=by rfl)(b:i.isCoroutine=false:=by rfl)(c:i.isGenerator=false:=by rfl)(d:N.Nodup:=by decide +kernel)(e:N.take P.length=P:=by rfl)(f:∀x∈P,i.names.lookup x=some .local\/i.names.lookup x=some .cell:=by decide +kernel)(g:∀y∈i.names,y.2≠.free:=by decide +kernel):RM N P i:=(a,b,c,d,e,f,g)
variable{kindOf:Str->Option NameKind}
theorem mM:∀{binds:List (Str×Value)}{m:za},(∀v,(x,v)∉binds)->bindL kindOf binds m x=m x
 |[],_,_=>rfl
 | (n,v)::r,m,h=>by
  unfold bindL;rw[mM λw a=>h w (Oi _ a)];split
  ·have:x≠n:=by rintro rfl;exact h v OP
   simp[this]
  ·rfl
theorem mK:∀{binds:List (Str×Value)}{m:za},(∀v,(x,v)∉binds)->bindC kindOf binds m x=m x
 |[],_,_=>rfl
 | (n,v)::r,m,h=>by
  unfold bindC;rw[mK λw a=>h w (Oi _ a)];split
  ·rfl
  ·have:x≠n:=by rintro rfl;exact h v OP
   simp[this]
theorem mL:∀{P:zl}{a:qw}{i:Nat}{m:za},P.Nodup->P[i]?= ↑x->a[i]?= ↑v->kindOf x=some .local ->
  bindL kindOf (P.zip a) m x= ↑v
 |[],_,_,_,_,h,_,_=>by simp at h
 |_::_,[],_,_,_,_,h,_=>by simp at h
 |p::P,w::a,0,m,e,h1,d,hk=>by simp at h1 d;subst h1;subst d;show bindL kindOf (Prod.mk p w::P.zip a) m p=_;unfold bindL;rw[mM λv f=>(Oe.mp e).1 (QB f).1,NL hk];simp
 |p::P,w::a,i+1,m,e,h1,d,hk=>by show bindL kindOf (Prod.mk p w::P.zip a) m x=_;unfold bindL;exact mL (i:=i) (Oe.mp e).2 (by simpa using h1) (by simpa using d) hk
theorem mJ:∀{P:zl}{a:qw}{i:Nat}{m:za},P.Nodup->P[i]?= ↑x->a[i]?= ↑v->kindOf x≠some .local ->
  bindC kindOf (P.zip a) m x= ↑v
 |[],_,_,_,_,h,_,_=>by simp at h
 |_::_,[],_,_,_,_,h,_=>by simp at h
 |p::P,w::a,0,m,e,h1,d,hk=>by simp at h1 d;subst h1;subst d;show bindC kindOf (Prod.mk p w::P.zip a) m p=_;unfold bindC;rw[mK λv f=>(Oe.mp e).1 (QB f).1,NH hk];simp
 |p::P,w::a,i+1,m,e,h1,d,hk=>by show bindC kindOf (Prod.mk p w::P.zip a) m x=_;unfold bindC;exact mJ (i:=i) (Oe.mp e).2 (by simpa using h1) (by simpa using d) hk
noncomputable def start(N:zl)(a:List V):St:=a.map some++List.replicate (N.length - a.length) none
noncomputable def dQ(d:Ws)(P:Program)(w:World)(K:qs)(mg:za)(base:Heap)(N:zl)(qual:Str)(scope:Scope)(f:Addr)(cd:Value)(A:Around)(outer:List Env)(s:Shared)(H:Hp)(E:XK):Cx where
 prog:=P
 w:=w
 K:=K
 mg:=mg
 base:=base
 A:=A.deeper (envOfC qual scope s.heap.objs.size f cd)
 N:=N
 s₀:=s
 H₀:=H
 env:=envOfC qual scope s.heap.objs.size f cd
 outer:=outer
 stack:=envOfC qual scope s.heap.objs.size f cd::outer
 ex:=[]
 calm:=true
 fn:=λ_=>true
 pn:=[]
 xe:=λe g=>wpAny (model P w) (A.deeper (envOfC qual scope s.heap.objs.size f cd)) (leaving (envOfC qual scope s.heap.objs.size f cd) e) (λ_ a=>d outer H s E e a) (λi a=>d outer H s E i a) g
theorem qp{a:Scope}(h:a.names.lookup x=some .cell):∃c,(cellsFrom n a.names []).lookup x= ↑c:=by have q:=Qo a.names n [] (.inl h);exact Pq.mp q
theorem ng{K:qs}{A:Around}{j:List V}
  (S:RM N l scope) (L:A.handled=none) (g:Ua P w K mg base A outer s H) (hl:j.length=l.length) (r:Vals j I)
  (x:InCallC s s.heap.objs.size (bindL (envOfC qual scope s.heap.objs.size f cd).kindOf (l.zip I) λ_=>none) (cellsFrom (s.heap.objs.size+1) scope.names []) (bindC (envOfC qual scope s.heap.objs.size f cd).kindOf (l.zip I) λ_=>none) M) :
  Inv (dQ O P w K mg base N qual scope f cd A outer s H E) [] (start N j) H M:=by
 have Q:l.length<=N.length:=by have:=NZ List.length S.pre;rw[Qp]at this;lia
 let(h1,Y,rfl,hk):=x.done;have G:∀b:Addr,b∉(dQ O P w K mg base N qual scope f cd A outer s H E).ex:=λb z=>absurd (show b∈([]:zz) from z) (by simp)
 refine⟨(g.mod,S.kind,rfl,rfl,Nu _,λy z c h1 d=>?_,λy hy=>?_,λy c _ h=>?_,λ_=>L,Around.frames_deeper g.frames,.inr (rfl,rfl),λb z=>absurd z (G b),g.bs,g.VP,λb _ _=>G b,λb z=>absurd z (G b),g.S8,g.Wg),
  rfl,g.bare,Un.kept hk,(_,x.toInCall.ns,λi y v h1 d h3=>?_),λy c h=>(_,x.cell y c h),g.hok.fresh (Nu _),λy c h=>?_,λp m=>absurd (show p∈([]:qa) from m) (by simp),g.hok.kept hk,?_⟩
 ·exact name_of_addr x.apart (ON h1) (ON d)
 ·have hy:scope.names.lookup y=some .cell\/scope.names.lookup y=some .free:=hy;rcases hy with hy|hy
  ·exact qp hy
  ·exact absurd rfl (S.X5 _ (ON hy))
 ·exact O9 (x.above y c (ON h))
 ·have B:i<j.length:=by
   unfold start at d;by_cases B:i<j.length
   ·exact B
   ·rw[N5 (by simpa using B)]at d;rw[Qe]at d;split at d<;>cases d
  have T:j[i]?= ↑v:=by
   unfold start at d;rw[N7 (by simpa using B),NQ]at d
   cases e:j[i]? with
   |none=>rw[e]at d;cases d
   |some a=>rw[e]at d;cases d;rfl
  let(u,J,U):=r.get T
  have m:l[i]?= ↑y:=by rw[<- S.pre,List.getElem?_take_of_lt ⋯];exact h1
  have t:l.Nodup:=by rw[<- S.pre];exact S.nd.sublist (List.take_sublist _ _)
  refine(u,U,?_);rcases S.par y (Oq m)with k|k
  ·exact .inl (k,mL t m J k)
  ·let(c,e):=qp (n:=s.heap.objs.size+1) k;refine .inr (.inl k,c,e,?_);have q:=x.cell y c e;rw[mJ t m J (by show scope.names.lookup y≠_;rw[k];decide)]at q;exact q
 ·exact g.hok.fresh (O9 (x.above y c (ON h)))
 ·unfold start;show _=N.length;rw[NK,NC,List.length_replicate];lia
theorem yA{K:qs}(lk:K.lookup f= ↑(oc,od,.func (W.fnOf name qual d body scope dV kV doc pm an a ct),osl))(z:W.codeIn K a qual=true)(S:RM N B scope)
  (len:∀g H Q E,U g H Q E->g.length=B.length)
  (l:∀(A:Around)(outer:List Env)(s:Shared)(H:Hp)(g:List V)(Q:VK)(E:XK),RE k (A.deeper (envOfC qual scope s.heap.objs.size f a))->U g H Q E ->
   ∃t,Su (dQ G P w K mg base N qual scope f a A outer s H E) body t/\t {nx:=λ_ j=>Q .Ro j,rt:=Q} (start N g) H) :
  Rt P w K mg base G (k+1) f (W.fnOf name qual d body scope dV kV doc pm an a ct) B U:=by
 refine(len,λA outer s H args us g Q E L p hb r Y=>?_);have hl:=len _ _ _ _ Y;have KX:K.In s.heap:=p.mod.WJ.keeps λb o e=>(p.bs b o e).1;have M:s.heap.NoLimit:=p.mod.nolimit.keeps λb o e=>(p.bs b o e).1
 have m:∀y∈B.zip us,scope.names.lookup y.1=some .local\/(scope.names.lookup y.1=some .cell/\((cellsFrom (s.heap.objs.size+1) scope.names []).lookup y.1).isSome=true):=λ⟨n,v⟩ hy=>by
  rcases S.par n (QB hy).1 with q|q
  ·exact .inl q
  ·exact .inr (q,Qo _ _ _ (.inl q))
 refine codeAny_call_function L.depth (KX _ _ lk) rfl S.co S.gen rfl (W.codeRec_of KX z) (hb _ _ _ _ ?_);refine wpAny_newFunctionEnv_cells S.kind m λenv he s1 x=>?_;subst he;refine(M.keeps x.toInCall.keep,codeAny_func ?_);let(t,ht,hq):=l A outer s H g Q E (L.deeper _) Y;have I:Inv (dQ G P w K mg base N qual scope f a A outer s H E) [] (start N g) H s1:=ng S L.hd p hl r x;refine O3 (ht [] s1 (start N g) H _ I hq) (λfl O hs=>?_) λe O hs=>hs
 have fin:∀{i:St}{j:Hp}{v:V}{u:Value},Inv (dQ G P w K mg base N qual scope f a A outer s H E) [] i j O->RelV v u->Q v j->CE outer P w H s Q u O :=
  λ{i j v u} J T q=>(v,j,J.os,J.bare,J.base,J.hok,T,q)
 cases fl with
 |ret u =>let(v,i,j,J,T,q):=hs;exact fin J T q
 |next =>let(i,j,J,q):=hs;exact fin (v:=V.Ro) (u:=Value.none) J rfl q
 |brk =>let(_,_,_,q):=hs;exact False.elim q
 |cont =>let(_,_,_,q):=hs;exact False.elim q
section
variable{t:TA}{r:List V->Hp->VK->Prop}
noncomputable def ZV(r:List V->Hp->VK->Prop)(t:TA):TE:=λa H Q=>t a H λd e=>r d e Q
theorem b9{X:Cx}{id:String}(k:bE X (.builtin id) r)(l:Gl X x)(m:X.mg x=none)(q:bootBuiltins x= ↑(.builtin id))(u:PA X (e::f) t)(v:x≠"__name__":=by decide)(g:(x==("__debug__":Str))=false:=by decide)
  (w:starEach (e::f) X.env=(false,eval e X.env)::starEach f X.env:=by rfl) (i:(backTo d (starEach f X.env)).any (·.1)=false:=by rfl):PE X (.Call (.Name x p) (e::f) [] d) (ZV r t):=by
 intro a s j H Q I h;refine OQ (hV I l m q ?_ v g);exact PyProof.Rows.callWith_builtin1 (RA (u d a s j H _ I h) λy z ⟨B,E,G,J,L⟩=>k a z j E B y Q G J L) w i
theorem w8(k:bE X (.type T) r)(l:Gl X x)(m:X.mg x=none)(q:bootBuiltins x= ↑(.type T))(u:PA X (e::f) t)(v:x≠"__name__":=by decide)(g:(x==("__debug__":Str))=false:=by decide)
  (w:starEach (e::f) X.env=(false,eval e X.env)::starEach f X.env:=by rfl) (i:(backTo d (starEach f X.env)).any (·.1)=false:=by rfl):PE X (.Call (.Name x p) (e::f) [] d) (ZV r t):=by
 intro a s j H Q I h;refine OQ (hV I l m q ?_ v g);exact OX (RA (u d a s j H _ I h) λy z ⟨B,E,G,J,L⟩=>k a z j E B y Q G J L) w i
end
end L2
namespace HT
open PySem PyProof.Rows
section
open PySem.SeqAt
open PySem.AutoSeq1 (wpAny_loadPart')
open PySem.MeetsSeq PySem.MeetsSeq2 PySem.MeetsSeq3
end
section
noncomputable def Tt(n d:Nat):Option Nat->Nat
 |none=>d
 |some v=>min v n
noncomputable abbrev oI(o:Option Nat):Option Int:=o.map λk:Nat=>(k:Int)
theorem sC(lo a:Option Nat)(n:Nat):Builtin.Slice.sliceAdjust (oI lo) (oI a) 1 (n:Int)=(((Tt n 0 lo:Nat):Int),((Tt n n a:Nat):Int)):=by
 have h:∀k:Nat,¬ ((k:Int)<0):=λk=>by lia
 cases lo<;>cases a<;>simp[Builtin.Slice.sliceAdjust,Tt,oI,h]<;>lia
theorem ue(i j:Nat):Builtin.Slice.slicePlaces (i:Int) (j:Int) 1=j - i:=by unfold Builtin.Slice.slicePlaces;simp only[show(1:Int)>0 by decide,if_true,Int.ediv_one];split<;>lia
theorem UE(a:qw)(lo d:Option Nat):slicePick a.toArray (oI lo) (oI d) none=((a.drop (HT.Tt a.length 0 lo)).take (HT.Tt a.length a.length d - HT.Tt a.length 0 lo)).toArray:=by
 have h:∀k:Nat,¬ ((k:Int)<0):=λk=>by lia
 have b:sliceBounds (oI lo) (oI d) none a.toArray.size=(((Tt a.length 0 lo:Nat):Int),((Tt a.length a.length d:Nat):Int),1):=by cases lo<;>cases d<;>simp[sliceBounds,Tt,oI,h]<;>lia
 unfold slicePick;rw[b];simp only[sliceRange_one,pick_run]
theorem Ah(a:Array Value)(i k:Nat):((List.range k).filterMap λ(m:Nat)=>a[((i:Int)+(m:Int)*1).toNat]?)=(a.toList.drop i).take k:=by
 rw[<- pick_run,List.filterMap_map];congr 1
 funext m
 rw[show((i:Int)+(m:Int)*1).toNat=i+m by lia];rfl
theorem lW(p:IsPart v o)(h:Q o s):wpAny (model prog w) A (Builtin.Slice.slicePartIndex v) Q E s:=by
 cases p with
 |none=>exact slicePart_none h
 |int i t=>exact slicePart_int h
theorem jz{A:Around}{s:Shared}{lo:Option Nat}{Q:Int×Int×Nat->Shared->Prop}(hs:s.heap.IsSliceOf i f g .none)(j:IsPart f (oI lo))(k:IsPart g (oI e))
  (h:Q (((Tt n 0 lo:Nat):Int),1,Tt n n e - Tt n 0 lo) s):wpAny (model prog w) A (Builtin.Slice.sliceApplied ⇑i (pure (n:Int))) Q E s:=by
 let(os,a,l,d):=id hs;unfold Builtin.Slice.sliceApplied Builtin.Slice.sliceFields;refine xd (xd (O1 a d (x:=f) rfl (xd (O1 a d (x:=g) rfl (xd (O1 a d (x:=.none) rfl (Nv ?_)))))));refine xd (slicePart_none ?_);show wpAny _ _ (if ((1:Int)==0)=true then _ else _) _ _ s;rw[NH ⋯];refine xd (lW j (xd (lW k (xd (Nv ?_)))));show wpAny _ _ (match Builtin.Slice.sliceAdjust (oI lo) (oI e) 1 (n:Int)with | (lo,e)=>pure (Prod.mk lo (Prod.mk (1:Int) (Builtin.Slice.slicePlaces lo e 1)))) _ _ s;rw[sC lo e n];refine Nv ?_;rw[ue];exact h
theorem Vg{A:Around}{s:Shared}{lo:Option Nat}(d:IsTup s.heap t a)(hs:s.heap.IsSliceOf l p q .none)(r:IsPart p (oI lo))(u:IsPart q (oI e))
  (v:Tt a.size 0 lo=0/\Tt a.size a.size e=a.size->Q ⇑t s)
  (h:Q ⇑s.heap.objs.size {s with heap:=s.heap.push {cls:=.type "tuple",data:=.seq ((a.toList.drop (Tt a.size 0 lo)).take (Tt a.size a.size e - Tt a.size 0 lo)).toArray}})
  (y:a.size<=sizeLine):wpAny (model prog w) A (getItem ⇑t ⇑l) Q E s:=by
 have z:Tt a.size a.size e<=a.size:=by cases e;exact Nu _;exact Nat.min_le_right _ _
 have f:s.TypeIs ⇑l "slice":=let⟨os,g,k,_⟩:=hs;(os,g,k);unfold getItem
 try with_reducible refine Ox ?_
 first|refine xd (Nv ?_)|skip
 refine xd (wpAny_sequenceKey d.typeIs ⋯ ?_)
 refine xd (OD (name:=Str.ofString "__getitem__") d.typeIs Pz
  (OR Pz d.typeIs entry_tuple_getitem ?_ (args_tuple_getitem _ _)))
 show wpAny _ _ (Builtin.Tuple.tupleItemsOf ⇑t >>= _) _ _ s;refine xd (tupleItemsOf_ d (xd (wpAny_typeOf f ?_)));rw[NL ⋯];refine xd (jz hs r u ?_);generalize Tt a.size 0 lo=i at *;generalize Tt a.size a.size e=j at *;show wpAny _ _ (if ((i:Int)==0&&(1:Int)==1&&j - i==a.size)=true then _ else _) _ _ s;by_cases c:((i:Int)==0&&(1:Int)==1&&j - i==a.size)=true
 ·rw[NL c];unfold Builtin.Tuple.tupleIsExact;refine xd (xd (wpAny_typeOf d.typeIs (Nv ?_)));rw[NL ⋯];refine xd (Qz ?_);rw[Nt,Nt]at c;have B:=eq_of_beq c.1.1;have G:=eq_of_beq c.2;exact xd (Nv (Nv (_,rfl,Nv (v (⋯,⋯)))))
 ·rw[NH c,Ah];exact xd (m:=Builtin.Tuple.tupleExact _) (Qh (Nv (_,rfl,Nv h)) (by show _<=sizeLine;simp;lia))
theorem Xb{s:Shared}{a e:qw}(G:IsTup s.heap t a.toArray)(H:IsTup s.heap b e.toArray)(h0:a=[]->Q ⇑b s)
  (h1:a≠[]->e=[]->Q ⇑t s) (I:Q ⇑s.heap.objs.size {s with heap:=s.heap.push {cls:=.type "tuple",data:=.seq (a++e).toArray}})
  (p:a.length+e.length<=sizeLine):wpAny (model prog w) A (binaryOp .Add ⇑t ⇑b) Q E s:=by
 let((cls,q,data,r),l,y,n,z):=id G;let((B,f,data2,g),d,i,n2,j):=id H;simp only at y z i j;subst y z i j
 have u:∀{S:PySem.Spec},Meets (Builtin.«tuple.__add__» ([⇑t,⇑b],[])) S->S A (wants Q E) s->wpAny (model prog w) A (binaryOp .Add ⇑t ⇑b) Q E s:=λm h =>
  concat_meets (_,l,rfl) (_,d,rfl) noFill_tuple_add seq_tuple_add F.slot_tuple_add F.entry_tuple_add (F.args_tuple_add_2 _ _) m h
 by_cases k:a=[]
 ·exact u (tuple_addW0 t b a.toArray e.toArray n n2 q f r g (by simp[k])) (l,d,h0 k)
 by_cases v:e=[]
 ·exact u (tuple_addW1 t b a.toArray e.toArray n n2 q f r g (by simpa using k) (by simp[v])) (l,d,h1 k v)
 ·exact u (tuple_addW2 t b a.toArray e.toArray n n2 q f r g (by simpa using k) (by simpa using v) (by simpa using p)) (l,d,by simpa using I)
end
end HT
namespace L2
open PySem PySem.Spec PyProof.Rows
noncomputable abbrev TO:=St->Hp->(Option Nat->Hp->Prop)->Prop
noncomputable def PO(X:Cx)(e:Option Expr)(t:TO):Prop :=
 ∀(a:qa)(s:Shared)(d:St)(H:Hp)(Q:Option Nat->Hp->Prop),Inv X a d H s->t d H Q ->
  wpAny (model X.prog X.w) X.A (evalPart e X.env) (λu g=>∃o f,Inv X a d f g/\IsPart u (HT.oI o)/\Q o f) X.xe s
noncomputable def Ds:TO:=λ_ H Q=>Q none H
noncomputable def JN(t:TE):TO:=λa H Q=>t a H λx d=>∃i:Nat,x=.int i/\Q ↑i d
section
variable{X:Cx}{te:TE}{lo hi:Option Expr}{tl th:TO}
theorem CN:PO X none Ds:=by intro a s d H Q I h;rw[evalPart_none];exact Nv (none,H,I,.none,h)
theorem pD(h:PE X e te):PO X ↑e (JN te):=by intro a s d H Q I f;rw[evalPart_some];refine RA (h a s d H _ I f) λu m ⟨x,g,j,k,l⟩=>?_;let(i,rfl,q):=l;let(t,rfl):=k;exact(↑i,g,j,.int i t,q)
noncomputable def X6(X:Cx)(r:V->Option Nat->Option Nat->Hp->VK->Prop):Prop :=
 ∀(a:qa)(s:Shared)(d:St)(H:Hp)(x:V)(v e f:Value)(lo hi:Option Nat)(g:Addr)(Q:VK),Inv X a d H s->RelV x v->s.heap.IsSliceOf g e f .none->IsPart e (HT.oI lo)->IsPart f (HT.oI hi)->r x lo hi H Q ->
  ∃T id,typeLookup (.type T) "__getitem__"=pure ↑(.builtin id)/\s.TypeIs v T/\wpAny (model X.prog X.w) X.A (getItem v ⇑g) (EP X a d Q) X.xe s
theorem X6.or(h:X6 X r)(l:X6 X m):X6 X (λx lo hi H Q=>r x lo hi H Q\/m x lo hi H Q):=by
 intro a s d H x v e f lo hi g Q I i hs j k q;rcases q with q|q
 ·exact h a s d H x v e f lo hi g Q I i hs j k q
 ·exact l a s d H x v e f lo hi g Q I i hs j k q
noncomputable def tSl(r:V->Option Nat->Option Nat->Hp->VK->Prop)(te:TE)(tl th:TO):TE:=λa H Q=>te a H λx d=>tl a d λl e=>th a e λu f=>r x l u f Q
theorem rF(k:X6 X r)(m:PE X e te)(hl:PO X lo tl)(p:PO X hi th):PE X (.Subscript e (.Slice lo hi none t) y) (tSl r te tl th):=by intro a s f H Q I h;refine Subscript_ (RA (m a s f H _ I h) λv z ⟨x,B,E,G,J⟩=>?_);refine wpAny_Slice (RA (hl a z f B _ E J) λg L ⟨l,M,N,O,U⟩=>RA (p a L f M _ N U) λi d ⟨u,j,Y,pu,q3⟩=>?_);rw[evalPart_none];refine Nv ?_;have I4:Inv X a f j {d with heap:=d.heap.push {cls:=.type "slice",data:=.fields #[g,i,.none]}}:=Y.kept (t':=d.toks) λb ob q=>Ar _ q;let(T,id,hT,ht,hg):=k a {d with heap:=d.heap.push {cls:=.type "slice",data:=.fields #[g,i,.none]}} f j x v g i l u d.heap.objs.size Q I4 G (Heap.IsSliceOf.new ..) O pu q3;show wpAny (model X.prog X.w) X.A (subscriptTail e (.Slice lo hi none t) v ⇑d.heap.objs.size) (EP X a f Q) X.xe {d with heap:=d.heap.push {cls:=.type "slice",data:=.fields #[g,i,.none]}};exact tail_any (ops:=[⇑d.heap.objs.size,v]) ht hT hg (by with_unfolding_all rfl)
noncomputable def j0(a:List V)(lo hi:Option Nat):List V:=(a.drop (HT.Tt a.length 0 lo)).take (HT.Tt a.length a.length hi - HT.Tt a.length 0 lo)
theorem jG(a:List V)(lo hi:Option Nat):(j0 a lo hi).length<=a.length:=by unfold j0;rw[Qp,List.length_drop];lia
noncomputable def Lm(K:qs):V->Option Nat->Option Nat->Hp->VK->Prop:=λx lo hi H Q=>∃a d,x= ⇑a/\RW K H a d/\(HT.Tt d.length 0 lo=0/\HT.Tt d.length d.length hi=d.length->Q x H)/\∀p,H p=none->Q ⇑p (upd H p (.tup (j0 d lo hi)))
theorem AO:X6 X (Lm X.K):=by
 rintro g s u H x v w y lo hi B Q I k hs l m ⟨a,e,rfl,p,t,q⟩;cases k;let(f,r,i,j):=I.tuple p;have d:f.toArray.size=e.length:=by rw[ND];exact r.length.symm
 refine("tuple",_,Pz.lookup,i.typeIs,HT.Vg i hs l m (λz=>(⇑a,H,I,rfl,t (by rw[<- d];exact z))) ?_ (by rw[d];exact j));rw[d];exact(⇑s.heap.objs.size,_,I.laid (t':=s.toks) (o:=.tup (j0 e lo hi)) (λb ob q=>Ar _ q) (Nu _) (N4 (jG e lo hi) j,_,(r.drop _).take _,IsTup.new _ _),rfl,q _ (I.hok.fresh (Nu _)))
noncomputable def DV(K:qs):R2:=λx y H Q=>∃a b d e,x= ⇑a/\y= ⇑b/\RW K H a d/\RW K H b e/\d.length+e.length<=sizeLine/\(d=[]->Q y H)/\(e=[]->Q x H)/\∀p,H p=none->Q ⇑p (upd H p (.tup (d++e)))
theorem Vals.VR(r:Vals a d):d=[]↔a=[]:=by cases r<;>simp
theorem Cy:Sh X (binaryOp .Add) (DV X.K):=by rintro f s J H x y v u Q I j k ⟨a,b,l,m,rfl,rfl,p,r,g,q0,t,w⟩;cases j;cases k;let(B,d,E,_):=I.tuple p;let(i,e,G,_):=I.tuple r;refine HT.Xb E G (λz=>(⇑b,H,I,rfl,q0 (d.VR.mp z))) (λ_ z=>(⇑a,H,I,rfl,t (e.VR.mp z))) ?_ (by rw[<- d.length,<- e.length];exact g);exact(⇑s.heap.objs.size,_,I.laid (t':=s.toks) (o:=.tup (l++m)) (λb ob q=>Ar _ q) (Nu _) (by rw[NK];exact g,_,d.append e,IsTup.new _ _),rfl,w _ (I.hok.fresh (Nu _)))
end
noncomputable def Vz(n:Nat)(i:Int):Option Nat:=if 0<=i then (if i<n then ↑i.toNat else none)else if -(n:Int)<=i then ↑(i+n).toNat else none
noncomputable def V4{α:Type}(a:List α)(i:Int):Option α:=(Vz a.length i).bind λj=>a[j]?
theorem oJ(h:Vz n i= ↑j):seqIndex? i n= ↑j/\j<n/\-(n:Int)<=i/\i<n:=by
 unfold Vz at h;by_cases h0:0<=i
 ·rw[NL h0]at h;by_cases h1:i<n
  ·rw[NL h1]at h;have e:i.toNat=j:=Oa h;exact(by rw[seqIndex_of h0 h1,e],⋯,⋯,h1)
  ·rw[NH h1]at h;cases h
 ·rw[NH h0]at h;by_cases h1:-(n:Int)<=i
  ·rw[NL h1]at h;have e:(i+n).toNat=j:=Oa h;exact(by rw[seqIndex_neg ⋯ h1,e],⋯,h1,⋯)
  ·rw[NH h1]at h;cases h
theorem nI{α:Type}{a:List α}{v:α}(h:V4 a i= ↑v):∃j,seqIndex? i a.length= ↑j/\a[j]?= ↑v/\j<a.length/\-(a.length:Int)<=i/\i<a.length:=by
 unfold V4 at h
 cases e:Vz a.length i with
 |none=>rw[e]at h;cases h
 |some j =>rw[e]at h;let(h1,d,f,g):=oJ e;exact(j,h1,h,d,f,g)
theorem kb{α:Type}{a:List α}{j:Nat}{v:α}(h:a[j]?= ↑v):V4 a (j:Int)= ↑v:=by
 have d:j<a.length:=(LD.mp h).1
 have e:Vz a.length (j:Int)= ↑j:=by unfold Vz;rw[NL ⋯,NL ⋯];simp
 unfold V4;rw[e];exact h
noncomputable def ka(b:Expr):Prop:=∀o i,subscripted b false o i=operate [o,i] (getItem o i)
noncomputable def V5(X:Cx)(r:R2):Prop :=
 ∀(e a:Expr)(d:qa)(s:Shared)(f:St)(H:Hp)(x y:V)(v u:Value)(Q:VK),Inv X d f H s->RelV x v->RelV y u->r x y H Q ->
  subscripted a false v u=operate [v,u] (getItem v u)->wpAny (model X.prog X.w) X.A (subscriptTail e a v u) (EP X d f Q) X.xe s
noncomputable def Wt(X:Cx)(id:String)(r:V->List V->Hp->VK->Prop):Prop :=
 ∀(a:qa)(s:Shared)(d:St)(H:Hp)(x:V)(e:List V)(v:Value)(f:qw)(Q:VK),Inv X a d H s->RelV x v->Vals e f->r x e H Q ->
  wpAny (model X.prog X.w) X.A (call (.builtin id) (v::f)) (EP X a d Q) X.xe s
section
variable{a:Expr}
theorem V5.or(h:V5 X r)(k:V5 X l):V5 X (λx y H Q=>r x y H Q\/l x y H Q):=by
 intro d e f s g H x y v u Q I i j q hs;rcases q with q|q
 ·exact h d e f s g H x y v u Q I i j q hs
 ·exact k d e f s g H x y v u Q I i j q hs
theorem gP(e:V5 X r)(f:PE X a g)(i:PE X b j)(hs:ka b:=by exactλ_ _=>rfl):PE X (.Subscript a b k) (W7 r g j):=by intro d s l H Q I h;exact Subscript_ (Ei f i I h λv u m x y p t w z q=>e a b d m l p x y v u Q t w z q (hs _ _))
noncomputable def Jr(K:qs):R2:=λx y H Q=>∃p d i v,x= ⇑p/\y=.int i/\RP K H p d/\V4 d i= ↑v/\Q v H
noncomputable def Jt(K:qs):R2:=λx y H Q=>∃p d i v,x= ⇑p/\y=.int i/\RW K H p d/\V4 d i= ↑v/\Q v H
noncomputable def Js:R2:=λx y H Q=>∃z i c,x=.str z/\y=.int i/\z.length<=sizeLine/\V4 z.cps.toList i= ↑c/\Q (.str ⟨#[c]⟩) H
theorem R6:V5 X (Jr X.K):=by
 intro e f d s B H x y v u Q I G J h hs;let(p,U,i,z,rfl,rfl,L,M,q):=h;cases G;let(t,rfl):=J;let(g,r,k,Y):=I.list L;let(j,h1,N,h3,O,h5):=nI M;let(w,E,l):=r.get N;have hl:=r.length;have hn:=gh;have fin:EP X d B Q w s:=(z,H,I,l,q)
 by_cases h0:0<=i
 ·have m:i.toNat=j:=by
   rw[seqIndex_of h0 h5]at h1;exact Oa h1
  exact item_listR k.isList h0 ⋯ (by rw[m];simpa using E) fin hs
 ·have m:(i+(g.toArray.size:Int)).toNat=j:=by
   rw[seqIndex_neg ⋯ O]at h1;rw[ND,<- hl];exact Oa h1
  exact subscriptTail_builtinR (x:=w) k.isList.typeIs slot_list_getitem.lookup
   (wpAny_getItem_list_neg (Q:=λr T=>r=w/\EP X d B Q r T) k.isList ⋯ (by rw[ND]<;>lia) ⋯ (by rw[m];simpa using E) (rfl,fin)) hs
theorem X7:V5 X (Jt X.K):=by
 intro e f d s k H x y v u Q I m B h hs;let(p,O,i,z,rfl,rfl,E,G,q):=h;cases m;let(t,rfl):=B;let(J,r,l,T):=I.tuple E;let(j,h1,L,U,Y,h5):=nI G;let(w,M,g):=r.get L;have hl:=r.length;have hn:=gh;have fin:EP X d k Q w s:=(z,H,I,g,q)
 exact subscriptTail_builtinR (x:=w) l.typeIs slot_tuple_getitem.lookup
  (getItem_tuple (j:=j) (Q:=λr N=>r=w/\EP X d k Q r N) l ⋯ ⋯ (by rw[ND,<- hl];exact h1) (by simpa using M) (rfl,fin)) hs
theorem EZ:V5 X Js:=by
 intro d e f s r H x y v u Q I g k h hs;let(z,i,c,rfl,rfl,w,l,q):=h;let(t,rfl):=g;let(B,rfl):=k;let(j,h1,m,E,p,h5):=nI l;have hl:z.cps.toList.length=z.length:=by simp[Str.length]
 rw[hl]at h1 p h5;have G:=gh
 exact tail_any (typeIs_str s z t) slot_str_getitem.lookup (getItem_str (c:=c) (by
  have e1:decide (i < -(2 ^ 63:Int))=false:=OY ⋯;have e2:decide (i ≥ 2 ^ 63)=false:=OY ⋯;rw[e1,e2,Bool.or_false]) (by rw[h1];simpa using m) ⟨.str ⟨#[c]⟩,H,I.tok _,⟨_,rfl⟩,q⟩) hs
noncomputable def rIx(K:qs):R2:=λx y H Q=>Jr K x y H Q\/Jt K x y H Q\/Js x y H Q
theorem EY:V5 X (rIx X.K):=R6.or (X7.or EZ)
noncomputable def Ll(K:qs):V->Option Nat->Option Nat->Hp->VK->Prop:=λx lo e H Q=>∃a d,x= ⇑a/\RP K H a d/\∀p,H p=none->Q ⇑p (upd H p (.lst (j0 d lo e)))
theorem Dq:X6 X (Ll X.K):=by intro g s u H x v w y lo f z Q I j hs k l h;let(a,d,rfl,m,q):=h;cases j;let(p,r,i,t):=I.list m;have e:=r.length;refine("list",_,slot_list_getitem.lookup,i.isList.typeIs,?_);refine wpAny_getItem_list_slice i.isList hs k l .none (by simp) ?_ (by rw[ND]<;>lia);rw[HT.UE,<- e];refine(⇑s.heap.objs.size,_,I.laid (t':=s.toks) (o:=.lst (j0 d lo f)) (λb ob q=>Ar _ q) (Nu _) ?_,rfl,q _ (I.hok.fresh (Nu _)));exact(N4 (jG d lo f) t,_,0,(r.drop (HT.Tt d.length 0 lo)).take (HT.Tt d.length d.length f - HT.Tt d.length 0 lo),NG _ rfl)
theorem fj:bE X (.builtin "len") (λj H Q=>∃p e,j=[⇑p]/\(RP X.K H p e\/RW X.K H p e)/\Q (.int e.length) H):=by
 intro k s t H j v Q I r h;let(p,e,rfl,hq,q):=h;let(u,rfl,l):=bM r;cases l;have w:=gh;rcases hq with hq|hq
 ·let(f,g,i,m):=I.list hq;have d:=g.length;exact Calls.call_len_list i.isList (by simp only[ND]<;>lia) (.int e.length,H,I.tok _,(s.toks+1,by rw[ND,d]),q)
 ·let(f,g,i,m):=I.tuple hq;have d:=g.length;exact len_tuple i (by simp only[ND]<;>lia) (.int e.length,H,I.tok _,(s.toks+1,by rw[ND,d]),q)
theorem nP:bE X (.builtin "len") (λd H Q=>∃z,d=[.str z]/\z.length<=sizeLine/\Q (.int z.length) H):=by intro e s f H d g Q I r h;let(z,rfl,i,q):=h;let(u,rfl,t,rfl):=bM r;have j:=gh;exact len_str ⋯ (.int z.length,H,I.tok _,(_,rfl),q)
theorem nQ:bE X (.type "list") (λG H Q=>∃p g,G=[⇑p]/\(RP X.K H p g\/RW X.K H p g)/\∀l,H l=none->Q ⇑l (upd H l (.lst g))):=by
 intro k s L H G N Q I r h;let(p,g,rfl,hq,q):=h;let(u,rfl,M):=bM r;cases M
 have fin:∀(d:qw),Vals g d->g.length<=sizeLine->∀(f:Heap)(i:Nat),(∀b J,s.heap.get? b= ↑J->f.get? b= ↑J) ->
   f.get? s.heap.objs.size=some {cls:=.type "list",dict:=none,data:=.seq d.toArray i,slots:=#[]}->EP X k L Q ⇑s.heap.objs.size {s with heap:=f}:=λd j m f i t e =>
  (⇑s.heap.objs.size,_,I.laid (t':=s.toks) t (Nu _) (show RD X.prog X.w _ f _ (.lst g) from (m,d,i,j,e)),rfl,q _ (I.hok.fresh (Nu _)))
 rcases hq with hq|hq
 ·let(d,j,y,m):=I.list hq;have v:=j.length;let(o,z,B,n,E):=y.isList;exact call_list_seq p (.inl rfl) z B E (λf i t e=>fin d j m f i t e) (by simp only[ND]<;>lia)
 ·let(d,j,y,m):=I.tuple hq;have v:=j.length;let(o,z,B,n,E):=y;exact call_list_seq p (.inr rfl) z B E (λf i t e=>fin d j m f i t e) (by simp only[ND]<;>lia)
theorem mj:bE X (.type "tuple") (λt H Q=>∃p g,t=[⇑p]/\((RP X.K H p g/\∀l,H l=none->Q ⇑l (upd H l (.tup g)))\/(RW X.K H p g/\Q ⇑p H))):=by
 intro d s v H t L Q I r h;let(p,g,rfl,h):=h;let(u,rfl,E):=bM r;cases E;rcases h with⟨j,q⟩|⟨j,q⟩
 ·let(f,k,m,y):=I.list j;have z:=k.length;refine call_tuple_list m.isList (λi G=>?_) (by simp only[ND]<;>lia);have B:Inv X d v H {s with heap:=i}:=I.kept (t':=s.toks) G
  have J:Inv X d v (upd H i.objs.size (.tup g)) {s with heap:=i.push {cls:=.type "tuple",data:=.seq f.toArray}} :=
   B.laid (t':=s.toks) (λb o e=>Ar _ e) (Nu _) (show RD X.prog X.w _ _ _ (.tup g) from (y,f,k,IsTup.new _ _))
  exact(⇑i.objs.size,_,J,rfl,q _ (B.hok.fresh (Nu _)))
 ·let(f,k,m,y):=I.tuple j;exact call_tuple_same m (⇑p,H,I,rfl,q)
noncomputable def ZW(K:qs)(T:String)(x:V)(H:Hp):Prop:=match x with
 | .str _=>T="str"
 | .int _=>T="int"
 | .ref p=>(T="list"/\∃e,RP K H p e)\/(T="tuple"/\∃o,K.lookup p= ↑o/\o.cls=.type "tuple"/\o.dict=none) \/
   (T="dict"/\∃d,H p= ↑(.dK d))
 |_=>False
theorem A4{X:Cx}{d:qa}{j:St}{H:Hp}{s:Shared}{T:String}{x:V}{v:Value}(I:Inv X d j H s)(r:RelV x v)(ty:ZW X.K T x H) :
  s.TypeIs v T/\∀a,v= ⇑a->∃ob,s.heap.get? a= ↑ob/\ob.dict=none:=by
 cases x with
 |str z =>let(t,rfl):=r;cases (show T="str" from ty);exact(typeIs_str s z t,λ_ e=>nomatch e)
 |int i =>let(t,rfl):=r;cases (show T="int" from ty);exact(typeIs_int s i t,λ_ e=>nomatch e)
 |ref p =>
  cases r;rcases ty with⟨rfl,u,k⟩|⟨rfl,o,hk,l,f⟩|⟨rfl,m,hk⟩
  ·let(q,_,g,_):=I.list k;refine(g.isList.typeIs,λa e=>?_);cases e;let(o,n,e,c,f,_):=g;exact(o,e,f)
  ·refine((o,I.Se p o hk,l),λa e=>?_);cases e;exact(o,I.Se _ o hk,f)
  ·let(_,_,_,_,o,_,_,e,ex,_):=I.hok p _ hk;refine((o,e,ex.1),λa e2=>?_);cases e2;exact(o,e,ex.2.1)
 |_=>exact False.elim ty
noncomputable def Lv(K:qs)(T:String)(r:V->List V->Hp->VK->Prop)(to:TE):TE:=λe H Q=>to e H λx d=>ZW K T x d/\r x [] d Q
noncomputable def tBM(K:qs)(T:String)(r:V->List V->Hp->VK->Prop)(to:TE)(t:TA):TE:=λd H Q=>to d H λx e=>ZW K T x e/\t d e λf g=>r x f g Q
variable{id:String}
theorem FY{X:Cx}{d e:Pos}(p:PlainAttrs T)(slot:Slot T name id)(j:typeOf (.builtin id)=pure (.type "method_descriptor"))(q:Wt X id r)(t:PE X o to)
  (g:attributeBase o name X.env (eval o X.env)=eval o X.env:=by rfl) (i:(d.endLine==e.line)=true:=by rfl):PE X (.Call (.Attribute o name d) [] [] e) (Lv X.K T r to):=by
 intro f s k H Q I h;refine wpAny_Call_method0_late g i (RA (t f s k H _ I h) λv u ⟨x,w,l,m,ty,y⟩=>?_);let(h1,z):=A4 l m ty;exact(T,id,p,slot,j,h1,z,PX rfl (PySem.evalArgs_none (q f u k w x [] v [] Q l m .nil y)))
theorem nt{X:Cx}{i:Pos}(z:PlainAttrs T)(slot:Slot T name id)(p:typeOf (.builtin id)=pure (.type "method_descriptor"))(B:Wt X id r)(E:PE X o to)(G:PA X (e::j) t)
  (k:attributeBase o name X.env (eval o X.env)=eval o X.env:=by rfl)
  (m:((backTo d (starEach (e::j) X.env)).all (λx=>!x.1)&&(backToKw d (keywordEach [] X.env)).all (λx=>x.1.isSome)
   && decide ((e::j).length+([]:List Keyword).length+(if ([]:List Keyword).isEmpty then 0 else 1)<30))=true:=by rfl)
  (l:(i.endLine==d.line)=true:=by rfl) (hs:starEach (e::j) X.env=(false,eval e X.env)::starEach j X.env:=by rfl) (g:(backTo d (starEach j X.env)).any (·.1)=false:=by rfl) :
  PE X (.Call (.Attribute o name i) (e::j) [] d) (tBM X.K T r to t):=by
 intro f s q H Q I h;refine wpAny_Call_method_late k m l rfl (RA (E f s q H _ I h) λv J ⟨x,L,u,w,ty,M⟩=>?_);let(h1,N):=A4 u w ty;refine(T,id,z,slot,p,h1,N,?_);have y:=G d f J q L _ u M;rw[hs]at y ⊢;refine PX (by show(false||(backTo d (starEach j X.env)).any (·.1))=false;rw[g]<;>rfl) (QD ?_);exact RA y λO U ⟨Y,H2,I2,r2,q2⟩=>B f U q H2 x Y v O Q I2 w r2 q2
end
theorem Vals.dropLast(h:Vals a d):Vals a.dropLast d.dropLast:=by
 induction h with
 |nil=>exact .nil
 |cons r t e =>
  cases t with
  |nil=>exact .nil
  |cons q f=>exact .cons r e
theorem sY{α:Type}(l:List α):l.eraseIdx (l.length - 1)=l.dropLast:=by
 induction l with
 |nil=>rfl
 |cons a r d =>
  cases r with
  |nil=>rfl
  |cons b r =>
   have e:(a::b::r).length - 1=((b::r).length - 1)+1:=by have h1:(a::b::r).length=r.length+2:=rfl;have f:(b::r).length=r.length+1:=rfl;lia
   rw[e,List.eraseIdx_cons_succ,d]
   all_goals rfl
section
theorem Inv.Xc{X:Cx}{a:qa}{i:St}{H:Hp}{s:Shared}{l:Addr}{j g:List V}{d its':qw}{n:Nat}{f:Array Value->Array Value}{k:Nat}(I:Inv X a i H s)(m:H l= ↑(.lst j))
  (e:s.heap.get? l=some {cls:=.type "list",data:=.seq d.toArray n}) (p:f d.toArray=its'.toArray) (r:Vals g its') (t:g.length<=sizeLine) :
  Inv X a i (upd H l (.lst g)) {s with heap:=s.heap.update l (Obj.mapSeq f),toks:=k}:=by
 have q:=PySem.IsL.update e f;rw[p]at q;refine I.write (x:=l) (e:=l) (by rw[m];exact trivial) (.inl rfl) (λy u v w=>(Heap.get?_update_other s.heap (Obj.mapSeq f) (OB v)).trans w) (_,q) ?_;exact(t,its',_,r,q)
theorem Inv.lnew{X:Cx}{a:qa}{f:St}{H:Hp}{s:Shared}{e:List V}{d:qw}{t':Nat}(I:Inv X a f H s)(g:Vals e d)(i:e.length<=sizeLine) :
  Inv X a f (upd H s.heap.objs.size (.lst e)) {s with heap:=s.heap.push {cls:=.type "list",data:=.seq d.toArray},toks:=t'} :=
 I.laid (λ_ _ q=>Ar _ q) (Nu _) (i,d,0,g,NG _ rfl)
theorem Inv.fresh{X:Cx}{a:qa}{d:St}{H:Hp}{s:Shared}(I:Inv X a d H s):H s.heap.objs.size=none:=I.hok.fresh (Nu _)
theorem Inv.V6{X:Cx}{d:qa}{g:St}{H:Hp}{s:Shared}{l:Addr}{f:List V}(I:Inv X d g H s)(i:H l= ↑(.lst f)):f.length<=sizeLine/\∃(a:qw)(n:Nat),Vals f a/\f.length=a.length/\s.heap.get? l=some {cls:=.type "list",data:=.seq a.toArray n}:=by let(z,a,n,r,e):=I.hok l _ i;exact(z,a,n,r,r.length,e)
theorem zI(h:n<=sizeLine):Builtin.List.listTooLong n=false:=by unfold Builtin.List.listTooLong;exact OY ⋯
noncomputable def Jw:V->V->V->Hp->(Hp->Prop)->Prop:=λo i v H Q=>∃p a k j,o= ⇑p/\i=.int k/\H p= ↑(.lst a)/\Vz a.length k= ↑j/\Q (upd H p (.lst (a.set j v)))
theorem i7:Ea X Jw:=by
 intro a s w H o i v ov J u Q I ro y z h;let(p,B,k,j,rfl,rfl,f,E,q):=h;cases ro;let(t,rfl):=y;let(G,d,n,r,hl,e):=I.V6 f;let(h1,L,g,l):=oJ E;have M:=gh
 have m:Inv X a w (upd H p (.lst (B.set j v))) {s with heap:=s.heap.update p (Obj.mapSeq (·.setIfInBounds j u))} :=
  I.Xc (its':=d.set j u) f e (by simp) (r.set z j) (by rw[List.length_set];exact G)
 by_cases h0:0<=k
 ·have hk:k.toNat=j:=by
   rw[seqIndex_of h0 l]at h1;exact Oa h1
  exact W.ki_setAt e h0 ⋯ (by rw[ND,<- hl];exact l) (by rw[hk];exact(_,m,q))
 ·have hk:(k+(d.toArray.size:Int)).toNat=j:=by
   rw[seqIndex_neg ⋯ g]at h1;rw[ND,<- hl];exact Oa h1
  exact W.ki_setBack e ⋯ (by rw[ND,<- hl];exact g) ⋯ (by rw[hk];exact(_,m,q))
noncomputable def vG:V->List V->Hp->VK->Prop:=λx d H Q=>∃l a y,x= ⇑l/\d=[y]/\H l= ↑(.lst a)/\a.length<sizeLine/\Q .Ro (upd H l (.lst (a++[y])))
theorem nj:Wt X "list.append" vG:=by intro d s k H x m v p Q I g i h;let(l,t,y,rfl,rfl,f,w,q):=h;cases g;let(u,rfl,j):=bM i;let(z,a,n,r,hl,e):=I.V6 f;refine QJ F.slot_list_append (_,e,rfl) F.entry_list_append (F.args_list_append_2 _ _) (PySem.list_append l a.toArray n u (by rw[ND];lia)) (e,?_);refine(.Ro,_,I.Xc (its':=a++[u]) f e (by simp) (r.append (.cons j .nil)) ?_,rfl,q);rw[NK,List.length_singleton];lia
noncomputable def pH:V->List V->Hp->VK->Prop:=λx e H Q=>∃l b a d,x= ⇑l/\e=[⇑b]/\H l= ↑(.lst a)/\H b= ↑(.lst d)/\a.length+d.length<=sizeLine/\Q .Ro (upd H l (.lst (a++d)))
theorem gC:Wt X "list.extend" pH:=by
 intro g s B H x E v G Q I j k h;let(l,b,J,L,rfl,rfl,i,m,M,q):=h;cases j;let(u,rfl,p):=bM k;cases p;let(z,d,n,r,hl,e):=I.V6 i;let(N,a,n2,t,w,e2):=I.V6 m;have f:d.toArray.size+a.toArray.size<=sizeLine:=by rw[ND,ND];lia
 have y:¬ (!d.toArray.isEmpty&&Builtin.List.listTooLong (d.toArray.size+a.toArray.size))=true:=by rw[zI f,Bool.and_false];exact PF
 refine QJ PL (_,e,rfl) F.entry_list_extend (F.args_list_extend_2 _ _)
  (AutoSeq1.list_extend_list_list_0 l d.toArray n b a.toArray n2 y (by rw[ND];lia) ⋯) (e,e2,?_)
 refine(.Ro,_,I.Xc (its':=d++a) i e (by simp) (r.append t) ?_,rfl,q);rw[NK];lia
noncomputable def Jv:V->List V->Hp->VK->Prop:=λx d H Q=>∃l a y,x= ⇑l/\d=[]/\H l= ↑(.lst a)/\a[a.length - 1]?= ↑y/\Q y (upd H l (.lst a.dropLast))
theorem Fb:Wt X "list.pop" Jv:=by
 intro f s p H x t v w Q I i j h;let(l,B,y,rfl,rfl,g,hy,q):=h;cases i;cases j;let(z,a,n,r,hl,e):=I.V6 g;let(u,k,m):=r.get hy
 have d:a.toArray[a.toArray.size - 1]?= ↑u:=by show a.toArray[a.length - 1]?= ↑u;rw[<- Array.getElem?_toList,<- hl];exact k
 refine QJ F.slot_list_pop (_,e,rfl) F.entry_list_pop (F.args_list_pop_1 _) (MeetsSeq.list_pop_last l a.toArray n u d (by rw[ND];lia)) (e,?_);refine(y,_,I.Xc (its':=a.dropLast) g e ?_ r.dropLast ?_,m,q)
 ·show a.toArray.eraseIdxIfInBounds (a.toArray.size - 1)=a.dropLast.toArray;rw[ND,List.eraseIdxIfInBounds_toArray,sY]
 ·rw[List.length_dropLast];lia
theorem TN.V7(r:TN o u):o.isSome=u.isSome:=by
 cases o with
 |none=>cases u with
  |none=>rfl
  |some _=>exact(show False from r).elim
 |some _=>cases u with
  |none=>exact(show False from r).elim
  |some _=>rfl
theorem KV.val(r:KV a g)(k:Str):TN (cw a k) (valueAt g k):=by
 unfold KV at r
 induction r with
 |nil=>exact True.intro
 | @cons p q l d h t i =>
  let(h1,j):=h;by_cases e:p.1=k
  ·have f:q.1=k:=h1.symm.trans e;have b:valueAt (q::d) k= ↑q.2:=by simp[valueAt,O2,f]
   rw[Bf e,b];exact j
  ·have f:¬ q.1=k:=λz=>e (h1.trans z);have b:valueAt (q::d) k=valueAt d k:=by simp[valueAt,O2,f]
   rw[Be e,b];exact i
theorem KV.any(r:KV a e)(k:Str):(a.any λd=>decide (d.1=k))=e.any λd=>decide (d.1=k):=by
 unfold KV at r
 induction r with
 |nil=>rfl
 |cons h t f=>rw[Pk,Pk,f,h.1]
theorem KV.repl(r:KV d f)(k:Str)(g:RelV y u) :
  KV (d.map λa=>if a.1=k then (a.1,y)else a) (f.map λa=>if a.1=k then (a.1,u)else a):=by
 unfold KV at r ⊢
 induction r with
 |nil=>exact .nil
 | @cons p q l m h t i =>
  rw[NR,NR];refine .cons ?_ i;let(h1,j):=h;by_cases e:p.1=k
  ·rw[NL e,NL (h1.symm.trans e)];exact(h1,g)
  ·rw[NH e,NH (λz=>e (h1.trans z))];exact(h1,j)
theorem KV.put(r:KV a d)(k:Str)(f:RelV y u):KV (dZ a k y) (stored d k u):=by
 unfold dZ stored;rw[r.any k];by_cases e:(d.any λg=>decide (g.1=k))=true
 ·rw[NL e,NL e];exact r.repl k f
 ·rw[NH e,NH e];exact Paired.snoc r (rfl,f)
theorem KV.length(r:KV a d):a.length=d.length:=Rg r
end
theorem oK(x:Str)(t:Tok):Value.isStrOf x (.str x t)=true:=by simp[Value.isStrOf]
section
theorem mY(ok:SK P w H h)(e:Rd H a (.dK d)):d.length<=sizeLine/\(a==sysModules)=false/\∃f,KV d f/\h.DictOf (strKind P w) a f :=
 show RD P w H h a (.dK d) from e.ok ok
theorem DI(ok:SK P w H h)(e:H a= ↑(.dK d)):d.length<=sizeLine/\(a==sysModules)=false/\∃f,KV d f/\h.DictOf (strKind P w) a f:=mY ok (.inl e)
end
noncomputable def vU(H:Hp)(a:Addr)(y:V)(r:Option V):Prop:=∃d k,Rd H a (.dK d)/\y=.str k/\r=cw d k
noncomputable def Hm(H:Hp)(a:Addr)(y v:V)(e:Hp):Prop:=∃d k,H a= ↑(.dK d)/\y=.str k/\d.length<sizeLine/\e=upd H a (.dK (dZ d k v))
section
theorem Inv.big{X:Cx}{a:qa}{d:St}{H:Hp}{s:Shared}(I:Inv X a d H s):sysModules<s.heap.objs.size:=by have h:mainGlobals<s.heap.objs.size:=(I.mod.glob.keeps I.bk).lt;exact Nat.lt_trans ⋯ h
theorem wk{X:Cx}{d:qa}{m:St}{H:Hp}{s:Shared}{a:Addr}{y v:V}{u:Value}{A:Around}{E:ql}{Q:ql}(I:Inv X d m H s)(g:vU H a y ↑v)(q:RelV y u)(h:∀f p,Inv X d m H p->RelV v f->Q f p) :
  wpAny (model X.prog X.w) A (getItem ⇑a u) Q E s:=by
 let(r,k,e,rfl,l):=g;let(t,rfl):=q;let(z,L,B,i,G):=mY I.hok e;let(f,J,j):=TN.some_of (v:=v) (o:=valueAt B k) (by rw[l];exact i.val k);exact wpAny_getItem_of (knd:=strKind X.prog X.w) (oK k t) G.mapOf J (h f _ (I.tok _) j)
theorem BJ{X:Cx}{d:qa}{i:St}{H:Hp}{s:Shared}{a:Addr}{y:V}{u:Value}{o:Option V}{A:Around}{E:ql}{Q:ql}(I:Inv X d i H s)(g:vU H a y o)(m:RelV y u)(h:∀j,Inv X d i H j->Q (.bool (!o.isSome)) j) :
  wpAny (model X.prog X.w) A (compareOp .NotIn u ⇑a) Q E s:=by
 let(p,k,e,rfl,l):=g;let(t,rfl):=m;let(z,q,v,f,r):=mY I.hok e;refine wpAny_notIn_of (knd:=strKind X.prog X.w) (oK k t) q r.mapOf ?_;rw[<- (f.val k).V7,<- l];exact h _ (I.tok _)
theorem uO{X:Cx}{d:qa}{g:St}{H:Hp}{s:Shared}{a:Addr}{f:Heap}{i:Nat}{ob:HO}(I:Inv X d g H s)(j:YY (H a))(hs:Heap.SameBut a s.heap f)(k:∃q,f.get? a= ↑q)(new:RD X.prog X.w (upd H a ob) f a ob) :
  Inv X d g (upd H a ob) {s with heap:=f,toks:=i} :=
 I.write (x:=a) (e:=a) j (.inl rfl) (λb q l z=>(hs.2 b l).trans z) k new
theorem yp{f:Heap}{d:List (Str×V)}(z:d.length<=sizeLine)(i:(a==sysModules)=false)(e:KV d g)(j:f.DictOf (strKind P w) a g) :
  RD P w k f a (.dK d):=(z,i,g,e,j)
theorem wt{X:Cx}{d:qa}{j:St}{H:Hp}{s:Shared}{a:Addr}{y v:V}{u r:Value}{A:Around}{E:ql}{m:Hp}{Q:Unit->Shared->Prop}(I:Inv X d j H s)(g:Hm H a y v m)(G:RelV y u)(J:RelV v r)(h:∀p,Inv X d j m p->Q () p) :
  wpAny (model X.prog X.w) A (setItem ⇑a u r) Q E s:=by
 let(f,k,e,rfl,l,rfl):=g;let(t,rfl):=G;let(z,L,M,i,N):=DI I.hok e;have O:M.length<=sizeLine:=by rw[<- i.length];exact z
 have hl:(dZ f k v).length<=sizeLine:=by have:=gg f k v;lia
 refine wpAny_setItem_pairs (hsz:=O) (knd:=strKind X.prog X.w) (oK k t) N λT B hs=>h _ ?_;have U:∃q,T.get? a= ↑q:=let⟨q,_,_,Y,_⟩:=B;(q,Y);exact uO I (by rw[e];exact True.intro) hs U (yp hl L (i.put k J) B)
theorem HB{X:Cx}{d:qa}{i:St}{H:Hp}{s:Shared}{a:Addr}{f:List (Str×V)}{A:Around}{E:ql}{Q:ql}(I:Inv X d i H s)(e:Rd H a (.dK f))(h:∀t j,Inv X d i H j->Q (.int f.length t) j):wpAny (model X.prog X.w) A (call (.builtin "len") [⇑a]) Q E s:=by let(z,k,m,g,l):=mY I.hok e;refine call_len_dict k l (by rw[<- g.length];rw[Ol]at z;lia) ?_;rw[<- g.length];exact h _ _ (I.tok _)
end
theorem qD{X:Cx}{d:qa}{f:St}{H:Hp}{s:Shared}{a:Addr}{y:V}{o:Option V}(I:Inv X d f H s)(g:vU H a y o):s.TypeIs ⇑a "dict":=by let(i,k,e,_,_):=g;let(_,_,l,_,j):=mY I.hok e;exact j.typeIs
noncomputable def Jq:R2:=λx y H Q=>∃a v,x= ⇑a/\vU H a y ↑v/\Q v H
theorem B2:V5 X Jq:=by rintro d e f s l H x y v u Q I i j ⟨a,w,rfl,g,q⟩ hs;cases i;exact tail_any (qD I g) F.slot_dict_getitem.lookup (wk I g j λm p k r=>(w,H,k,r,q)) hs
theorem wY:Sh X (compareOp .NotIn) (λy x H Q=>∃a o,x= ⇑a/\vU H a y o/\Q (.bl (!o.isSome)) H):=by rintro d s j H y x v u Q I e f ⟨a,o,rfl,g,q⟩;cases f;exact BJ I g e λk i=>(.bl _,H,i,rfl,q)
noncomputable def JB(f ty g:TE):TS:=λD d H=>g d H λv i=>f d i λx j=>ty d j λy k=>∃a e,x= ⇑a/\Hm k a y v e/\D.nx d e
section
theorem CQ{f:Pos}(l:PE X o m)(p:PE X i ty)(q:PE X d t)(hs:swapsWith d ↑(.Subscript o i j) f.line X.env=pure false) :
  PS X (.Assign [.Subscript o i j] d f) (JB m ty t):=by
 intro e s k H D I h;refine wpAny_Assign_Subscript (RA (q e s k H _ I h) λr w ⟨v,z,B,E,G⟩=>RA (l e w k z _ B G) λu J ⟨x,L,M,N,O⟩=>RA (p e J k L _ M O) λiv s3 ⟨y,H3,Q,T,a,U,ex,g,Y⟩=>?_) hs;subst ex;obtain rfl:u=Value.ref a:=N;exact wt Q g T E λs4 I4=>(k,U,I4,Y)
end
theorem qE(h:Heap)(a:sysModules<h.objs.size):RD P w H (h.push {cls:=.type "dict",data:=.dict #[]}) h.objs.size (.dK []) :=
 (Om _,beq_eq_false_iff_ne.mpr (OB (N3 a)),[],.nil,Heap.DictOf.new h)
noncomputable def G0:TE:=λ_ H Q=>∀p,H p=none->Q ⇑p (upd H p (.dK []))
section
theorem Aa:PE X (.Dict [] [] e) G0:=λd s f H Q I h =>
 wpAny_Dict_empty (⇑s.heap.objs.size,_,I.laid (a:=s.heap.objs.size) (o:=.dK []) (t':=s.toks) (λ_ _ q=>Ar _ q) (Nu _) (qE s.heap I.big),rfl,h _ (I.hok.fresh (Nu _)))
end
noncomputable def pQ:List (TE×TE)->St->Hp->(List (V×V)->Hp->Prop)->Prop
 |[],_,H,Q=>Q [] H
 | (d,e)::r,a,H,Q=>d a H λx f=>e a f λy g=>pQ r a g λi j=>Q (Prod.mk x y::i) j
noncomputable abbrev VV:List (V×V)->List (Value×Value)->Prop:=Paired λp q=>RelV p.1 q.1/\RelV p.2 q.2
noncomputable def Za(X:Cx)(e:Pos)(keys:List (Option Expr))(a:zp)(j:List (TE×TE)):Prop :=
 ∀(d:qa)(s:Shared)(f:St)(H:Hp)(Q:List (V×V)->Hp->Prop),Inv X d f H s->pQ j f H Q ->
  wpAny (model X.prog X.w) X.A (evalPairs (pairTrees keys a X.env e)) (λk l=>∃g i,Inv X d f i l/\VV g k/\Q g i) X.xe s
theorem CO:Za X d [] [] []:=λa s e H Q I h=>pairTrees_nil_walk ([],H,I,.nil,h)
theorem Al(hk:PE X k g)(i:PE X v j)(l:Za X d ks m p) :
  Za X d (↑k::ks) (v::m) (Prod.mk g j::p):=λa s e H Q I h =>
 pairTrees_cons_walk (RA (hk a s e H _ I h) λu q ⟨x,r,t,w,z⟩=>RA (i a q e r _ t z) λU B ⟨y,E,G,J,L⟩ =>
  RA (l a B e E _ G L) λY s3 ⟨M,N,O,f,T⟩=>((x,y)::M,N,O,.cons (w,J) f,T))
noncomputable def gi(a more:List (Str×V)):List (Str×V):=more.foldl (λd e=>dZ d e.1 e.2) a
theorem KV.merge:∀{more:List (Str×V)}{rs:List (Str×Value)}{a:List (Str×V)}{d:List (Str×Value)},KV more rs->KV a d->KV (gi a more) (merged d rs):=by
 intro more rs a d r;unfold KV at r
 induction r generalizing a d with
 |nil=>intro q;exact q
 | @cons p q i j h t f =>
  intro g
  have e:KV (dZ a p.1 p.2) (stored d q.1 q.2):=by have:=g.put p.1 h.2;rw[<- h.1];exact this
  exact f e
theorem gO:∀(more a:List (Str×V)),(gi a more).length<=a.length+more.length
 |[],a=>by show a.length<=a.length+0;lia
 |p::r,a=>by have h1:=gO r (dZ a p.1 p.2);have d:=gg a p.1 p.2;show(gi (dZ a p.1 p.2) r).length<=_;rw[N6];lia
theorem kD:∀{d:List (Str×V)}{f:List (Value×Value)},VV (d.map λg=>(.str g.1,g.2)) f->∃rs,Carries (strKind P w) f rs/\KV d rs
 |[],_,r=>by rw[QK]at r;cases r;exact([],True.intro,.nil)
 |p::d,_,r=>by
  rw[NR]at r
  cases r with
  | @cons a b j bs h t =>let(rs,c,q):=kD (P:=P) (w:=w) t;let(b1,i):=b;let((t,e),h):=h;cases e;exact((p.1,i)::rs,(oK p.1 t,rfl,c),.cons (rfl,h) q)
noncomputable def JJ(f:List (TE×TE)):TE:=λg H Q=>∀p,H p=none->pQ f g (upd H p (.dK [])) λi d=>d p= ↑(.dK [])/\∃a:List (Str×V),i=a.map (λe=>(.str e.1,e.2))/\a.length<=15/\Q ⇑p (upd d p (.dK (gi [] a)))
theorem CD(h:Za X j keys d r)(f:keys.all (·.isSome)=true)(hl:keys.length=d.length)(h0:keys≠[])
  (k:keys.length<=15):PE X (.Dict keys d j) (JJ r):=by
 intro g s t H Q I q;have u:=I.hok.fresh (Nu s.heap.objs.size);have v:=I.laid (a:=s.heap.objs.size) (o:=.dK []) (h':=s.heap.push {cls:=.type "dict",data:=.dict #[]}) (t':=s.toks) (λ_ _ q=>Ar _ q) (Nu _) (qE s.heap I.big);refine wpAny_Dict_walk (knd:=strKind X.prog X.w) f hl h0 k (RA (h g _ t _ _ v (q _ u)) λU Y ⟨ps,H2,m,l,e,i,y,lk,B⟩=>?_);subst y;let(rs,c,rk):=kD (P:=X.prog) (w:=X.w) l;let(z,E,G,J,L):=DI m.hok e;cases J;refine(rs,c,L,λM p hs=>(⇑s.heap.objs.size,_,?_,rfl,B))
 have N:(gi [] i).length<=sizeLine:=by have h1:=gO i [];rw[List.length_nil]at h1;rw[Ol];lia
 have O:∃q,M.get? s.heap.objs.size= ↑q:=let⟨q,_,_,T,_⟩:=p;(q,T);exact uO m (by rw[e];exact True.intro) hs O (yp N E (rk.merge .nil) p)
structure M2(X:Cx)(o:Expr)(m:Str)(apos:Pos)(e f:Expr)(cpos:Pos):Prop where
 base:attributeBase o m X.env (eval o X.env)=eval o X.env
 few:((backTo cpos (starEach [e,f] X.env)).all (λx=>!x.1)&&(backToKw cpos (keywordEach [] X.env)).all (λx=>x.1.isSome)
  && decide (([e,f]:zp).length+([]:List Keyword).length+(if ([]:List Keyword).isEmpty then 0 else 1)<30))=true
 line:(apos.endLine==cpos.line)=true
 trees:backTo cpos (starEach [e,f] X.env)=[(false,eval e X.env),(false,eval f X.env)]
section
end
end L2
namespace Att
open PySem PySem.W PySem.Calls PyProof.Rows
theorem j3:∀(d:zb)(e:qw),WellAll P h e (d.map WData.int)->IntsAre e d:=by
 intro d
 induction d with
 |nil =>intro e w;rw[QK]at w;cases w;exact .nil
 |cons n d f =>
  intro e w;rw[NR]at w
  cases w with
  |cons a b =>cases a;exact .cons _ _ (f _ b)
theorem xk{l:OpenLaw}(v:l.most= ↑n)
  (f:l.row.toRowW.claim.pre args=true) (m:WellAll P h g args) :
  ∃a t e,g=[Value.ref a]/\args=[WData.list (e.map WData.int)]/\h.get? a=some {cls:=.type "list",data:=.seq t.toArray}/\IntsAre t e/\e.length<=n:=by
 have p:WShape.hasAll [] args [.list .int]=true:=(pre_splitW f).1;have u:l.pre.holds [] {args:=args}=true:=(pre_splitW f).2;let(d,r,rfl,h1,w):=hasAllW_cons p;obtain rfl:=hasAllW_nil w;let(H,rfl,y):=hasW_list h1;let(e,rfl):=items_int y
 have i:e.length<=n:=by
  unfold OpenLaw.pre at u
  have k:(WTm.not (.lt (.lit (.int (n:Int))) (.len (.arg 0)))).holds [] {args:=[.list (e.map .int)]}=true:=by have k:=(holds_andW u).1;rw[v]at k;exact k
  have h5:=condW_of k (w_not (w_lt w_lit (w_len_list (w_arg rfl))));rw[NC]at h5;refine Nat.le_of_not_lt λq=>?_;have z:(n:Int)<((e.length:Nat):Int):=by lia
  first
   | (rw[Oz z]at h5;exact absurd h5 ⋯)
   | (simp at h5;lia)
 cases m with
 |cons B E =>
  cases E
  cases B with
  |list G j=>exact(_,_,e,rfl,rfl,G,j3 e _ j,i)
theorem xg(l:OpenLaw)(args:List WData):l.row.toRowW.claim.post args (.bool true) args=true :=
 postW_of (r:=l.row.toRowW) (X:=(true==true))
  (show WShape.has [] (.bool true) .bool=true by first|rfl|decide|simp[WShape.has,WShape.arms,WShape.armsAll])
  (show(WTm.eq .res (.lit (.bool true))).value [] {args:=args,res:= ↑(.bool true),after:=args}= ↑(.bool (true==true)) from w_eq_bool (w_res rfl) w_lit) rfl
theorem Vh{l:OpenLaw}{d:DefRec}
  (M:l.most= ↑n) (v:d.params.defaults=[])
  (call:∀(w:World)(s₀ e:Shared)(mg y:za)(j:Addr)(o:Obj)(z cd doc:Value)(a:Addr)(i:qw)(t:zb),
   Ground q loose [] N w s₀ mg y e.heap->O w e.heap ->
   e.heap.get? j= ↑o->o.data=.func (docDef d.name d.params d.body d.scope z cd doc)->e.heap.CodeRec cd d.name->mg d.name= ↑⇑j ->
   e.heap.get? a=some {cls:=.type "list",data:=.seq i.toArray}->IntsAre i t->t.length<=n->e.gens=#[] ->
   codeAny (model l.prog w) callerA (.call ⇑j ([⇑a],[])) (λr u=>r=.ok (.ret (.bool true))/\OldK e.heap u.heap/\u.os=e.os/\AllBare u.gens) e) :
  WalkO q loose N O l.row.toRowW d [] (λf i=>PySem.call f i):=by
 intro w s₀ e mg y G Y j o z cd doc Q T U hd B I E hg args J as k L hrd H hlo;obtain rfl:Q=.none:=Dflts.none I v;obtain rfl:T=.none:=Dflts.noKw I;let(a,i,t,rfl,rfl,m,g,p):=xk M k H;refine enter_call (OJ (call w s₀ e mg y j o z cd doc a i t G Y U (fd_plain hd) B E m g p hg) λr u hq=>?_);let(rfl,h2,h3,h4):=hq;exact(.inl (.bool true,.bool true,[],rfl,λ_=>rfl,.bool true,xg l _,λ_=>(List.Pairwise.nil,λ_ hm=>(nomatch hm))),h2,h3,h4)
section
end
end Att
namespace L2
open PySem PySem.Spec PyProof.Rows
theorem nF:∀{a:qw}{d:zb},IntsAre a d->Vals (d.map V.int) a
 |_,_,.nil=>.nil
 |_,_,.cons n t h=>.cons (t,rfl) (nF h)
noncomputable def Bq(H:Hp):Prop:=∀b,H b=none\/∃o a,H b= ↑(.Th o (.lst a))
theorem y0{K:qs}{f:Shared}{l:qw}
  (KX:K.In f.heap) (t:f.heap.Ns mainGlobals mg) (g:f.heap.Ns builtinsNs mb) (T:∀x:Str,x≠"__name__"->mb x=bootBuiltins x) (y:f.heap.NoLimit) (hg:f.gens=#[])
  (N:f.heap.get? a=some {cls:=.type "list",data:=.seq l.toArray}) (hi:IntsAre l O) (hl:O.length<=sizeLine) (hr:RE k callerA)
  (F:∀base:Heap,K.In base->base.Ns mainGlobals mg->Rt P w K mg base CX k fa fd [x] sp) (p:∀(s:Shared)(u:Value),BindsTo s fd ([u],[]) [(x,u)])
  (Vy:∀H:Hp,Bq H->RP K H a (O.map V.int)->sp [⇑a] H (λv _=>v=.bl true) λ_ _ _=>False)
  (U:∀H e i,CX [] H f (λ_ _ _=>False) e i->False) :
  codeAny (model P w) callerA (.call ⇑fa ([⇑a],[])) (λr i=>r=.ok (.ret (.bool true))/\OldK f.heap i.heap/\i.os=f.os/\AllBare i.gens) f:=by
 have rv:=nF hi;have B:=hi.length
 have j:∀H:Hp,Bq H->RP K H a (O.map V.int)->SK P w H f.heap->(∀b,H b≠none->b=a)->(H a≠none->K.lookup a=none) ->
   codeAny (model P w) callerA (.call ⇑fa ([⇑a],[])) (λr i=>r=.ok (.ret (.bool true))/\OldK f.heap i.heap/\i.os=f.os/\AllBare i.gens) f:=by
  intro H hO hS E hA hK;have VS:∀{b:Addr}{o:Obj},f.heap.get? b= ↑o->H b=none->(oE f.heap H).get? b= ↑o:=λe n=>yM e n
  have Y7:∀{b:Addr}{o:Obj}{G:Array DictEntry}{I:Nat},f.heap.get? b= ↑o->o.data=.dict G I->H b=none:=λ{b o G I} e d=>by
   cases q:H b with
   |none=>rfl
   |some u =>have Y:b=a:=hA b (by rw[q];simp);subst Y;rw[N]at e;cases e;have d':Data.seq l.toArray _=Data.dict G I:=d;cases d'
  have Q:∀{b:Addr}{m:za},f.heap.Ns b m->(oE f.heap H).Ns b m:=λ{b m} ⟨o,G,I,e,d,r⟩=>(o,G,I,VS e (Y7 e d),d,r)
  have J:K.In (oE f.heap H):=λb o e=>VS (KX b o e) (by
   cases q:H b with
   |none=>rfl
   |some u =>have Y:b=a:=hA b (by rw[q];simp);subst Y;rw[hK (by rw[q];simp)]at e;cases e)
  have hM:Mod K mg (oE f.heap H):=(J,Q t,(mb,Q g,T),let⟨mc,h1,h2⟩:=y;(mc,Q h1,h2))
  have e0:Ua P w K mg (oE f.heap H) callerA [] f H:=(rfl,hM,λb o e=>Cm e,Pr (wH _ _),trivial,λb g=>absurd (show b∈([]:zz) from g) (by simp),E,.of_eq hg)
  refine OJ ((F _ J (Q t)).run callerA [] f H ([⇑a],[]) [⇑a] [⇑a] _ _ hr e0 (p f ⇑a) (.cons rfl .nil) (Vy H hO hS)) λr i h=>?_
  cases r with
  |error e=>exact(U H e i h).elim
  |ok fl =>
   cases fl with
   |next=>exact False.elim h
   |brk=>exact False.elim h
   |cont=>exact False.elim h
   |ret u =>
    let(v,H',os,L,un,Xd,r',q):=h;have q':v=.bl true:=q;subst q';obtain rfl:u=Value.bool true:=r';refine(rfl,OldK.of_keep λb o e=>?_,os,L)
    cases q:H b with
    |none=>exact un.keep b o e q (by intro z;exact absurd (show b∈([]:zz) from z) (by simp)) (by simp)
    |some u =>
     rcases hO b with z|⟨ob,xs,z⟩
     ·rw[q]at z;cases z
     ·have z2:=un.T9 b ob _ z;let(e1,_):=E b _ z;let(e2,_):=Xd b _ z2;rw[e]at e1;cases e1;exact e2
 cases hk:K.lookup a with
 |some o =>have e:=KX a o hk;rw[N]at e;cases e;refine j (λ_=>none) (λ_=>.inl rfl) (.inr (_,l.toArray,_,hk,rfl,rfl,rfl,by rw[ND,B];exact hl,by simpa using rv)) (λb u z=>by have M:(none:Option HO)= ↑u:=z;cases M) (λb z=>absurd rfl z) λz=>absurd rfl z
 |none =>
  refine j (λb=>if b=a then ↑(.Th {cls:=.type "list",data:=.seq l.toArray} (.lst (O.map V.int)))else none) (λb=>?_) (.inl (.inr ({cls:=.type "list",data:=.seq l.toArray},NL rfl))) (λb u z=>?_) (λb z=>?_) λ_=>hk
  ·by_cases g:b=a
   ·exact .inr (_,_,NL g)
   ·exact .inl (NH g)
  ·by_cases g:b=a
   ·have M:=(NL g).symm.trans z;cases M;subst g;exact(N,by rw[NC];exact hl,l,_,rv,N)
   ·have M:=(NH g).symm.trans z;cases M
  ·by_cases g:b=a
   ·exact g
   ·exact absurd (NH g) z
theorem Xe{l:W.OpenLaw}{loose:zl}{L:World->Heap->Prop}{d:DefRec}{K:Params->W.Frag}{CX:World->Ws}{sp:World->Sp}
  (O:l.most= ↑n) (y:n<=sizeLine) (z:d.params.defaults=[]) (Q:RE k callerA)
  (U:∀(w:World)(h:Heap),L w h->(K w.params).In h)
  (F:∀(w:World)(mg:za)(r:Addr)(h:Heap),(K w.params).In h->h.Ns mainGlobals mg->mg d.name= ↑⇑r ->
   ∃B:FuncData,(∀(s:Shared)(u:Value),BindsTo s B ([u],[]) [(x,u)]) /\
    ∀base:Heap,(K w.params).In base->base.Ns mainGlobals mg->Rt l.prog w (K w.params) mg base (CX w) k r B [x] (sp w))
  (Vy:∀(w:World)(H:Hp)(a:Addr)(t:zb),t.length<=n->Bq H->RP (K w.params) H a (t.map V.int)->sp w [⇑a] H (λv _=>v=.bl true) λ_ _ _=>False)
  (E:∀(w:World)(H:Hp)(s:Shared)(e:Value)(I:Shared),CX w [] H s (λ_ _ _=>False) e I->False) :
  W.WalkO q loose XP L l.row.toRowW d [] (λf M=>PySem.call f M):=by
 refine Att.Vh O z λw s₀ m mg mb r o pm cd doc a M t G Y ho hd hcd J p j i hg=>?_;have N:=U w _ Y;let(B,hb,hF):=F w mg r _ N G.T.g J;exact y0 N G.T.g G.T.b G.T.builtins G.T.nolimit hg p j (N4 i y) Q hF hb (λH hO hS=>Vy w H a t i hO hS) λH e I=>E w H m e I
noncomputable def bD(s:Stmt):Arguments:=match s with
 | .FunctionDef _ a _ _ _ _ _ _ _ _=>a
 |_=>{posonlyargs:=[],args:=[],vararg:=none,kwonlyargs:=[],kw_defaults:=[],kwarg:=none,defaults:=[]}
noncomputable def bh(s:Stmt):List Stmt:=match s with
 | .FunctionDef _ _ b _ _ _ _ _ _ _=>b
 |_=>[]
noncomputable def ag(s:Stmt):Scope:=match s with
 | .FunctionDef _ _ _ _ _ _ a _ _ _=>a
 |_=>{kind:=.function,names:=[],isGenerator:=false,isCoroutine:=false}
noncomputable abbrev Xf:Ws:=λ_ _ _ _ _ _=>False
structure Va(K:qs)(x qual:Str)(st:Stmt)(f:Addr)(fd:FuncData):Prop where
 ex:∃(oc:Value)(od:Option Addr)(kV doc pm:Value)(an:Option Addr)(cdv ct:Value)(osl:Array (Option Value)),
  fd=W.fnOf x qual (bD st) (bh st) (ag st) .none kV doc pm an cdv ct/\K.lookup f= ↑(oc,od,.func fd,osl)/\W.codeIn K cdv qual=true
 kp:W.keepIn K ⇑f=true
section
theorem Va.ok{P:Program}{K:qs}{st:Stmt}(F:Va K x qual st f l)(S:RM N i (ag st))(len:∀d H Q E,j d H Q E->d.length=i.length)
  (e:∀(a:Value)(A:Around)(outer:List Env)(s:Shared)(H:Hp)(d:List V)(Q:VK)(E:XK),RE k (A.deeper (envOfC qual (ag st) s.heap.objs.size f a))->j d H Q E ->
   ∃t,Su (dQ Xf P w K mg base N qual (ag st) f a A outer s H E).UU (bh st) t/\t {nx:=λ_ m=>Q .Ro m,rt:=Q} (start N d) H):Rt P w K mg base Xf (k+1) f l i j:=by
 let(oc,v,y,doc,z,B,a,ct,p,rfl,lk,g):=F.ex;refine yA lk g S len λA outer s H d Q E r u=>?_;let(t,h,q):=e a A outer s H d Q E r u;exact(t,h.UU,q)
theorem Va.binds{K:qs}{st:Stmt}{d:zl}(F:Va K x qual st f k)
  (h:∀(e doc g:Value)(i:Option Addr)(a ct:Value)(j:qw),j.length=d.length->bindArgs (W.fnOf x qual (bD st) (bh st) (ag st) .none e doc g i a ct) (j,[])=pure (d.zip j)):Binds K k d []:=by
 let(oc,p,e,doc,g,i,a,ct,l,rfl,lk,m):=F.ex;exact .all (h e doc g i a ct)
theorem Ug{K:qs}{st:Stmt}{doc:Value}(l:K.lookup f= ↑(oc,j,.func (W.fnOf x qual (bD st) (bh st) (ag st) .none e doc g i a ct),d))
  (c:W.codeIn K a qual=true) (k:W.keepIn K ⇑f=true):Va K x qual st f (W.fnOf x qual (bD st) (bh st) (ag st) .none e doc g i a ct):=((oc,j,e,doc,g,i,a,ct,d,rfl,l,c),k)
end
theorem xm(h:n<=1000):n<sizeLine:=Nat.lt_of_le_of_lt h ⋯
section
theorem pv{X:Cx}(i:Nat)(d:X.N[i]?= ↑x:=by rfl)(e:W6 X.env.scope x:=by first|exact Or.inl rfl|exact Or.inr (Or.inl rfl)|exact Or.inr (Or.inr rfl))(f:(x==("__debug__":Str))=false:=by decide)
  (a:(x==("__classdict__":Str))=false:=by decide):PE X (.Name x g) (rX i):=Ad d e f a
theorem v7:bE X (.builtin "len") (λe H Q=>∃a d,e=[V.ref a]/\H a= ↑(.dK d)/\Q (.int d.length) H):=by intro f s k H e l Q I r h;let(a,d,rfl,g,q):=h;let(u,rfl,i):=bM r;cases i;exact HB I (.inl g) λt m j=>(.int d.length,H,j,(t,rfl),q)
end
theorem oH{A:Prop}[Decidable c](h1:c->A)(a:¬ c->B):if c then A else B:=by
 by_cases h:c
 ·rw[NL h];exact h1 h
 ·rw[NH h];exact a h
noncomputable def Sk(H a:Hp):Prop:=∀b o,H b= ↑o->a b= ↑o
theorem Sk.refl(H:Hp):Sk H H:=λ_ _ h=>h
theorem Sk.trans(a:Sk H d)(b:Sk d e):Sk H e:=λc o h=>b c o (a c o h)
theorem Sk.free(e:Sk H a)(h:a l=Option.none):H l=Option.none:=by
 cases q:H l with
 |none=>rfl
 |some o =>rw[e l o q]at h;cases h
noncomputable def rk(env:Env)(x:Str)(k:NameKind):NameKind :=
 if (k==NameKind.free&&env.scope.kind==.function&&env.kindOf x==some .cell)=true then .cell else k
theorem pI(d:Scope)(env:Env)(x:Str):(relabel d env).names.lookup x=(d.names.lookup x).map (rk env x):=by
 have all:∀l:List (Str×NameKind),(l.map λ(n,k)=>if (k==NameKind.free&&env.scope.kind==.function&&env.kindOf n==some .cell)then (n,NameKind.cell)else (n,k)).lookup x=(l.lookup x).map (rk env x):=by
  intro l
  induction l with
  |nil=>rfl
  |cons p r f =>
   let(n,k):=p;rw[NR]
   cases a:x==n with
   |true =>
    have e:x=n:=by simpa using a
    subst e;by_cases c:(k==NameKind.free&&env.scope.kind==.function&&env.kindOf x==some .cell)=true
    ·simp[Ot,rk,c]
    ·simp[Ot,rk,c]
   |false =>
    have e1:(Prod.mk n k::r).lookup x=r.lookup x:=by rw[Ot,a]
    rw[e1,<- f];by_cases c:(k==NameKind.free&&env.scope.kind==.function&&env.kindOf n==some .cell)=true
    ·show List.lookup x ((if (k==NameKind.free&&env.scope.kind==.function&&env.kindOf n==some .cell)=true then (n,NameKind.cell)else (n,k))::_)=_;rw[NL c,Ot,a]
    ·show List.lookup x ((if (k==NameKind.free&&env.scope.kind==.function&&env.kindOf n==some .cell)=true then (n,NameKind.cell)else (n,k))::_)=_;rw[NH c,Ot,a]
 exact all d.names
theorem Xg:rk env x .free=.cell\/rk env x .free=.free:=by
 unfold rk;split
 ·exact .inl rfl
 ·exact .inr rfl
theorem GQ(h:k≠.free):rk env x k=k:=by
 unfold rk;rw[NH];intro c
 have:(k==NameKind.free)=true:=by
  cases q:(k==NameKind.free)with
  |true=>rfl
  |false=>rw[q]at c;simp at c
 exact h (by simpa using this)
noncomputable def EW:Option NameKind->Bool
 |some .free=>true
 |some .cell=>true
 |_=>false
theorem B0(h:EW o=true):o=some .cell\/o=some .free:=by unfold EW at h;split at h<;>first|exact .inr rfl|exact .inl rfl|cases h
structure Blk(N:zl)(ok:Str->Option NameKind)(names:List (Str×NameKind))(own:zl)(fr:List Nat)(N':zl):Prop where
 eN:N'=own++fr.map λj=>N.getD j ""
 fr:∀j∈fr,j<N.length/\names.lookup (N.getD j "")=some .free
 nm:∀p∈names,names.lookup p.1= ↑p.2/\(p.2=.free->ok p.1=some .cell\/ok p.1=some .free)
noncomputable def dP(N:zl)(ok:Str->Option NameKind)(names:List (Str×NameKind))(a:zl)(fr:List Nat)(d:zl):Bool :=
 decide (d=a++fr.map λj=>N.getD j "")&&(fr.all λj=>decide (j<N.length/\names.lookup (N.getD j "")=some .free)) &&
  names.all λp=>decide (names.lookup p.1= ↑p.2)&&(p.2 != .free||EW (ok p.1))
theorem Ej(h:dP N ok names a fr f=true):Blk N ok names a fr f:=by unfold dP at h;simp only[Nt,NX,decide_eq_true_eq,QM,bne_iff_ne]at h;exact(h.1.1,h.1.2,λp d=>((h.2 p d).1,λe=>B0 ((h.2 p d).2.resolve_left (absurd e))))
noncomputable def VA(a:zl)(fr:List Nat)(d:St):St:=a.map (λ_=>none)++fr.map λj=>(d[j]?).getD none
theorem Kx(i:Scope)(env:Env)(h:∀p∈i.names,p.2=.free->∃c,env.cells.lookup p.1= ↑c) :
  ∃cl,closureFor i env=pure cl/\(∀x c,cl.lookup x= ↑c->env.cells.lookup x= ↑c)/\∀p∈i.names,p.2=.free->cl.lookup p.1=env.cells.lookup p.1:=by
 unfold closureFor
 have all:∀(l:List (Str×NameKind))(d:List (Str×Addr)),(∀p∈l,p.2=.free->∃c,env.cells.lookup p.1= ↑c)->(∀x c,d.lookup x= ↑c->env.cells.lookup x= ↑c) ->
   ∃cl,(forIn l d λ(p:Str×NameKind)(r:List (Str×Addr))=>(match p with
    | (name,kind)=>if (kind==NameKind.free)=true then (do let a <- cellOf env name;pure (ForInStep.yield (Prod.mk name a::r)))else pure (ForInStep.yield r):Sem (ForInStep (List (Str×Addr)))))=pure cl /\
    (∀x c,cl.lookup x= ↑c->env.cells.lookup x= ↑c)/\(∀p∈l,p.2=.free->cl.lookup p.1=env.cells.lookup p.1)/\∀x,d.lookup x=env.cells.lookup x->cl.lookup x=env.cells.lookup x:=by
  intro l
  induction l with
  |nil=>intro d _ j;exact(d,rfl,j,λp hp=>(by simp at hp),λx e=>e)
  |cons p r v =>
   intro d hl j;let(n,k):=p;rw[QN];by_cases hk:k=.free
   ·subst hk;let(c,m):=hl (n,.free) OP rfl;have u:cellOf env n=pure c:=by unfold cellOf;rw[m]
    let(cl,e1,e2,e3,q):=v (Prod.mk n c::d) (λp hp=>hl p (Oi _ hp)) (λx w e=>by
     rw[Ot]at e
     cases g:x==n with
     |true =>
      rw[g]at e;have:x=n:=by simpa using g
      subst this;cases e;exact m
     |false=>rw[g]at e;exact j x w e)
    refine(cl,?_,e2,λp hp e=>?_,λx e=>q x ?_)
    ·simp only[Pw,if_true,u];exact e1
    ·rcases NB.mp hp with rfl|hp
     ·exact q n (by rw[Ot];simp[m])
     ·exact e3 p hp e
    ·rw[Ot]
     cases g:x==n with
     |true =>
      have:x=n:=by simpa using g
      subst this;simp[m]
     |false=>exact e
   ·have y:(k==NameKind.free)=false:=by simpa using hk
    let(cl,e1,e2,e3,q):=v d (λp hp=>hl p (Oi _ hp)) j;refine(cl,?_,e2,λp hp e=>?_,q)
    ·simp only[y,Bool.false_eq_true,if_false];exact e1
    ·rcases NB.mp hp with rfl|hp
     ·exact absurd e hk
     ·exact e3 p hp e
 let(cl,e1,e2,e3,_):=all i.names [] h (λx c e=>by simp at e);refine(cl,?_,e2,e3);have f:=NZ (λt:Sem (List (Str×Addr))=>t >>= λz=>pure z) e1
 first
  |exact f
  | (simp only[pure_bind]at f;exact f)
  | (refine Eq.trans ?_ f;rfl)
  | (dsimp only at f ⊢;exact f)
theorem kE:∀(names:List (Str×NameKind))(h:Heap)(n:Nat)(a:List (Str×Addr)),n=h.objs.size->(cellsFrom n names a).lookup x= ↑c ->
  (a.lookup x= ↑c/\(x,.cell)∉names)\/((x,.cell)∈names/\n<=c/\(pushCells h names).IsCell c none)
 |[],_,_,_,_,e=>.inl (e,by simp)
 | (y,k)::r,h,n,a,d,e=>by
  unfold cellsFrom at e;unfold pushCells;by_cases hk:(k==.cell)=true
  ·rw[NL hk]at e ⊢;have g:k=.cell:=by simpa using hk
   rcases kE r (h.push {cls:=.type "cell",data:=.cell none}) (n+1) _ (by rw[N8,d]) e with⟨q,z⟩|⟨z,l,q⟩
   ·rw[Ot]at q;by_cases f:x=y
    ·subst f;rw[Pw]at q;cases q;exact .inr (by rw[g];exact .head _,Nu _,_,pushCells_keeps r _ _ _ (by rw[d];exact NG _ rfl),rfl)
    ·rw[beq_false_of_ne f]at q;exact .inl (q,λm=>(NB.mp m).elim (λz=>f (NZ Prod.fst z)) z)
   ·exact .inr (.tail _ z,⋯,q)
  ·rw[NH hk]at e ⊢;exact(kE r h n a d e).imp (λ⟨q,z⟩=>(q,λm=>(NB.mp m).elim (λz=>hk (by cases z;rfl)) z)) λ⟨z,q⟩=>(.tail _ z,q)
theorem ji:∀(names:List (Str×NameKind))(n:Nat)(a:List (Str×Addr)),(∀x c,a.lookup x= ↑c->c<n)->(∀x y c,a.lookup x= ↑c->a.lookup y= ↑c->x=y) ->
  ∀x y c,(cellsFrom n names a).lookup x= ↑c->(cellsFrom n names a).lookup y= ↑c->x=y
 |[],_,_,_,i=>i
 | (z,k)::r,n,a,l,i=>by
  unfold cellsFrom;split
  ·have q:∀x c,(Prod.mk z n::a).lookup x= ↑c->(x=z/\c=n)\/a.lookup x= ↑c:=λx c e=>by
    rw[Ot]at e;split at e
    ·rename_i h;cases e;exact .inl (by simpa using h,rfl)
    ·exact .inr e
   refine ji r _ _ (λx c e=>?_) λx y c e e'=>?_
   ·rcases q x c e with⟨_,e⟩|e
    ·lia
    ·have:=l x c e;lia
   ·rcases q x c e with⟨e1,e2⟩|e<;>rcases q y c e' with⟨e3,d⟩|e'
    ·rw[e1,e3]
    ·have:=l y c e';lia
    ·have:=l x c e;lia
    ·exact i x y c e e'
  ·exact ji r n a l i
noncomputable def ZY(k:Option NameKind):Bool:=match k with|some .cell=>true|_=>false
noncomputable def Cx.Sy(X:Cx)(sc:Scope)(a:List (Str×Addr))(C:Addr)(N:zl)(s:Shared)(H:Hp)(fp:zz):Cx where
 prog:=X.prog
 w:=X.w
 K:=X.K
 mg:=X.mg
 base:=X.base
 A:=X.A
 N:=N
 s₀:=s
 H₀:=H
 env:=compEnvC sc a C X.env
 outer:=X.stack
 stack:=X.stack
 ex:=fp
 fn:=λx=>ZY (sc.names.lookup x)
 calm:=X.calm
 pn:=[]
 xe:=λ_ _=>False
section
theorem vY{X:Cx}{m:qa}{E:St}{H:Hp}{s:Shared}{a:Scope}{ce:List (Str×Addr)}{d:zl}{fr:List Nat}{G:zl}{T:zz}(I:Inv X m E H s)(B:Blk X.N X.env.kindOf a.names d fr G)(hk:a.kind=.function){h1:Heap}{tk:Nat}{C D:Addr}{n:Nat}
  (inj:∀x y c,ce.lookup x= ↑c->ce.lookup y= ↑c->x=y) (has:∀x,a.names.lookup x=some .cell\/a.names.lookup x=some .free->∃c,ce.lookup x= ↑c)
  (f:∀x c,ce.lookup x= ↑c->(X.env.cells.lookup x= ↑c/\a.names.lookup x≠some .cell)\/(a.names.lookup x=some .cell/\C<c/\h1.IsCell c none))
  (U:∀b∈T,ko X m H b) (fo:∀b∈T,b<s.heap.objs.size) (J:D=s.heap.objs.size) (L:s.heap.objs.size<C)
  (Y:h1.Ns C (λ_=>none)) (old:∀b o,s.heap.get? b= ↑o->h1.get? b= ↑o) (hD:h1.get? D=some {cls:=.type "list",data:=.seq ([]:qw).toArray n}) :
  Inv (X.Sy a ce C G s H T) [] (VA d fr E) (upd H D (.lst [])) {s with heap:=h1,toks:=tk}:=by
 have w:∀x c,X.env.cells.lookup x= ↑c->c<s.heap.objs.size:=λx c e=>by let(v,q):=I.cell x c e;exact q.lt
 have hDn:H D=none:=I.hok.fresh (Pr J.symm);have kind:∀x,(X.Sy a ce C G s H T).env.kindOf x=(a.names.lookup x).map (rk X.env x):=λx=>pI a X.env x
 refine⟨(I.ok.mod,hk,I.ok.glob,I.ok.blt,O9 L,inj,λx M=>?_,λx c e1 e2=>?_,I.ok.hd,I.ok.frames,.inl rfl,λb t=>(?_,λx c e=>?_),I.bs,N4 I.ok.VP I.sz,λb o e t=>?_,λb t=>?_,I.stack,I.Ud),
  rfl,I.bare,Un.laid old (Pr J.symm) hDn,(_,Y,λi x v e1 e2 e3=>?_),λx c e=>?_,?_,λx c e=>?_,λp hp=>?_,I.hok.laid old (Pr J.symm) (Om _,[],n,.nil,hD),?_⟩
 ·rw[kind x]at M
  cases q:a.names.lookup x with
  |none=>rw[q]at M;simp at M
  |some k =>
   by_cases hf:k=.free
   ·exact has x (.inr (hf▸q))
   ·rw[q,Option.map_some,GQ hf]at M;exact has x (q▸M)
 ·rcases f x c e2 with⟨_,z⟩|⟨_,z,_⟩
  ·have e1:ZY (a.names.lookup x)=true:=e1;unfold ZY at e1;split at e1
   ·exact absurd ‹_› z
   ·cases e1
  ·exact O9 (Nat.lt_trans L z)
 ·exact N3 (Nat.lt_trans (fo b t) L)
 ·rcases f x c e with⟨z,_⟩|⟨_,z,_⟩
  ·exact(U b t).2.2.2.2.1 x c z
  ·have:=fo b t;lia
 ·rcases(U b t).2.2.2.1 with z|z
  ·exact I.ok.Vd b o e z
  ·exact absurd (NV (NW e) (N4 I.ok.VP z)) (Ph _)
 ·intro z;rcases NB.mp (I.Vt b z)with e|e
  ·exact(U b t).2.1 e
  ·exact(U b t).2.2.1 e
 ·
  have O:G[i]?= ↑x:=e1
  have hi:¬ i<d.length:=λz=>by unfold VA at e2;rw[N7 (by simpa using z),NQ,Nz z]at e2;cases e2
  unfold VA at e2;rw[N5 (by simpa using hi),NC,NQ]at e2;rw[B.eN,N5 (by simpa using hi),NQ]at O
  cases q:fr[i - d.length]? with
  |none=>rw[q]at e2;cases e2
  |some j =>
   rw[q]at e2 O;simp only[Option.map_some,Option.some.injEq]at e2 O;let(hj,g):=B.fr j (Oq q)
   have ej:X.N[j]?= ↑x:=by rw[<- O,Of,Nz hj];rfl
   have eσ:E[j]?= ↑(some v):=by
    cases z:E[j]? with
    |none=>rw[z]at e2;cases e2
    |some o=>rw[z]at e2;simp only[Option.getD_some]at e2;rw[e2]
   rw[O]at g;have Q:=(B.nm _ (ON g)).2 rfl;let(m0,hn0,ZZ):=I.loc;let(u,r,l):=ZZ j x v ej eσ (.inr Q);refine(u,r,?_);rcases l with⟨z,_⟩|⟨_,c,hc,o,ho,hd⟩
   ·have Xd:X.env.kindOf x=some .cell\/X.env.kindOf x=some .free:=Q;rw[z]at Xd;rcases Xd with y|y<;>cases y
   ·let(c',e'):=has x (.inr g);rcases f x c' e' with⟨z,_⟩|⟨z,_⟩
    ·cases z.symm.trans hc;refine .inr (?_,c,e',o,old c o ho,hd);rw[kind x,g,Option.map_some];exact Xg.imp (NZ _) (NZ _)
    ·rw[g]at z;cases z
 ·rcases f x c e with⟨z,_⟩|⟨_,_,z⟩
  ·let(v,o,ho,hd):=I.cell x c z;exact(v,o,old c o ho,hd)
  ·exact(_,z)
 ·show upd H D _ C=none;rw[ao (by rw[J];exact Pb L)];exact I.hok.fresh (O9 L)
 ·show upd H D _ c=none;rcases f x c e with⟨z,_⟩|⟨_,z,_⟩
  ·rw[ao (by rw[J];exact N3 (w x c z))];exact I.R7 x c z
  ·rw[ao ⋯];exact I.hok.fresh ⋯
 ·exact absurd (show p∈([]:qa) from hp) (by simp)
 ·show(VA d fr E).length=G.length;rw[B.eN];simp[VA]
theorem BB{X:Cx}{a:qa}{i:St}{H:Hp}{s:Shared}{l:Scope}{m:List (Str×Addr)}{p:zl}{f:zz}{C:Addr}{g:St}{j:Hp}{k:Shared}(I:Inv X a i H s)(d:∀b∈f,ko X a H b)(J:Inv (X.Sy l m C p s H f) [] g j k):Inv X a i j k :=
 I.UL (ch:=f) J.os J.base J.hok J.bare λb e=>((d b e).2.2.2.1,(d b e).2.1,(d b e).2.2.2.2.1,(d b e).2.2.2.2.2)
theorem Inv.young{X:Cx}{a:qa}{e:St}{H:Hp}{s:Shared}{C:Addr}{f:Shared}{j:Hp}{d:St}{g:Heap}(k:Inv X a d j f)(I:Inv X a e H s)(l:f.heap.objs.size<=C)(i:H C=none)(hs:Heap.SameBut C s.heap g):Inv X a e H {s with heap:=g} :=
 I.turned (its:=[C]) (λb m=>by rw[NI.mp m];exact(i,(k.X4 l i).2)) (SameBut.of hs)
end
noncomputable def vV(X:Cx)(d:zp)(t:TT):Prop :=
 ∀(a:qa)(s:Shared)(e:St)(H:Hp)(Q:Bool->Hp->Prop),Inv X a e H s->t e H Q ->
  wpAny (model X.prog X.w) X.A (forIn d true λc r=>if r=true then do let ok <- isTrue c X.env (eval c X.env);pure (ForInStep.yield ok)else pure (ForInStep.yield r)) (TP X a e Q) X.xe s
noncomputable def vT:TT:=λ_ H Q=>Q true H
theorem lJ:vV X [] vT:=λa s d H Q I h=>wpAny_tests_nil (H,I,h)
theorem Aj(h:PT X c t):vV X [c] t:=λa s d H Q I e=>wpAny_tests_one (h a s d H Q I e)
noncomputable abbrev Xz:=St->Hp->(St->Hp->Prop)->Prop
noncomputable abbrev Bp(J:It)(g:TG)(p:Xz)(q:St)(H:Hp)(Q:St->Hp->Prop):Prop:=∃W:Nat->Nat->St->Hp->Prop,(∃m,W 0 m q H)/\∀i m d e,W i m d e->(J.stop i e/\Q d e) \/
 (J.go i e/\∃k:St->Hp->Prop,(∀a f,k a f->∃l,l<m/\W (i+1) l a f)/\∀x f,J.Y3 i e x f->g x d f λj r=>p j r k)
noncomputable abbrev X8(i:TT)(j:TE)(D:Addr):Xz:=λa H e=>i a H λb f=>if b=true then j a f λv g=>∃d,g D= ↑(.lst d)/\d.length<sizeLine/\e a (upd g D (.lst (d++[v])))else e a f
noncomputable def PBd(X:Cx)(c:Code)(B:Sem Fin)(t:Xz):Prop:=∀(a:qa)(s:Shared)(e:St)(H:Hp)(g:St->Hp->Prop),Inv X a e H s->t e H g ->
 wpAny (model X.prog X.w) X.A B (λf j=>f=.again c/\∃d i,Inv X a d i j/\g d i) X.xe s
noncomputable def Z0(p:Pos)(a:Expr)(it:Value)(env:Env)(B:Sem Fin):Sem Fin:=standAt p >>= λ_=>pyNext it >>= λr=>match r with
 |none=>pure (.done .next)
 |some v=>letOwnedTupleGo a it v >>= λ_=>assign a env v >>= λ_=>B
noncomputable def Z1(a:Expr)(d:zp)(c:Code)(e:Value)(env:Env):Sem Fin:=do
 let mut ok:=true
 for c in d do
  if ok then ok <- isTrue c env (eval c env)
 if ok then
  (do let _ <- call (.builtin "list.append") [e,<- eval a env])
 again c
section
theorem zZ(m:vV X d p)(q:PE X e r):PBd X c (Z1 e d c ⇑D X.env) (X8 p r D):=λi s a H t I h=>by
 unfold Z1;refine xd (RA (m _ s a H _ I h) λok u ⟨j,k,l⟩=>?_)
 cases ok with
 |false=>exact Nv (rfl,a,j,k,l)
 |true =>refine xd (xd (RA (q _ u a j _ k l) λy w ⟨v,z,B,E,G,f,J,nx⟩=>?_));exact xd (RA (nj (X:=X) _ w a z ⇑D [v] ⇑D [y] (λ_ g=>t a g) B rfl (.cons E .nil) (_,G,v,rfl,rfl,f,J,nx)) λ_ N ⟨_,g,L,_,M⟩=>Nv (Nv (rfl,a,g,L,M)))
theorem qT{X:Cx}{a:qa}{U:St}{H:Hp}{s:Shared}{G:zz}{it:Addr}{J:It}{tn:Nat->Heap->Prop}{g:TG}{tb:Xz}{t Y:Expr}{Nx:St->Hp->Prop}{k:Nat}{gs:List Comprehension}{sc:Scope}{pos:Pos}{y:Value}{p:Pos}{B:Sem Fin}(hB:compTurn (.ListComp t gs sc pos) k ⇑it y X.env=Z0 p Y ⇑it X.env B)(j:PBd X (.compLoop (.ListComp t gs sc pos) k ⇑it y X.env) B tb)(I:Inv X a U H s)(hc:X.calm=true)(hx:∀v s,¬ X.xe v s)(T:iu X.prog X.w X.K Y J G it tn)(st:tn 0 s.heap)(f2:∀b∈G,ko X a H b)(hg:PG X Y g)(h:Bp J g tb U H Nx) :
  codeAny (model X.prog X.w) X.A (.compLoop (.ListComp t gs sc pos) k ⇑it y X.env) (λr O=>r=.ok .next/\∃l z,Inv X a l z O/\Nx l z) s:=by
 let(W,(m0,w0),L):=h;have Vv:∀{z:Hp},(∀b∈G,z b=none)->∀b∈G,ko X a z b:=λhn b j=>(hn b j,(f2 b j).2)
 refine codeAny_loop rfl (λn O=>∃i l z,Inv X a l z O/\tn i O.heap/\(∀b∈G,z b=none)/\W i n l z) ?_ m0 (0,U,H,I,st,λb j=>(f2 b j).1,w0);rintro n s3 ⟨i,m,Q,I3,M,Y4,w3⟩;show wpAny (model X.prog X.w) X.A ((compTurn (.ListComp t gs sc pos) k ⇑it y X.env).onRaise λx=>do noteFrame x X.env;theTreesLotGoes x) _ _ s3;refine wpAny_noted (wpAny_noRaise (O3 (E:=X.xe) ?_ (λ_ _ q=>q) λv s e=>hx v s e));rw[hB];refine xd (Pj (xd ?_));rcases L i n m Q w3 with⟨stop,qn⟩|⟨go,Ny,hN,step⟩
 ·refine RA (T.done X rfl rfl rfl hc i a s3 m Q _ I3 (Vv Y4) M stop) λr s4 ⟨hr,I4⟩=>?_;subst hr;exact Nv (rfl,m,Q,I4,qn)
 ·refine RA (T.item X rfl rfl rfl hc i a s3 m Q _ I3 (Vv Y4) M go) λr s4 ⟨u,hr,h4⟩=>?_;subst hr;refine xd (RA h4 λ_ s5 ⟨x,H5,I5,r5,y5,WL,fr5⟩=>?_);have I5':=I5.pinned (Vv fr5) (T.obj _ _ WL);refine xd (RA (hg _ s5 m H5 x u _ I5' r5 (step x H5 y5)) λ_ s6 ⟨σ6,H6,I6,q6⟩=>?_);refine RA (j _ s6 σ6 H6 _ I6 q6) λf s9 ⟨hf,N,H9,I9,n9⟩=>?_;subst hf;let(m',hm,w9):=hN N H9 n9;refine(rfl,m',hm,i+1,N,H9,I9.Tv,T.keep _ _ _ WL λb j o e=>(I9.pin (b,o) (NO _ (NO _ (fE j e)))).1,λb j=>?_,w9);let(o,e,d):=T.obj _ _ WL b j;exact(I9.pin (b,o) (NO _ (NO _ (fE j e)))).2.1
end
noncomputable abbrev gq(e:TI)(mk:St->St)(g:TG)(f:Addr->Xz):TE:=λa H Q=>e a H λJ d=>∀D,d D=none->Bp J g (f D) (mk a) (upd d D (.lst [])) λ_ i=>Q ⇑D i
noncomputable abbrev Wu(a:TI)(mk:St->St)(g:TG)(d:TT)(e:TE):TE:=gq a mk g (X8 d e)
theorem oY{s:Shared}{env:Env}
  (e:Q {scope,locals:=s.heap.objs.size,globals,cells:=cellsFrom (s.heap.objs.size+1) scope.names a,qual,func:=none,code:=env.code,frame:=env.frame,builtins:=env.builtins} {s with heap:=pushCells (s.heap.push {cls:=.type "dict",data:=.dict #[]}) scope.names}) :
  wpAny M A (newFunctionEnv scope globals a [] qual none .none ↑env) Q E s:=by
 simp only[newFunctionEnv,Option.isSome_some,if_true];refine xd (wpAny_alloc ?_);refine xd (wpAny_layCells _ (λname kind cells=>by cases d:kind==NameKind.cell<;>simp[d]) _ _ _ _ ?_);rw[show({s with heap:=s.heap.push {cls:=.type "dict",data:=.dict #[]}}:Shared).heap.objs.size=s.heap.objs.size+1 from N8 ..];exact xd (Nv (Nv e))
section
variable{X:Cx}{tg:Expr}{sc:Scope}{N':zl}{g:TG}{tb:Addr->Xz}{B:Value->Value->Env->Sem Fin}
structure pW(X:Cx)(e tg:Expr)(p:Pos)(sc:Scope)(N':zl)(g:TG)(tb:Addr->Xz):Prop where
 hg:∀ce C s H fp,PG (X.Sy sc ce C N' s H fp) tg g
 hb:∀ce C s H fp it D,∃B,compTurn e 0 ⇑it ⇑D (compEnvC sc ce C X.env)=Z0 p tg ⇑it (compEnvC sc ce C X.env) B/\PBd (X.Sy sc ce C N' s H fp) (.compLoop e 0 ⇑it ⇑D (compEnvC sc ce C X.env)) B (tb D)
theorem qr{t iter:Expr}{u:zp}{i:List Comprehension}{E:Pos}{wi:TI}{L:zl}{fr:List Nat}{a:qa}{M:St}{H:Hp}{s:Shared}{Q:VK}{use:Option (Value->Sem Unit)}{p:Pos}{QQ:ql}
  (hi:PI X tg iter wi) (hk:sc.kind=.function) (f:dP X.N X.env.kindOf sc.names L fr N'=true) (hc:X.calm=true) (b:pW X (.ListComp t ((tg,iter,u,0)::i) sc E) tg iter.pos sc N' g tb)
  (hs:∀x,foldedSetIterable iter X.env x=pure x) (I:Inv X a M H s) (h:gq wi (VA L fr) g tb M H Q)
  (hR:∀(d:Shared)(O:Hp)(D C:Addr)(U:Hp)(k:Shared),Inv X a M O d->d.heap.objs.size<=C->Inv X a M U k->(∃m,k.heap.Ns C m)->U C=none->Q ⇑D U->compPost (model X.prog X.w) X.A X.xe use QQ ⇑D C (.ok .next) k) :
  wpAny (model X.prog X.w) X.A (comprehension (.ListComp t ((tg,iter,u,0)::i) sc E) sc X.env p (newList []) false (eval iter X.env) use) QQ X.xe s:=by
 have B:=Ej f;let(cl,hcl,sub,has):=Kx sc X.env λp Y e=>I.ok.has p.1 ((B.nm p Y).2 e);refine wpAny_comprehension_free rfl hs hcl hk (λp Y e=>e▸(B.nm p Y).1) (RA (hi a s M H _ I h) λv s1 h1=>RA h1 λitv d h2=>?_);let(it,fp,tn,J,O,e,I2,T,st2,f2,body):=h2;subst e
 have fo:∀b∈fp,b<d.heap.objs.size:=λb f=>by let(o,e,_):=T.obj _ _ st2 b f;exact NW e
 refine Qh (oY ?_);dsimp only;generalize hG:d.heap.push {cls:=.type "list",dict:=none,data:=.seq ([]:qw).toArray}=G;have gs:G.objs.size=d.heap.objs.size+1:=by rw[<- hG,N8]
 generalize hF:G.push {cls:=.type "dict",data:=.dict #[]}=F;have fs:G.objs.size+1=F.objs.size:=by rw[<- hF,N8]
 have oG:∀b o,G.get? b= ↑o->(pushCells F sc.names).get? b= ↑o:=λb o e=>pushCells_keeps _ _ _ _ (hF▸Ar _ e);have old:∀b o,d.heap.get? b= ↑o->(pushCells F sc.names).get? b= ↑o:=λb o e=>oG b o (hG▸Ar _ e)
 have j:∀x c,cl.lookup x= ↑c->c<d.heap.objs.size:=λx c e=>by let(v,q):=I2.cell x c (sub x c e);exact q.lt
 have I0:=vY (tk:=d.toks) (C:=G.objs.size) (ce:=cellsFrom (G.objs.size+1) sc.names cl) I2 B hk (ji _ _ _ (λx c e=>by have:=j x c e;lia) λx y c e e'=>I.ok.inj x y c (sub x c e) (sub y c e'))
  (λx hx=>Pq.mp (Qo _ _ _ (hx.imp_right λq=>by
   have m:=ON q;let(c,e):=I.ok.has x ((B.nm _ m).2 rfl);exact Pq.mpr (c,(has _ m rfl).trans e))))
  (λx c e=>(kE _ F _ _ fs e).imp (λ⟨q,z⟩=>(sub x c q,λw=>z (ON w))) λ⟨q,l,z⟩=>((B.nm _ q).1,l,z))
  f2 fo rfl ⋯ ((hF▸Heap.Ns.new G (.type "dict")).keeps (pushCells_keeps _ _)) old (oG _ _ (hG▸NG _ rfl))
 have st3:tn 0 (pushCells F sc.names):=T.keep _ _ _ st2 λb _ o e=>old b o e;let(Bd,e1,hB):=b.hb (cellsFrom (G.objs.size+1) sc.names cl) G.objs.size d O fp it d.heap.objs.size
 have loop:=OJ (qT (X:=X.Sy sc _ G.objs.size N' d O fp) e1 hB I0 hc (λ_ _ h=>h) T st3 (λb f=>(by rw[ao (N3 (fo b f))];exact(f2 b f).1,(I0.ok.XW b f).1,I0.ok.Ve b f,.inl f,(I0.ok.XW b f).2,λp Y=>absurd (show p∈([]:qa) from Y) (by simp))) (b.hg _ _ _ _ _) (body _ (I2.hok.fresh (Nu _))))
  λr k ⟨hr,σ',U,J',q⟩=>(show compPost (model X.prog X.w) X.A X.xe use QQ ⇑d.heap.objs.size G.objs.size r k from by
   subst hr;let(m,hn,_):=J'.loc;exact hR d O _ _ U k I2 ⋯ (BB I2 f2 J') (m,hn) J'.free q)
 exact codeAny_compStart_list loop (T.self _ 0 _ _ _ st3 loop)
theorem xP(j:∀a C s H d,PG (X.Sy sc a C N' s H d) tg g)(k:∀a C s H d,vV (X.Sy sc a C N' s H d) e l)(m:∀a C s H d,PE (X.Sy sc a C N' s H d) f p) :
  pW X (.ListComp f [(tg,iter,e,0)] sc i) tg iter.pos sc N' g (X8 l p) :=
 (j,λa C s H d it D=>(Z1 f e (.compLoop (.ListComp f [(tg,iter,e,0)] sc i) 0 ⇑it ⇑D (compEnvC sc a C X.env)) ⇑D (compEnvC sc a C X.env),rfl,zZ (k a C s H d) (m a C s H d)))
theorem vA(k:PI X tg iter l)(hk:sc.kind=.function)(p:dP X.N X.env.kindOf sc.names own fr N'=true)(r:X.calm=true)(b:pW X (.ListComp d ((tg,iter,e,0)::a) sc f) tg iter.pos sc N' g tb)
  (hs:∀x,foldedSetIterable iter X.env x=pure x:=by intro _;rfl):PE X (.ListComp d ((tg,iter,e,0)::a) sc f) (gq l (VA own fr) g tb):=λj s E H Q I h =>
 qr (use:=none) k hk p r b hs I h λ_ _ _ _ t _ u v w ⟨m,y⟩ z q=>(m,y,λ_ i=>(⇑_,t,Inv.young u w v z i,rfl,q))
theorem uf{f:Pos}(Y:PI X tg iter wi)(hk:sc.kind=.function)(hb:dP X.N X.env.kindOf sc.names u fr N'=true)(hc:X.calm=true)(b:pW X (.ListComp j ((tg,iter,k,0)::d) sc l) tg iter.pos sc N' g tb)
  (hN:X.N.Nodup) (hy:X.N[i]?= ↑y) (T:X.env.scope.names.lookup y=some .local)
  (w:swapsWith (.ListComp j ((tg,iter,k,0)::d) sc l) ↑(.Name y r) f.line X.env=pure true)
  (hs:∀x,foldedSetIterable iter X.env x=pure x:=by intro _;rfl):PS X (.Assign [.Name y r] (.ListComp j ((tg,iter,k,0)::d) sc l) f) (Vu (gq wi (VA u fr) g tb) (qL i)):=by
 intro p s σ H D I h;rw[exec_Assign_Name_used _ _ _ _ w];refine xd (Pj (xd ?_));show wpAny _ _ (do let _ <- comprehension (.ListComp j ((tg,iter,k,0)::d) sc l) sc X.env _ (newList []) false (eval iter X.env) ↑(assign (.Name y r) X.env)) _ _ s;refine xd (O3 (qr (Q:=λv E=>D.nx (σ.set i ↑v) E) (use:= ↑(assign (.Name y r) X.env)) (QQ:=λ_ t=>SP X p D .next t) Y hk hb hc b hs I h λs2 H2 U C E t G J I3 ⟨m,hn⟩ hf q=>?_) (λ_ t hq=>Nv (Nv hq)) λ_ _ e=>e);show wpAny _ _ (assign (.Name y r) X.env ⇑U) _ _ t;refine wpAny_assign_Name (nB I3 hN hy (.inl T) (v:= ⇑U) rfl (λs4 I4 ⟨a,L,ha⟩=>?_) (.inr T))
 have M:C≠a:=by
  rcases ha with e|e
  ·rw[e];exact Pb (NV G.lt J)
  ·let(v,z):=G.cell _ _ e;exact Pb (NV z.lt J)
 exact(m,hn.sameBut L M,λh' O=>(_,E,Inv.young G I4 J hf O,q))
end
inductive D where
 |Ro|bl (b:Bool)|int (i:Int)|str (x:Str)|tup (ds:List D)
 |lst
mutual
noncomputable def Dat(K:qs)(H:Hp):D->V->Prop
 | .Ro,v=>v=.Ro
 | .bl b,v=>v=.bl b
 | .int i,v=>v=.int i
 | .str x,v=>v=.str x
 | .tup e,v=>∃a d,v= ⇑a/\RW K H a d/\RH K H e d
 | .lst,v=>∃a d,v= ⇑a/\RP K H a d
noncomputable def RH(K:qs)(H:Hp):List D->List V->Prop
 |[],a=>a=[]
 |d::e,a=>∃v r,a=v::r/\Dat K H d v/\RH K H e r
end
section
theorem Dat.tupI{K:qs}(h:RW K H a d)(r:RH K H e d):Dat K H (.tup e) ⇑a:=(a,d,rfl,h,r)
theorem RH.nil{K:qs}:RH K H [] []:=rfl
theorem RH.cons{K:qs}(h:Dat K H d v)(r:RH K H e a):RH K H (d::e) (v::a):=(v,a,rfl,h,r)
theorem Dat.Yb{K:qs}(i:Int):Dat K H (.int i) (.int i):=rfl
theorem Dat.Yc{K:qs}(x:Str):Dat K H (.str x) (.str x):=rfl
theorem Dat.blI{K:qs}(b:Bool):Dat K H (.bl b) (.bl b):=rfl
theorem Dat.nonI{K:qs}:Dat K H .Ro .Ro:=rfl
theorem Dat.Yd{K:qs}(h:Dat K H (.tup e) v):∃a d,v= ⇑a/\RW K H a d/\RH K H e d:=h
theorem Dat.Wv{K:qs}(h:Dat K H (.int i) v):v=.int i:=h
theorem Dat.Zc{K:qs}(h:Dat K H (.str x) v):v=.str x:=h
theorem Dat.Z2{K:qs}(h:Dat K H (.bl b) v):v=.bl b:=h
theorem Dat.Ye{K:qs}(h:Dat K H .Ro v):v=.Ro:=h
theorem Dat.lstE{K:qs}(h:Dat K H .lst v):∃a d,v= ⇑a/\RP K H a d:=h
theorem RH.SE{K:qs}(h:RH K H [] a):a=[]:=h
theorem RH.RN{K:qs}(h:RH K H (d::a) e):∃v r,e=v::r/\Dat K H d v/\RH K H a r:=h
theorem RH.length{K:qs}:∀{f:List D}{a:List V},RH K H f a->f.length=a.length
 |[],a,h=>by rw[h.SE];rfl
 |d::f,a,h=>by let(v,r,e,h1,g):=h.RN;subst e;rw[N6,N6,RH.length g]
theorem RH.Yg{K:qs}:∀{f:List D}{a:List V}{i:Nat}{v:V},RH K H f a->a[i]?= ↑v->∃d,f[i]?= ↑d/\Dat K H d v
 |[],a,i,v,h,e=>by rw[h.SE]at e;simp at e
 |d0::f,a,0,v,h,e=>by let(u,r,e1,h1,g):=h.RN;subst e1;simp at e;subst e;exact(d0,rfl,h1)
 |d0::f,a,i+1,v,h,e=>by let(u,r,e1,h1,g):=h.RN;subst e1;let(d,j,k):=RH.Yg (i:=i) (v:=v) g (by simpa using e);exact(d,by simpa using j,k)
end
mutual
noncomputable def SA:D->D->Bool
 | .Ro,.Ro=>true
 | .bl a,.bl b=>a==b
 | .int a,.int b=>a==b
 | .bl a,.int b=>(if a then 1 else 0)==b
 | .int a,.bl b=>a==(if b then 1 else 0)
 | .str a,.str b=>a==b
 | .tup a,.tup b=>RZ a b
 |_,_=>false
noncomputable def RZ:List D->List D->Bool
 |[],[]=>true
 |a::r,b::q=>SA a b&&RZ r q
 |_,_=>false
end
mutual
noncomputable def eU:D->Nat
 | .tup a=>RO a+1
 |_=>0
noncomputable def RO:List D->Nat
 |[]=>0
 |d::a=>max (eU d) (RO a)
end
mutual
noncomputable def Tu:D->Bool
 | .tup a=>RS a
 | .lst=>false
 |_=>true
noncomputable def RS:List D->Bool
 |[]=>true
 |d::a=>Tu d&&RS a
end
noncomputable def Xh(a b:List D)(j:Nat):Bool:=match a[j]?,b[j]? with
 |some x,↑y=>SA x y
 |_,_=>false
theorem kq(n:Nat)(e:Nat->Bool):(List.range (n+1)).all e=(e 0&&(List.range n).all λj=>e (j+1)):=by rw[List.range_succ_eq_map,Og,List.all_map];rfl
theorem fC:∀a b:List D,((List.range (min a.length b.length)).all (Xh a b)&&a.length==b.length)=RZ a b
 |[],[]=>by unfold RZ;rfl
 |[],y::b=>by unfold RZ;simp
 |x::a,[]=>by unfold RZ;simp
 |x::a,y::b=>by
  have d:=fC a b;unfold RZ;rw[<- d,N6,N6,Nat.succ_min_succ,kq];have e:Xh (x::a) (y::b) 0=SA x y:=rfl
  have e1:(λj=>Xh (x::a) (y::b) (j+1))=Xh a b:=by
   funext j
   simp[Xh]
  rw[e,e1,Bool.and_assoc];congr 2;simp
theorem qG{a b:List D}(h:a.length=b.length):(List.range a.length).all (Xh a b)=RZ a b:=by have q:=fC a b;rw[<- h,Nat.min_self]at q;rw[<- q];simp
mutual
theorem qF:∀d:D,Tu d=true->SA d d=true
 | .Ro,_=>by unfold SA;rfl
 | .bl b,_=>by unfold SA;simp
 | .int i,_=>by unfold SA;simp
 | .str x,_=>by unfold SA;simp
 | .tup a,h=>by unfold SA;unfold Tu at h;exact UN a h
 | .lst,h=>by unfold Tu at h;cases h
theorem UN:∀a:List D,RS a=true->RZ a a=true
 |[],_=>by unfold RZ;rfl
 |d::a,h=>by unfold RS at h;rw[Nt]at h;unfold RZ;rw[qF d h.1,UN a h.2];rfl
end
section
mutual
theorem oi{X:Cx}{i:qa}{j:St}{H:Hp}{s:Shared}(I:Inv X i j H s):∀(d e:D){v:V},Tu d=true->Dat X.K H d v->Dat X.K H e v->Tu e=true->d=e
 | .tup k,e,_,l,⟨a,w,z,q,r⟩,g,f=>by
  subst z
  cases e with
  |tup m =>let(y,p,z,t,u):=g;cases z;cases I.UM q t;rw[Vi I k m l r u f]
  |lst=>cases f
  |_=>cases g
 | .Ro,e,_,_,h,g,f | .bl _,e,_,_,h,g,f | .int _,e,_,_,h,g,f | .str _,e,_,_,h,g,f=>by
  cases h
  cases e with
  |tup _=>let(_,_,z,_):=g;cases z
  |lst=>cases f
  |_=>cases g<;>rfl
theorem Vi{X:Cx}{g:qa}{t:St}{H:Hp}{s:Shared}(I:Inv X g t H s):∀(i a:List D){j:List V},RS i=true->RH X.K H i j->RH X.K H a j->RS a=true->i=a
 |[],a,j,_,h,k,_=>by
  cases h
  cases a with
  |nil=>rfl
  |cons e a=>let(_,_,q,_):=k;cases q
 |d::i,a,j,l,h,k,f=>by
  let(v,r,z,h1,u):=h.RN;subst z
  cases a with
  |nil=>exact nomatch k.SE
  |cons e a =>let(B,E,z,m,p):=k.RN;injection z with w y;subst w y;unfold RS at l f;rw[Nt]at l f;rw[oi I d e l.1 h1 m f.1,Vi I i a l.2 u p f.2]
end
end
theorem Dat.kd{X:Cx}{e:qa}{k:St}{H:Hp}{s:Shared}{d:D}{x:V}{u:Value}(q:Dat X.K H d x)(I:Inv X e k H s)(r:RelV x u)(h:Tu d=true):(d=.Ro/\x=.Ro/\u=.none)\/(∃b,d=.bl b/\x=.bl b/\u=.bool b)\/(∃i t,d=.int i/\x=.int i/\u=.int i t)\/(∃y t,d=.str y/\x=.str y/\u=.str y t) \/
  ∃f a g j,d=.tup f/\x= ⇑a/\u= ⇑a/\RW X.K H a g/\RH X.K H f g/\s.heap.IsTuple a j:=by
 cases d with
 |lst=>cases h
 |Ro=>cases q;cases r;exact .inl (rfl,rfl,rfl)
 |bl b=>cases q;cases r;exact .inr (.inl (b,rfl,rfl,rfl))
 |int i=>cases q;let(t,rfl):=r;exact .inr (.inr (.inl (i,t,rfl,rfl,rfl)))
 |str y=>cases q;let(t,rfl):=r;exact .inr (.inr (.inr (.inl (y,t,rfl,rfl,rfl))))
 |tup f =>let(a,g,rfl,sq,l):=q;cases r;let(j,_,p,_):=I.tuple sq;exact .inr (.inr (.inr (.inr (f,a,g,_,rfl,rfl,rfl,sq,l,p))))
theorem jo(A:Around):A.in1.units=A.units+1:=rfl
section
theorem hJ:∀{ds:List D}{j:Nat}{d:D},ds[j]?= ↑d->eU d<=RO ds
 |[],_,_,e=>by simp at e
 |d0::ds,0,d,e=>by simp at e;subst e;unfold RO;exact Nat.le_max_left _ _
 |d0::ds,j+1,d,e=>by have q:=hJ (ds:=ds) (j:=j) (d:=d) (by simpa using e);unfold RO;exact N4 q (Nat.le_max_right _ _)
theorem iS:∀{ds:List D}{j:Nat}{d:D},RS ds=true->ds[j]?= ↑d->Tu d=true
 |[],_,_,_,e=>by simp at e
 |d0::ds,0,d,h,e=>by simp at e;subst e;unfold RS at h;rw[Nt]at h;exact h.1
 |d0::ds,j+1,d,h,e=>by unfold RS at h;rw[Nt]at h;exact iS (ds:=ds) (j:=j) (d:=d) h.2 (by simpa using e)
theorem kO{X:Cx}(n:Nat)
  (all:∀(d e:D)(x y:V)(u w:Value),eU d<=n->Tu d=true->Tu e=true->Dat X.K H d x->Dat X.K H e y->RelV x u->RelV y w->SeqAt.EqAt A s u w (SA d e))
  (M:RO g<=n) (h1:RS g=true) (N:RS m=true) (O:RH X.K H g k) (Q:RH X.K H m l) (E:Vals k a) (G:Vals l f) :
  ∀j (p:j<a.toArray.size) (q:j<f.toArray.size),SeqAt.EqAt A s a.toArray[j] f.toArray[j] (Xh g m j):=by
 intro j p q;have I:j<k.length:=by rw[E.length];simpa using p
 have J:j<l.length:=by rw[G.length];simpa using q
 let(u,T,U):=E.get (i:=j) (x:=k[j]) (Nz I);let(w,Y,r):=G.get (i:=j) (x:=l[j]) (Nz J);let(d,t,qd):=O.Yg (i:=j) (v:=k[j]) (Nz I);let(e,L,qe):=Q.Yg (i:=j) (v:=l[j]) (Nz J)
 have z1:a.toArray[j]=u:=by
  have:a[j]?= ↑u:=T;have z:j<a.length:=by simpa using p
  rw[Nz z]at this;simpa using Oa this
 have z2:f.toArray[j]=w:=by
  have:f[j]?= ↑w:=Y;have B:j<f.length:=by simpa using q
  rw[Nz B]at this;simpa using Oa this
 have z3:Xh g m j=SA d e:=by unfold Xh;rw[t,L]
 rw[z1,z2,z3];exact all d e _ _ u w (N4 (hJ t) M) (iS h1 t) (iS N L) qd qe U r
theorem rN{X:Cx}{f:qa}{E:St}{H:Hp}{s:Shared}{A:Around}{ds es:List D}{a b:Addr}{j k:List V}(I:Inv X f E H s)(l:A.units<cLine)(n:Nat)
  (all:∀(d e:D)(x y:V)(u w:Value),eU d<=n->Tu d=true->Tu e=true->Dat X.K H d x->Dat X.K H e y->RelV x u->RelV y w->SeqAt.EqAt A.in1 s u w (SA d e))
  (G:RO ds<=n) (h1:RS ds=true) (J:RS es=true) (m:RH X.K H ds j) (q:RH X.K H es k) (L:RW X.K H a j) (M:RW X.K H b k) :
  SeqAt.RcAt A s ⇑a ⇑b (RZ ds es)/\SeqAt.RcNeAt A s ⇑a ⇑b (!RZ ds es):=by
 let(g,r,t1,_):=I.tuple L;let(i,t,v,_):=I.tuple M;have z:=kO (X:=X) (H:=H) (s:=s) n all G h1 J m q r t;have p:=SeqAt.RcAt.tuples (show s.heap.IsTuple a g.toArray from t1) (show s.heap.IsTuple b i.toArray from v) l z;have B:=SeqAt.RcNeAt.tuples (show s.heap.IsTuple a g.toArray from t1) (show s.heap.IsTuple b i.toArray from v) l z;have e1:g.toArray.size=ds.length:=by rw[ND,<- r.length,m.length]
 have e2:i.toArray.size=es.length:=by rw[ND,<- t.length,q.length]
 rw[e1,e2,fC]at p B;exact(p,B)
theorem sW{X:Cx}{j:qa}{O:St}{H:Hp}{s:Shared}(I:Inv X j O H s):∀(n:Nat)(A:Around)(d e:D)(x y:V)(u w:Value),A.units+n+1<cLine->eU d<=n->Tu d=true->Tu e=true->Dat X.K H d x->Dat X.K H e y->RelV x u->RelV y w->SeqAt.EqAt A s u w (SA d e):=by
 intro n
 induction n with
 |zero =>
  intro A d e x y u w f E h1 k l m v z
  exact base I A d e x y u w ⋯ h1 k l m v z λg i a b q r G Q=>by subst G;unfold eU at E;lia
 |succ n T =>intro A d e x y u w f E h1 k l m v z;refine base I A d e x y u w ⋯ h1 k l m v z λg i a b q r G Q t1 J L M N=>?_;subst G Q;unfold eU at E;unfold Tu at h1 k;have p:=(rN (A:=A) (ds:=g) (es:=i) I ⋯ n (λd e x y u w U Y k3 k4 k5 k6 k7=>T A.in1 d e x y u w (by rw[jo];lia) U Y k3 k4 k5 k6 k7) ⋯ h1 k t1 J L M).1;unfold SA;exact .of_refs N p
where
 base (I:Inv X j O H s) (A:Around) (d e:D) (x y:V) (u w:Value) (f:A.units<cLine) (h1:Tu d=true) (k:Tu e=true) (l:Dat X.K H d x) (m:Dat X.K H e y) (v:RelV x u) (z:RelV y w)
   (tt:∀(g i:List D)(a b:Addr)(q r:List V),d=.tup g->e=.tup i->RH X.K H g q->RH X.K H i r->RW X.K H a q->RW X.K H b r->a≠b->SeqAt.EqAt A s ⇑a ⇑b (SA (.tup g) (.tup i))) :
   SeqAt.EqAt A s u w (SA d e):=by
  rcases l.kd I v h1 with⟨rfl,rfl,rfl⟩|⟨c,rfl,rfl,rfl⟩|⟨c,t,rfl,rfl,rfl⟩|⟨c,t,rfl,rfl,rfl⟩|⟨g,a,q,us,rfl,rfl,rfl,L,t1,p1⟩<;>rcases m.kd I z k with⟨rfl,rfl,rfl⟩|⟨e,rfl,rfl,rfl⟩|⟨e,t',rfl,rfl,rfl⟩|⟨e,t',rfl,rfl,rfl⟩|⟨i,b,r,ws,rfl,rfl,rfl,M,J,p2⟩
  case' inr.inr.inr.inr.inr.inr.inr.inr =>
   by_cases B:a=b
   ·subst B
    rw[<- oi I (.tup g) (.tup i) h1 l m k,qF _ h1]
    exact .same _
   ·exact tt g i a b q r rfl rfl t1 J L M B
  all_goals unfold SA;with_reducible first|exact .same _|exact .none_bool _|exact .none_int _ _|exact .none_str _ _|exact .none_tuple ‹_› f|exact .bool_none _|exact .bool_bool _ _|exact .bool_int _ _ _|exact .bool_str _ _ _|exact .bool_tuple _ ‹_› f|exact .int_none _ _|exact .int_bool _ _ _|exact .int_int _ _ _ _|exact .int_str _ _ _ _|exact .int_tuple _ _ ‹_› f|exact .str_none _ _|exact .str_bool _ _ _|exact .str_int _ _ _ _|exact .str_str _ _ _ _|exact .str_tuple _ _ ‹_› f|exact .tuple_none ‹_› f|exact .tuple_bool _ ‹_› f|exact .tuple_int _ _ ‹_› f|exact .tuple_str _ _ ‹_› f
theorem Jx{X:Cx}{g:qa}{j:St}{H:Hp}{s:Shared}(I:Inv X g j H s)(n:Nat)(A:Around)(d e:D)(x y:V)(u w:Value)(f:A.units+n+2<cLine)(k:eU d<=n+1)(h1:Tu d=true)(i:Tu e=true)(l:Dat X.K H d x)(m:Dat X.K H e y)(p:RelV x u)(q:RelV y w) :
  SeqAt.RcAt A s u w (SA d e)/\SeqAt.RcNeAt A s u w (!SA d e):=by
 rcases l.kd I p h1 with⟨rfl,rfl,rfl⟩|⟨c,rfl,rfl,rfl⟩|⟨c,t,rfl,rfl,rfl⟩|⟨c,t,rfl,rfl,rfl⟩|⟨r,a,U,Y,rfl,rfl,rfl,v,t1,p1⟩<;>rcases m.kd I q i with⟨rfl,rfl,rfl⟩|⟨e,rfl,rfl,rfl⟩|⟨e,z,rfl,rfl,rfl⟩|⟨e,z,rfl,rfl,rfl⟩|⟨B,b,ys,ws,rfl,rfl,rfl,E,G,p2⟩
 case' inr.inr.inr.inr.inr.inr.inr.inr=>exact rN (A:=A) (ds:=r) (es:=B) I ⋯ n (λd e x y u w J L M N O Q T=>sW I n A.in1 d e x y u w (by rw[jo];lia) J L M N O Q T) (by unfold eU at k;lia) h1 i t1 G v E
 all_goals have f:A.units<cLine:=by lia
 all_goals unfold SA;constructor<;>(try simp only[Bool.not_false,Bool.not_true])<;>with_reducible first|exact .none_none|exact .none_bool _|exact .none_int _ _|exact .none_str _ _|exact .none_tuple ‹_› f|exact .bool_none _|exact .bool_bool _ _|exact .bool_int _ _ _|exact .bool_str _ _ _|exact .bool_tuple _ ‹_› f|exact .int_none _ _|exact .int_bool _ _ _|exact .int_int _ _ _ _|exact .int_str _ _ _ _|exact .int_tuple _ _ ‹_› f|exact .str_none _ _|exact .str_bool _ _ _|exact .str_int _ _ _ _|exact .str_str _ _ _ _|exact .str_tuple _ _ ‹_› f|exact .tuple_none ‹_› f|exact .tuple_bool _ ‹_› f|exact .tuple_int _ _ ‹_› f|exact .tuple_str _ _ ‹_› f
theorem Jy{X:Cx}{j:qa}{N:St}{H:Hp}{s:Shared}(I:Inv X j N H s)(n:Nat)(A:Around)(g i:List D)(a b:Addr)(t v:List V)(hu:A.units+n+2<cLine)(O:RO g<=n)(h1:RS g=true)(Q:RS i=true)(T:RP X.K H a t)(U:RP X.K H b v)(B:RH X.K H g t)(E:RH X.K H i v) :
  SeqAt.RcAt A s ⇑a ⇑b (RZ g i)/\SeqAt.RcNeAt A s ⇑a ⇑b (!RZ g i):=by
 have k:A.units<cLine:=by lia
 let(q,G,l,_):=I.list T;let(r,J,m,_):=I.list U;have e1:q.toArray.size=g.length:=by rw[ND,<- G.length,B.length]
 have e2:r.toArray.size=i.length:=by rw[ND,<- J.length,E.length]
 have L:=kO (X:=X) (H:=H) (s:=s) (A:=A.in1) n (λd e x y u w Y k2 k3 k4 k5 k6 k7=>sW I n A.in1 d e x y u w (by rw[jo];lia) Y k2 k3 k4 k5 k6 k7) O h1 Q B E G J;by_cases hl:g.length=i.length
 ·have f:q.toArray.size=r.toArray.size:=by rw[e1,e2,hl]
  have p:=SeqAt.RcAt.lists l.isList m.isList f k L;have M:=SeqAt.RcNeAt.lists l.isList m.isList f k L;rw[e1,qG hl]at p M;exact(p,M)
 ·have f:(q.toArray.size != r.toArray.size)=true:=by rw[e1,e2];simpa using hl
  have z:RZ g i=false:=by
   rw[<- fC];have:(g.length==i.length)=false:=by simpa using hl
   rw[this,Bool.and_false]
  rw[z];exact(SeqAt.RcAt.lists_lengths l.isList m.isList f k,SeqAt.RcNeAt.lists_lengths l.isList m.isList f k)
noncomputable def C9(K:qs)(a:Bool):R2:=λx y H Q=>∃d e,Dat K H d x/\Dat K H e y/\Tu d=true/\Tu e=true/\eU d<=20/\Q (.bl (if a then !SA d e else SA d e)) H
theorem FN{X:Cx}(f:RE k X.A):Sh X (compareOp .Eq) (C9 X.K false):=by
 intro a s r H x y v u Q I g i h;let(d,e,j,l,h1,m,t,q):=h;have p:X.A.units+19+2<cLine:=by have:=f.un;lia
 exact(Jx I 19 X.A d e x y v u p ⋯ h1 m j l g i).1 _ _ _ _ (.bl _,H,I,rfl,q)
theorem FQ{X:Cx}(f:RE k X.A):Sh X (compareOp .NotEq) (C9 X.K true):=by
 intro a s r H x y v u Q I g i h;let(d,e,j,l,h1,m,t,q):=h;have p:X.A.units+19+2<cLine:=by have:=f.un;lia
 exact(Jx I 19 X.A d e x y v u p ⋯ h1 m j l g i).2 _ _ _ _ (.bl _,H,I,rfl,q)
noncomputable def Da(K:qs)(f:Bool):R2:=λx y H Q=>∃a b g i d e,x= ⇑a/\y= ⇑b/\RP K H a g/\RP K H b i/\RH K H d g/\RH K H e i/\RS d=true/\RS e=true/\RO d<=20/\Q (.bl (if f then !RZ d e else RZ d e)) H
theorem zT{X:Cx}(e:RE k X.A):Sh X (compareOp .Eq) (Da X.K false):=by
 intro d s J H x y v u Q I f g h;let(a,b,i,j,l,m,ex,p,r,t,w,z,h1,B,E,q):=h;subst ex p;cases f;cases g;have G:X.A.units+20+2<cLine:=by have:=e.un;lia
 exact(Jy I 20 X.A l m a b i j G E h1 B r t w z).1 _ _ _ _ (.bl _,H,I,rfl,q)
theorem FR{X:Cx}(e:RE k X.A):Sh X (compareOp .NotEq) (Da X.K true):=by
 intro d s J H x y v u Q I f g h;let(a,b,i,j,l,m,ex,p,r,t,w,z,h1,B,E,q):=h;subst ex p;cases f;cases g;have G:X.A.units+20+2<cLine:=by have:=e.un;lia
 exact(Jy I 20 X.A l m a b i j G E h1 B r t w z).2 _ _ _ _ (.bl _,H,I,rfl,q)
noncomputable def Z4:D->String
 | .Ro=>"NoneType"
 | .bl _=>"bool"
 | .int _=>"int"
 | .str _=>"str"
 | .tup _=>"tuple"
 | .lst=>"list"
noncomputable def B1(d:D)(T:String):Bool:=Z4 d==T||(Z4 d=="bool"&&T=="int")
theorem xZ{X:Cx}(hk:∀d:D,W.kitOne X.K (.type (Z4 d)) (.type T)= ↑(B1 d T)) :
  bE X (.builtin "isinstance") (λl H Q=>∃x d,l=[x,.ty T]/\Dat X.K H d x/\Q (.bl (B1 d T)) H):=by
 intro g s m H l w Q I r h;let(x,d,e,q,h):=h;subst e;let(u,c,e,f,p):=D2 r;subst e;cases (show c=Value.type T from p);have fin:∀j,EP X g m Q (.bool (B1 d T)) {s with toks:=j}:=λj=>(.bl _,H,I.tok j,rfl,h)
 have kd:=hk d
 cases d with
 |Ro=>have z:=q.Ye;subst z;cases f;exact Qv W.kitx_none I.Se True.intro kd (λz=>nomatch z) fin
 |bl b=>have z:=q.Z2;subst z;cases f;exact Qv W.kitx_bool I.Se True.intro kd (λz=>nomatch z) fin
 |int i=>have z:=q.Wv;subst z;let(t,rfl):=f;exact Qv W.kitx_int I.Se True.intro kd (λz=>nomatch z) fin
 |str y=>have z:=q.Zc;subst z;let(t,rfl):=f;exact Qv W.kitx_str I.Se True.intro kd (λz=>nomatch z) fin
 |tup B =>let(a,v,z,sq,_):=q.Yd;subst z;cases f;let(k,_,(o,e1,e2,_),_):=I.tuple sq;exact Qv W.kitx_tuple I.Se (o,e1,e2) kd (λz=>nomatch z) fin
 |lst =>let(a,v,z,sq):=q.lstE;subst z;cases f;let(k,_,(o,_,e1,e2,_),_):=I.list sq;exact Qv W.kitx_list I.Se (o,e1,e2) kd (λz=>nomatch z) fin
end
noncomputable def eL(K:qs)(a:Addr)(T:List (Str×KTD.Dat)):Prop:=∀h:Heap,K.In h->KTD.TextTab h a T
section
theorem zU:Sh X (compareOp .In) (λx y H Q=>∃k a T,x=.str k/\y= ⇑a/\eL X.K a T/\Q (.bl (KTD.inKeys k T)) H):=by intro d s j H x y v u Q I f g h;let(k,a,T,ex,i,t,q):=h;subst ex i;let(l,rfl):=f;cases g;exact KTD.in_text (h₀:=s.heap) (t _ I.Se,λ_ _ e=>e) (.bl _,H,I.tok _,rfl,q)
noncomputable def GP(K:qs):R2:=λx y H Q=>∃a k T i,x= ⇑a/\y=.str k/\eL K a T/\(T.all λp=>KTD.plain p.2)=true/\KTD.datumAt k T= ↑(.flat (.int i))/\Q (.int i) H
theorem Yh:V5 X (GP X.K):=by
 intro p r w s N H x y v u Q I z B h hs;let(a,k,T,i,ex,E,t,G,j,q):=h;subst ex E;let(O,rfl):=B;cases z;have J:KTD.inKeys k T=true:=by rw[<- Ra,j];rfl
 refine KTD.item_textA (h₀:=s.heap) (t _ I.Se,λ_ _ e=>e) G J ?_ hs
 exact g T j λv L=>by let(M,rfl):=PyProof.V.Flat.int_inv L;exact(.int i,H,I.tok _,(M,rfl),q)
where
 g {h:Heap} {k:Str} {P:Value->Prop} {i:Int}:∀(T:List (Str×KTD.Dat)),KTD.datumAt k T= ↑(.flat (.int i))->(∀v,PyProof.V.Flat v (.int i)->P v)->KTD.EachL h k P T
  |[],j,_=>by simp[KTD.datumAt]at j
  | (x,d)::T,j,l=>by
   have f:(if decide (k=x)=true then ↑d else KTD.datumAt k T)= ↑(.flat (.int i)):=j
   by_cases m:k=x
   ·rw[NL (Oz m)]at f
    cases f
    refine KTD.eachL_hit m ?_
    exact opened l
   ·rw[NH (by simp[m])]at f
    exact KTD.eachL_miss m (g T f l)
 opened {h:Heap} {P:Value->Prop} {i:Int} (l:∀v,PyProof.V.Flat v (.int i)->P v):KTD.Opened h P (.flat (.int i)):=by
  first
   |exact KTD.opened_int λt=>l _ (PyProof.V.Flat.int i t)
   |exactλt=>l _ (PyProof.V.Flat.int i t)
end
section
variable{H H':Hp}
theorem eh(h:H p=none)(o:HO):Sk H (upd H p o):=λb u q=>by rw[ao (bo q h)];exact q
noncomputable def VB(t:Addr)(H H':Hp):Prop:=∀b o,b≠t->H b= ↑o->H' b= ↑o
theorem Sk.but(e:Sk H H'):VB t H H':=λb o _ h=>e b o h
theorem VB.trans(a:VB t H H')(b:VB t H' d):VB t H d:=λc o n h=>b c o n (a c o n h)
theorem VB.upd(a:VB t H H'):VB t H (upd H' t o):=λb u n h=>by rw[ao n];exact a b u n h
end
section
theorem EO{K:qs}(d:D):W.kitOne K (.type (Z4 d)) (.type "str")= ↑(B1 d "str"):=by cases d<;>rfl
noncomputable def Jp(K:qs):V->V->Hp->VK->Prop:=λo i H Q=>∃p a k v,o= ⇑p/\i=.int k/\0<=k/\RP K H p a/\a[k.toNat]?= ↑v/\Q v H
theorem qN:Ho X (Jp X.K):=by intro d s G H o i ov J Q I f g h;let(p,j,k,v,l,m,h0,u,e,q):=h;subst l m;cases f;let(t,rfl):=g;let(y,r,z,L):=I.list u;let(w,B,a):=r.get e;have hl:=r.length;have E:k.toNat<j.length:=(LD.mp e).1;have M:=gh;exact wpAny_getItem_list z.isList h0 ⋯ (by simpa using B) (v,H,I,a,q)
theorem Cz:Sh X (binaryOp .Mult) (rI IntMulOk λi j=>.int (i*j)):=Y5 λ_ _ _ _ _ _ _ a q=>mul_int q a
end
theorem uW(h:j<n):Vz n (j:Int)= ↑j:=by unfold Vz;rw[NL ⋯,NL ⋯];simp
theorem at0{α:Type}{x:α}{r:List α}:V4 (x::r) 0= ↑x:=kb (j:=0) rfl
theorem at1{α:Type}{x y:α}{r:List α}:V4 (x::y::r) 1= ↑y:=kb (j:=1) rfl
theorem ix0:Vz (n+1) 0= ↑0:=uW (j:=0) ⋯
theorem ix1:Vz (n+2) 1= ↑1:=uW (j:=1) ⋯
theorem mX{K:qs}:∀a:List Int,RH K H (a.map D.int) (a.map V.int)
 |[]=>RH.nil
 |n::a=>RH.cons (Dat.Yb n) (mX a)
theorem nk:∀a:List Int,RS (a.map D.int)=true
 |[]=>by unfold RS;rfl
 |n::a=>by show RS (D.int n::a.map D.int)=true;unfold RS;rw[nk a];unfold Tu;rfl
theorem jM:∀a:List Int,RO (a.map D.int)=0
 |[]=>by unfold RO;rfl
 |n::a=>by show RO (D.int n::a.map D.int)=0;unfold RO;rw[jM a];unfold eU;rfl
theorem yr(a:zb):RZ (a.map D.int) []=a.isEmpty:=by
 cases a with
 |nil=>unfold RZ;rfl
 |cons n a=>show RZ (D.int n::a.map D.int) []=false;unfold RZ;rfl
noncomputable def WM(K:qs)(H:Hp)(a:Addr)(e:zb):Prop:=(∃o,H a= ↑(.Th o (.lst (e.map V.int)))) \/
 ∃(o:Obj)(d:Array Value)(n:Nat),K.lookup a= ↑o/\o.cls=.type "list"/\o.dict=none/\o.data=.seq d n/\d.size<=sizeLine/\Vals (e.map V.int) d.toList
theorem WM.Uh{K:qs}(h:WM K H a d):RP K H a (d.map V.int):=by
 rcases h with⟨o,h⟩|h
 ·exact .inl (.inr (o,h))
 ·exact .inr h
theorem WM.but{K:qs}(h:WM K H a d)(e:VB t H f)(g:H t= ↑(.lst i)):WM K f a d:=by
 rcases h with⟨o,h⟩|h
 ·exact .inl (o,e _ _ (λz=>by rw[z,g]at h;cases h) h)
 ·exact .inr h
theorem GT{K:qs}{d:zb}(e:Bq H)(h:RP K H a (d.map V.int)):WM K H a d:=by
 rcases h with(h|⟨o,h⟩)|h
 ·rcases e a with z|⟨o,f,z⟩
  ·rw[h]at z;cases z
  ·rw[h]at z;cases z
 ·exact .inl (o,h)
 ·exact .inr h
section
end
theorem gU:bootBuiltins "len"= ↑(.builtin "len"):=⋯
theorem dg:bootBuiltins "isinstance"= ↑(.builtin "isinstance"):=⋯
theorem xR:bootBuiltins "all"= ↑(.builtin "all"):=⋯
theorem Ek:bootBuiltins "any"= ↑(.builtin "any"):=⋯
theorem Es:bootBuiltins "sum"= ↑(.builtin "sum"):=⋯
theorem Em:bootBuiltins "int"= ↑(.type "int"):=⋯
theorem BC:bootBuiltins "bool"= ↑(.type "bool"):=⋯
theorem xT:bootBuiltins "str"= ↑(.type "str"):=⋯
theorem qf:bootBuiltins "tuple"= ↑(.type "tuple"):=⋯
theorem nL:bootBuiltins "list"= ↑(.type "list"):=⋯
theorem xS:bootBuiltins "range"= ↑(.type "range"):=⋯
theorem Ep:bootBuiltins "set"= ↑(.type "set"):=⋯
theorem Eu:bootBuiltins "zip"= ↑(.type "zip"):=⋯
theorem jF:bootBuiltins "reversed"= ↑(.type "reversed"):=⋯
theorem mh:bootBuiltins "ValueError"= ↑(.type "ValueError"):=⋯
noncomputable def dY:Expr->Bool
 | .Starred ..=>false
 |_=>true
theorem aE(h:dY e=true):starEach (e::a) env=(false,eval e env)::starEach a env:=by cases e<;>first|rfl|cases h
theorem bH(a:PE X e d)(f:PA X g t)(h:dY e=true:=by rfl):PA X (e::g) (gR d t):=fF a f (aE h)
theorem md{bs:List Bool}:Vals (bs.map V.bl) a->a=bs.map Value.bool:=by
 intro h
 induction bs generalizing a with
 |nil=>cases h;rfl
 |cons b bs d =>
  cases h with
  |cons r t=>cases r;rw[d t];rfl
theorem Ay(bs:List Bool)(d:Bool):(List.range bs.length).map (λi=>(bs[i]?).getD d)=bs:=by
 apply List.ext_getElem
 ·simp
 ·intro i h1 a;simp at h1;simp[h1]
section
theorem qm{X:Cx}(w:X.calm=true):bE X (.builtin "all") (λj H Q=>∃(l:Addr)(bs:List Bool),j=[⇑l]/\RP X.K H l (bs.map V.bl)/\Q (.bl (bs.all id)) H):=by
 intro k s L H j M Q I r h;let(l,bs,rfl,y,q):=h;let(u,rfl,z):=bM r;cases z;let(a,B,p,N):=I.list y;have m:=md B;have hl:=p.isList;have f:l<s.heap.objs.size:=by let(_,e,_):=hl;exact NW e
 refine call_all_walk (Qi hl ?_)
 refine⟨s.heap.objs.size,[s.heap.objs.size,l],[s.heap.objs.size],a.toArray.size,_,_,λi=>(bs[i]?).getD true,rfl,Walks.list (A:=X.A.in1) (I.ok.hd w) _ l (N3 f) a.toArray,
  ((_,NG _ rfl,rfl,rfl),hl.push _),λi v O T U E t=>?_,λY G hk=>?_⟩
 ·subst m;have d:(bs.map Value.bool)[i]?= ↑v:=by simpa using E
  rw[NQ]at d
  cases g:bs[i]? with
  |none=>rw[g]at d;cases d
  |some b =>rw[g]at d;cases d;simp only[g,Option.getD_some]at t;exact Ov t
 ·have e:((List.range a.toArray.size).all λi=>(bs[i]?).getD true)=bs.all id:=by
   subst m;rw[ND,NC]
   conv=>rhs;rw[<- Ay bs true]
   rw[List.all_map];rfl
  rw[e];exact(.bl _,H,I.kept (t':=G) λb x e=>hk b x (λJ=>by rw[NI.mp J]at e;exact Ph _ (NW e)) (Ar _ e),rfl,q)
theorem xX{X:Cx}(w:X.calm=true):bE X (.builtin "any") (λj H Q=>∃(l:Addr)(bs:List Bool),j=[⇑l]/\RP X.K H l (bs.map V.bl)/\Q (.bl (bs.any id)) H):=by
 intro k s L H j M Q I r h;let(l,bs,rfl,y,q):=h;let(u,rfl,z):=bM r;cases z;let(a,B,p,N):=I.list y;have m:=md B;have hl:=p.isList;have f:l<s.heap.objs.size:=by let(_,e,_):=hl;exact NW e
 refine call_any_walk (Qi hl ?_)
 refine⟨s.heap.objs.size,[s.heap.objs.size,l],[s.heap.objs.size],a.toArray.size,_,_,λi=>(bs[i]?).getD false,rfl,Walks.list (A:=X.A.in1) (I.ok.hd w) _ l (N3 f) a.toArray,
  ((_,NG _ rfl,rfl,rfl),hl.push _),λi v O T U E t=>?_,λY G hk=>?_⟩
 ·subst m;have d:(bs.map Value.bool)[i]?= ↑v:=by simpa using E
  rw[NQ]at d
  cases g:bs[i]? with
  |none=>rw[g]at d;cases d
  |some b =>rw[g]at d;cases d;simp only[g,Option.getD_some]at t;exact Ov t
 ·have e:((List.range a.toArray.size).any λi=>(bs[i]?).getD false)=bs.any id:=by
   subst m;rw[ND,NC]
   conv=>rhs;rw[<- Ay bs false]
   rw[List.any_map];rfl
  rw[e];exact(.bl _,H,I.kept (t':=G) λb x e=>hk b x (λJ=>by rw[NI.mp J]at e;exact Ph _ (NW e)) (Ar _ e),rfl,q)
end
structure VC(K:qs)(x qual:Str)(st:Stmt)(f:Addr)(fd:FuncData)(T:Addr)(ds:qw):Prop where
 ex:∃(oc:Value)(od:Option Addr)(kV doc pm:Value)(an:Option Addr)(cdv ct:Value)(osl:Array (Option Value)),
  fd=W.fnOf x qual (bD st) (bh st) (ag st) ⇑T kV doc pm an cdv ct/\K.lookup f= ↑(oc,od,.func fd,osl)/\W.codeIn K cdv qual=true
 kp:W.keepIn K ⇑f=true
 df:∃(o:Obj)(n:Nat),K.lookup T= ↑o/\o.data=.seq ds.toArray n
section
theorem zV:Sh X (compareOp .LtE) (λx y H Q=>∃i j:Str,x=.str i/\y=.str j/\Q (.bl (!decide (j.cps.toList<i.cps.toList))) H):=by intro a s f H x y v u Q I d e h;let(i,j,rfl,rfl,q):=h;let(t,rfl):=d;let(g,rfl):=e;refine PySem.P.le_str ?_;exact(.bl _,H,I,rfl,q)
noncomputable def Its(x:Str):It:=(λi _=>i<x.cps.size,λi H v a=>a=H/\∃c,x.cps[i]?= ↑c/\v=.str ⟨#[c]⟩,λi _=>i=x.cps.size)
theorem nD{K:PySem.W.Frag}{x:Str}(l:owN.contains n=false)
  (W:∀A:Around,A.handled=none->Walks P w A it [it] [it] x.cps.size (SignAt x) (λi h=>h.IsStrIter it n x t i))
  (self:∀(A:Around)(i:Nat)(s:Shared)(Q:ql)(E:ql),s.heap.IsStrIter it n x t i->Q ⇑it s->wpAny (model P w) A (pyIter ⇑it) Q E s):iu P w K B (Its x) [it] it (λi h=>h.IsStrIter it n x t i):=by
 refine cH (λi h ⟨o,e,c,d⟩=>(o,_,_,e,c,d,l,λj q=>(o,q,c,d))) ?_ ?_ self
 ·rintro X rfl rfl rfl f i a s m H Q E I st p k;exact(W X.A (I.ok.hd f)).item i s _ _ p st λv j r ⟨c,u,y,e⟩ g z=>k v (.str ⟨#[c]⟩) j r (u,e) (rfl,c,y,rfl) g z
 ·rintro X rfl rfl rfl f i a s m H Q E I st rfl k;exact(W X.A (I.ok.hd f)).done s _ _ st k
noncomputable def KJ(tl:TE):TI:=λa H R=>tl a H λv d=>∃x,v=.str x/\R (Its x) d
theorem F6(hl:PE X l tl):PI X p l (KJ tl):=by
 intro a s j H R I h;refine RA (hl a s j H _ I h) λv r ⟨u,w,f,k,m⟩=>?_;let(x,e,q):=m;subst e;let(t,rfl):=k;cases g:x.cps.all (·<128)
 ·exact wpAny_pyIter_wide g (f.WK (nD rfl (λA d=>Walks.strWide d _ x t) λA i s Q E st q=>wpAny_pyIter_striter_wide st q) (_,NG _ rfl,rfl,rfl) q)
 ·exact wpAny_pyIter_ascii g (f.WK (nD rfl (λA d=>Walks.strAscii d _ x t) λA i s Q E st q=>wpAny_pyIter_striter_ascii st q) (_,NG _ rfl,rfl,rfl) q)
theorem rC:Sh X (compareOp .NotIn) (λx y H Q=>∃k a T,x=.str k/\y= ⇑a/\eL X.K a T/\Q (.bl (!KTD.inKeys k T)) H):=by intro d s j H x y v u Q I f g h;let(k,a,T,ex,i,t,q):=h;subst ex i;let(l,rfl):=f;cases g;exact KTD.notin_text (h₀:=s.heap) (t _ I.Se,λ_ _ e=>e) (.bl _,H,I.tok _,rfl,q)
noncomputable def Dd(K:qs):R2:=λx y H Q=>∃a k T z,x= ⇑a/\y=.str k/\eL K a T/\(T.all λp=>KTD.plain p.2)=true/\KTD.datumAt k T= ↑(.flat (.str z))/\Q (.str z) H
theorem B4:V5 X (Dd X.K):=by
 intro l m p s M H x y v u Q I w B h hs;let(a,k,T,z,ex,E,t,G,i,q):=h;subst ex E;let(N,rfl):=B;cases w;have J:KTD.inKeys k T=true:=by rw[<- Ra,i];rfl
 refine KTD.item_textA (h₀:=s.heap) (t _ I.Se,λ_ _ e=>e) G J ?_ hs;exact g T i λL=>(.str z,H,I.tok _,(L,rfl),q)
where
 g {h:Heap} {k:Str} {P:Value->Prop} {z:Str}:∀(T:List (Str×KTD.Dat)),KTD.datumAt k T= ↑(.flat (.str z))->(∀t,P (.str z t))->KTD.EachL h k P T
  |[],i,_=>by simp[KTD.datumAt]at i
  | (x,d)::T,i,r=>by
   have f:(if decide (k=x)=true then ↑d else KTD.datumAt k T)= ↑(.flat (.str z)):=i
   by_cases j:k=x
   ·rw[NL (Oz j)]at f
    cases f
    exact KTD.eachL_hit j (KTD.opened_str r)
   ·rw[NH (by simp[j])]at f
    exact KTD.eachL_miss j (g T f r)
noncomputable def Dt(K:qs)(e ty f:TE):TE:=λd H Q=>e d H λx g=>∃a T,x= ⇑a/\eL K a T/\ty d g λy l=>f d l λz m=>∃k i,y=.str k/\z=.int i/\(∀p∈T,∃j,p.2=.flat (.int j)) /\
 Q (.int (match KTD.datumAt k T with|some (.flat (.int j))=>j|_=>i)) m
theorem xb(ho:PE X o td)(he:PE X e ty)(hf:PE X f tx)(m:M2 X o "get" r e f w):PE X (.Call (.Attribute o "get" r) [e,f] [] w) (Dt X.K td ty tx):=by
 intro g s B H Q I h;refine wpAny_Call_method m.base m.few m.line F.plainAttrs_dict F.slot_dict_get F.type_dict_get (RA (ho g s B H _ I h) λu s1 ⟨x,H1,U,rx,a,T,ex,Y,q1⟩=>?_);subst ex;obtain rfl:u=Value.ref a:=rx;have t1:=Y _ U.Se;let(lo,ob,es,ep,E,hex,hdat,L):=id t1;refine((ob,E,hex.1),λb eb=>?_,?_)
 ·cases eb;exact(ob,E,hex.2.1)
 rw[m.trees]
 refine PX rfl (QD (Q9 (RA (he g s1 B H1 _ U q1) λiv s2 ⟨y,H2,I2,ry,q2⟩ =>
  Q9 (RA (hf g s2 B H2 _ I2 q2) λfv l ⟨z,M,N,rz,k,i,ey,ez,hT,q3⟩=>Calls.spliced_nil ?_))))
 subst ey ez;let(tok1,rfl):=ry;let(G,rfl):=rz;refine KTD.get2_text (h₀:=l.heap) (Y _ N.Se,λ_ _ e=>e) ?_
 have fin:∀(D:List (Str×KTD.Dat)),(∀p∈D,∃j,p.2=.flat (.int j))->Q (.int (match KTD.datumAt k D with|some (.flat (.int j))=>j|_=>i)) M ->
   KTD.Each l.heap k (λv=>EP X g B Q v {l with toks:=l.toks+1}) (EP X g B Q (.int i G) {l with toks:=l.toks+1}) D:=by
  intro D
  induction D with
  |nil=>intro _ q;exact KTD.each_nil (.int i,M,N.tok _,(_,rfl),q)
  |cons p D ih =>
   intro hD q;let(x,d):=p;let(j,ej):=hD (x,d) OP;have O:d=.flat (.int j):=ej;subst O;have ed:KTD.datumAt k ((x,KTD.Dat.flat (.int j))::D)=if decide (k=x)=true then ↑(.flat (.int j))else KTD.datumAt k D:=rfl;rw[ed]at q;by_cases J:k=x
   ·rw[NL (Oz J)]at q;exact KTD.each_hit J (KTD.opened_int λt=>(.int j,M,N.tok _,(t,rfl),q))
   ·rw[NH (by simp[J])]at q;exact KTD.each_miss J (ih (λp hp=>hD p (Oi _ hp)) q)
 exact fin T hT q3
end
structure mH(P:Program)(w:World)(K:qs)(a:Addr)(ks:zl):Prop where
 lk:∃o,K.lookup a= ↑o
 tb:∀h:Heap,K.In h->∃D,StrTab P w h a D/\D.map (·.1)=ks.map PyData.str
noncomputable def Itk(ks:zl):It:=(λi _=>i<ks.length,λi H v a=>a=H/\∃k,ks[i]?= ↑k/\v=.str k,λi _=>i=ks.length)
theorem wD{D:List (PyData×PyData)}{ks:zl}(h:PyProof.V.FlatPairs PyData.str a D)(e:D.map (·.1)=ks.map PyData.str):a.map (·.1)=ks:=by
 induction h generalizing ks with
 |nil =>
  cases ks with
  |nil=>rfl
  |cons k ks=>simp at e
 |cons _ _ d =>
  cases ks with
  |nil=>simp at e
  |cons k ks =>simp only[NR,List.cons.injEq]at e;let(e1,e2):=e;injection e1 with e1;rw[NR,d e2,<- e1]
theorem A2{K:qs}(p:∀h:Heap,K.In h->h.DictAt (strKind P w) d a t) :
  iu P w K G (Itk (a.map (·.1))) [it] it (λi h=>h.IsKeyIter it d i a.length t):=by
 refine cH (λi h ⟨o,e,c,d⟩=>(o,_,_,e,c,d,rfl,λg q=>(o,q,c,d))) ?_ ?_ λA i s Q E st q=>wpAny_pyIter_keyiter st q
 ·rintro X rfl rfl rfl r i f s u H Q E I st l k;have j:i<a.length:=by have z:i<(a.map (·.1)).length:=l;simpa using z
  exact wpAny_pyNext_dict_item st (p _ I.Se) (Nz j) λv g hk m y=>k _ (.str (a[i]).1) g s.toks (Q0 hk) (rfl,_,by rw[NQ,Nz j];rfl,rfl) m (SameBut.of y)
 ·rintro X rfl rfl rfl r i f s u H Q E I st l k;have j:i=a.length:=by have z:i=(a.map (·.1)).length:=l;simpa using z
  exact wpAny_pyNext_dict_end (I.ok.hd r) st (p _ I.Se) (by simp[j]) λg B=>k g s.toks (ExtBut.of B)
section
noncomputable def Wx(P:Program)(w:World)(K:qs)(tl:TE):TI:=λd H R=>tl d H λv e=>∃a ks,v= ⇑a/\mH P w K a ks/\R (Itk ks) e
theorem F7(hl:PE X l tl):PI X M l (Wx X.prog X.w X.K tl):=by
 intro d s t H R I h;refine RA (hl d s t H _ I h) λv N ⟨O,Q,i,u,y⟩=>?_;let(a,ks,e,m,q):=y;subst e;cases u;let(D,T,B):=m.tb _ i.Se;let(o,p):=m.lk;let(lo,j,k,E):=T;let(G,f):=k.dictAt;have J:=wD E B;subst J
 have g:∀h:Heap,X.K.In h->h.DictAt (strKind X.prog X.w) a j G:=λh x=>by let(U,L,e1,r):=f;have z:=i.Se _ _ p;rw[e1]at z;cases z;exact(_,L,x _ _ p,r)
 refine wpAny_pyIter_dict lo f ?_;exact i.WK (A2 g) (_,NG _ rfl,rfl,rfl) q
end
mutual
noncomputable def dW(K:qs):D->Value->Bool
 | .Ro,u=>(match u with | .none=>true|_=>false)
 | .bl b,u=>(match u with | .bool c=>b==c|_=>false)
 | .int i,u=>(match u with | .int j _=>i==j|_=>false)
 | .str x,u=>(match u with | .str y _=>x==y|_=>false)
 | .tup e,u=>(match u with | .ref a=>(match K.lookup a with|some ⟨.type "tuple",_,.seq d _,_⟩=>decide (d.size<=1000)&&TR K e d.toList|_=>false)|_=>false)
 | .lst,_=>false
noncomputable def TR(K:qs):List D->List Value->Bool
 |[],a=>a.isEmpty
 |d::e,a=>(match a with|u::r=>dW K d u&&TR K e r |[]=>false)
end
mutual
theorem jL{K:qs}(H:Hp):∀(d:D)(u:Value),dW K d u=true->∃v,RelV v u/\Dat K H d v
 | .Ro,u,h=>by unfold dW at h;cases u<;>first | (exact(.Ro,rfl,Dat.nonI))|cases h
 | .bl b,u,h=>by
  unfold dW at h;cases u<;>first|cases h|skip
  rename_i c;have e:b=c:=by simpa using h
  subst e;exact(.bl b,rfl,Dat.blI _)
 | .int i,u,h=>by
  unfold dW at h;cases u<;>first|cases h|skip
  rename_i j t;have e:i=j:=by simpa using h
  subst e;exact(.int i,(t,rfl),Dat.Yb _)
 | .str x,u,h=>by
  unfold dW at h;cases u<;>first|cases h|skip
  rename_i y t;have e:x=y:=by simpa using h
  subst e;exact(.str x,(t,rfl),Dat.Yc _)
 | .tup g,u,h=>by
  unfold dW at h;cases u<;>first|cases h|skip
  rename_i a;dsimp only at h;split at h
  ·rename_i l f n m e;rw[Nt]at h;let(p,r,k):=SG H g f.toList h.2;refine(⇑a,rfl,Dat.tupI (.inr (_,f,n,e,rfl,rfl,?_,r)) k);exact N4 (NT h.1) ⋯
  ·cases h
 | .lst,u,h=>by unfold dW at h;cases h
theorem SG{K:qs}(H:Hp):∀(e:List D)(a:qw),TR K e a=true->∃f,Vals f a/\RH K H e f
 |[],a,h=>by
  unfold TR at h
  cases a with
  |nil=>exact([],.nil,RH.nil)
  |cons u r=>cases h
 |d::e,a,h=>by
  unfold TR at h
  cases a with
  |nil=>cases h
  |cons u r =>dsimp only at h;rw[Nt]at h;let(v,g,h1):=jL H d u h.1;let(f,i,j):=SG H e r h.2;exact(v::f,.cons g i,RH.cons h1 j)
end
theorem Kz{K:qs}(h:dW K (.tup f) ⇑a=true)(H:Hp):Dat K H (.tup f) ⇑a:=by let(v,r,d):=jL H _ _ h;let(b,g,e,_):=id d.Yd;subst e;have z:Value.ref a= ⇑b:=r;cases z;exact d
section
theorem ya:bE X (.type "range") (λa H Q=>∃n:Nat,a=[.int n]/\∀p,H p=none->Q ⇑p (upd H p (.U8 0 n))):=by intro d s g H a i Q I r h;let(n,rfl,q):=h;let(u,rfl,f):=bM r;let(t,rfl):=f;refine call_range_1 (⇑s.heap.objs.size,_,I.laid (λb o e=>Ar _ e) (Nu _) (show RD X.prog X.w _ _ _ (.U8 0 n) from (_,_,_,NG _ rfl)),rfl,q _ (I.hok.fresh (Nu _)))
theorem Bg(h:ItemsOf (λi v=>∃t,v=.int ((0:Int)+(i:Nat)*1) t) a n):Vals ((List.range n).map λi:Nat=>V.int i) a.toList:=by
 let(hs,f):=h
 have all:∀(l:qw)(k:Nat),(∀(j:Nat)(v:Value),l[j]?= ↑v->∃t,v=Value.int ((0:Int)+((k+j:Nat):Int)*1) t)->Vals ((List.range' k l.length).map λi:Nat=>V.int i) l:=by
  intro l
  induction l with
  |nil=>intro k _;exact .nil
  |cons u l g =>
   intro k d;rw[N6,List.range'_succ,NR];refine .cons ?_ (g (k+1) λj v e=>?_)
   ·let(t,e):=d 0 u rfl;refine(t,?_);rw[e];congr 1;simp
   ·let(t,m):=d (j+1) v (by simpa using e);refine(t,?_);rw[m];congr 1;have:k+(j+1)=k+1+j:=by lia
    rw[this]
 have q:=all a.toList 0 λj v e=>by rw[QO];exact f j v (by simpa using e)
 rw[List.range_eq_range'];rw[O6,hs]at q;exact q
theorem mi{X:Cx}(k:X.calm=true):bE X (.type "list") (λf H Q=>∃(p:Addr)(n:Nat),f=[⇑p]/\H p= ↑(.U8 0 n)/\n<=1000/\∀l,H l=none->Q ⇑l (upd H l (.lst ((List.range n).map λi:Nat=>V.int i)))):=by
 intro g s L H f M Q I r h;let(p,n,rfl,m,y,q):=h;let(u,rfl,z):=bM r;cases z;let(t,u,v,e):=(show RD X.prog X.w H s.heap p (.U8 0 n) from I.hok p _ m)
 refine call_list_range (n:=n) (I.ok.hd k) (show IsRange s.heap p 0 n 1 t u v from e) (small_one ⋯ ⋯ ⋯ ⋯) ?_ ⋯ λB N a E G J d=>?_
 ·rw[rangeSize_one];split<;>lia
 ·have j:=Bg d;have hl:=j.length;refine(⇑s.heap.objs.size,_,I.laid G (Nu _) (show RD X.prog X.w _ B _ (.lst _) from (?_,a.toList,E,j,by simpa using J)),rfl,q _ (I.hok.fresh (Nu _)));simp only[NC,Ri];exact N4 y ⋯
noncomputable def D9(K:qs)(a:Addr)(e:List V):Prop:=∃(d:Array Value)(n:Nat),K.lookup a= ↑(.type "list",none,.seq d n,#[])/\d.size<=1000/\Vals e d.toList
noncomputable def Ui(K:qs)(H:Hp)(a:Addr)(d:List V):Prop:=H a= ↑(.lst d)\/D9 K a d
theorem Ui.Uh{K:qs}(h:Ui K H a f):RP K H a f:=by
 rcases h with h|⟨d,n,e,g,r⟩
 ·exact RP.of h
 ·exact .inr (_,d,n,e,rfl,rfl,rfl,N4 g ⋯,r)
theorem Ui.at{X:Cx}{f:qa}{i:St}{H:Hp}{s:Shared}{a:Addr}{g:List V}(I:Inv X f i H s)(h:Ui X.K H a g):∃(d:qw)(n:Nat),Vals g d/\s.heap.get? a=some {cls:=.type "list",data:=.seq d.toArray n}:=by
 rcases h with h|⟨d,n,e,j,r⟩
 ·let(z,d,n,r,hl,e):=I.V6 h;exact(d,n,r,e)
 ·exact(d.toList,n,r,by simpa using I.Se _ _ e)
noncomputable def DU(K:qs):R2:=λx y H Q=>∃l b a d,x= ⇑l/\y= ⇑b/\Ui K H l a/\Ui K H b d/\a.length+d.length<=1000/\∀p,H p=none->Q ⇑p (upd H p (.lst (a++d)))
theorem Xi:Sh X (binaryOp .Add) (DU X.K):=by
 intro f s E H x y v u Q I i j h;let(l,b,k,m,rfl,rfl,p,t,w,q):=h;cases i;cases j;let(d,n,r,e):=p.at I;let(a,n2,g,e2):=t.at I;have G:=r.length;have J:=g.length;have z:k.length+m.length<=sizeLine:=N4 w ⋯;refine PySem.P.add_list e e2 ?_ (by rw[ND,ND];lia);have B:d.toArray++a.toArray=(d++a).toArray:=by simp
 rw[B];exact(⇑_,_,I.lnew (t':=s.toks) (r.append g) (by rw[NK];lia),rfl,q _ I.fresh)
end
section
variable{K:qs}
noncomputable def oQ(K:qs)(e:List D)(a:Addr):Bool:=match K.lookup a with
 |some ⟨.type "list",none,.seq d _,f⟩=>decide (d.size<=1000)&&(f.isEmpty&&TR K e d.toList)
 |_=>false
theorem oR{K:qs}(h:oQ K g a=true)(H:Hp):∃f,D9 K a f/\RH K H g f:=by
 unfold oQ at h;split at h
 ·rename_i d n i e;rw[Nt,Nt]at h;let(f,r,j):=SG H g d.toList h.2.2;have k:i=#[]:=by simpa using h.2.1
  subst k;exact(f,(d,n,e,NT h.1,r),j)
 ·cases h
end
section
end
theorem oF:∀{d:zb}{a:qw},Vals (d.map V.int) a->IntsAre a d
 |[],a,h=>by cases h;exact .nil
 |n::d,a,h=>by
  cases h with
  |cons r t =>let(e,rfl):=r;exact .cons n e (oF t)
section
theorem yb{X:Cx}(k:X.calm=true):bE X (.builtin "sum") (λg H Q=>∃(l:Addr)(a:zb),g=[⇑l]/\RP X.K H l (a.map V.int)/\Q (.int a.sum) H):=by
 intro i s G H g J Q I r h;let(l,a,rfl,m,q):=h;let(u,rfl,t):=bM r;cases t;let(f,v,p,L):=I.list m;have j:=oF v;let(d,e):=j.allInts.items;refine sum_intListG (I.ok.hd k) (show s.heap.IsList l (intItems d) from e▸p.isList) λM w y hk=>?_
 have B:d.toList.map (·.1)=a:=by have z:=j.numsOf;rw[show f=(intItems d).toList by rw[<- e]]at z;rw[<- z,nums_intItems]
 have E:preSum (numAt d) d.size=a.sum:=by rw[preSum_eq,<- B,Qn (by simp)]
 rw[E];exact(.int a.sum,H,I.kept (t':=w) hk,(y,rfl),q)
noncomputable def Itv(K:qs)(a:Addr)(d:List V):It:=(λi H=>i<d.length/\RP K H a d,λi H x e=>e=H/\d[d.length - 1 - i]?= ↑x,λi _=>i=d.length)
theorem A1{K:qs}(a it:Addr)(f:List V):iu P w K N (Itv K a f) [it] it (λi h=>h.IsRevIter it a ((f.length:Int) - 1 - (i:Int))):=by
 refine cH (λi h ⟨o,e,c,d⟩=>(o,_,_,e,c,d,rfl,λj q=>(o,q,c,d))) ?_ ?_ λA i s Q E st q=>wpAny_pyIter_revIter st q
 ·rintro X rfl rfl rfl m i g s v H Q E I st ⟨O,y⟩ k;let(z,B,p,T):=I.list y;have r:f[f.length - 1 - i]?= ↑(f[f.length - 1 - i]'(by lia)):=Nz ⋯;let(u,G,J):=B.get r;rw[show(f.length:Int) - 1 - (i:Int)=((f.length - 1 - i:Nat):Int) by lia]at st;refine wpAny_pyNext_rev_item st p.isList (x:=u) (by simpa using G) λj l L=>k u _ j s.toks J (rfl,r) ?_ (SameBut.of L);rw[show(f.length:Int) - 1 - ((i+1:Nat):Int)=((f.length - 1 - i:Nat):Int) - 1 by lia];exact l
 ·rintro X rfl rfl rfl m i g s v H Q E I st t k;have e1:(f.length:Int) - 1 - (i:Int)=-1:=by have t:i=f.length:=t;lia
  rw[e1]at st;exact wpAny_pyNext_rev_end (I.ok.hd m) st λj M=>k j s.toks (ExtBut.of M)
noncomputable def qP(K:qs)(f:TA):TI:=λg H R=>f g H λi d=>∃a e,i=[⇑a]/\RP K d a e/\R (Itv K a e) d
theorem F5(m:Gl X "reversed")(r:X.mg "reversed"=none)(t:PA X [a] v)(hs:starEach [a] X.env=[(false,eval a X.env)]:=by rfl):PI X M (.Call (.Name "reversed" p) [a] [] i) (qP X.K v):=by
 intro d s w H R I h;refine Call_ (hV I m r jF (OX (RA (t i d s w H _ I h) λN g ⟨O,Q,j,y,z⟩=>?_) hs rfl));let(l,k,e,B,q):=z;subst e;let(u,rfl,E):=bM y;cases E;let(f,G,J,T):=j.list B;have L:=G.length;refine call_reversed_list J.isList ?_;have st:(g.heap.push (revObj l ((f.toArray.size:Int) - 1))).IsRevIter g.heap.objs.size l ((k.length:Int) - 1 - ((0:Nat):Int)):=(_,NG _ rfl,rfl,by simp[revObj,L])
 refine wpAny_pyIter_revIter (s:={g with heap:=g.heap.push (revObj l ((f.toArray.size:Int) - 1))}) st ?_;exact j.WK (A1 l _ k) st q
end
noncomputable def met(f:Nat->Str)(i:Nat):List Str:=((List.range i).map f).foldl step_dedup []
theorem lD(f:Nat->Str)(i:Nat):met f (i+1)=step_dedup (met f i) (f i):=by unfold met;rw[List.range_succ,NY,List.foldl_append];rfl
theorem uR(l:zl)(x:Str):(step_dedup l x).length=if l.any (·==x)then l.length else l.length+1:=by unfold step_dedup;split<;>simp
theorem BK(l:zl)(x y:Str):(step_dedup l x).any (·==y)=(l.any (·==y)||decide (y=x)):=by
 unfold step_dedup;split
 ·rename_i h;by_cases e:y=x
  ·subst e;rw[h];rfl
  ·rw[OY e,Bool.or_false]
 ·rw[List.any_append];congr 1;by_cases e:y=x
  ·subst e;simp
  ·have a:¬ x=y:=λz=>e z.symm;simp[e,a]
theorem zE(f:Nat->Str):∀i,(met f i).length<=i
 |0=>by simp[met]
 |i+1=>by rw[lD,uR];have:=zE f i;split<;>lia
theorem Bb{P:Program}{A:Around}{R:Result->Shared->Prop}{wr:zz}{Pv:Nat->Value->Prop}{St:Nat->Shared->Prop}
  (W:WalksS P w A.in1 it T wr G n Pv St) (sa:Addr) (e:sa∉T) (f:Nat->Str) (U:∀i v,Pv i v->∃t,v=.str (f i) t) (few:n+1<scanBound) :
  ∀(m i:Nat)(s:Shared),n - i=m->i<=n->St i s->s.heap.SetOf (strKind P w) sa (λy=>(met f i).any (·==y)) (met f i).length ->
   (∀l,Moved (sa::wr) G s l->l.heap.SetOf (strKind P w) sa (λy=>(met f n).any (·==y)) (met f n).length->R (.ok (.ret .none)) l)->codeAny (model P w) A (.builtin "set.update.loop" ([⇑sa,⇑it],[])) R s:=by
 have N:sa∉wr:=λz=>e (W.sub _ z);have more:∀b∈wr,b∈sa::wr:=λb z=>Oi _ z;intro m
 induction m with
 |zero =>
  intro i s e1 e2 st p fin;obtain rfl:i=n:=by lia
  refine PM P9 ?_;rw[P0 Pd _];show wpAny _ A.in1 (pyNext ⇑it >>= _) _ _ s;refine xd (W.done s _ _ st λd j=>?_);show wpAny _ A.in1 (ret Value.none) _ _ d;let(o,r,u,B,g,a):=p;exact Nv (fin d (j.mono more) (o,r,u,B,j.heap sa _ N g,a))
 |succ m Y =>
  intro i s e1 e2 st p fin;have lt:i<n:=by lia
  refine PM P9 ?_;rw[P0 Pd _];show wpAny _ A.in1 (pyNext ⇑it >>= _) _ _ s;refine xd (W.item i s _ _ lt st λv d pv E j=>?_);let(O,rfl):=U i v pv;have H:d.heap.SetOf (strKind P w) sa (λy=>(met f i).any (·==y)) (met f i).length:=let⟨o,r,u,B,g,a⟩:=p;(o,r,u,B,j.heap sa _ N g,a);show wpAny _ A.in1 (holding [Value.str (f i) O] (setAdd sa (.str (f i) O)) >>= _) _ _ d;refine xd (Ox ?_);unfold setAdd;refine Ox (xd ((strKind P w).pyHash (k:=f i) (strKind_is P w _ _) ?_));have rm:(met f i).length+1<scanBound:=by have:=zE f i;lia
  refine wpAny_setAddHashed_of (knd:=strKind P w) (s:={d with toks:=d.toks+1}) (strKind_is P w _ _) rfl H rm λh' Q I=>?_;have J:h'.SetOf (strKind P w) sa (λy=>(met f (i+1)).any (·==y)) (met f (i+1)).length:=SetOf_congr I (λy=>by rw[lD,BK]) (by rw[lD,uR]);refine Nv (plainId_quiet Pd _,Y (i+1) _ ⋯ lt (W.frame _ d _ _ E (P5 _) λb z o g=>?_) J λs3 L M=>?_)
  ·rw[Q.2 b (λq:b=sa=>e (by rw[<- q];exact z))];exact g
  ·refine fin s3 (Moved.trans W.gtrans ((j.mono more).then_heap (P5 _) λb o z g=>?_) L) M;rw[Q.2 b (λq:b=sa=>z (by rw[q];exact OP))];exact g
noncomputable abbrev pJ(a:Bool):Obj:={cls:=.type "set",dict:=none,data:=.set #[] 0 (.fresh 0 0 a)}
theorem wb{A:Around}{s:Shared}(N:A.handled=none)(hl:s.heap.IsList l a)
  (O:∀(i:Nat)(v:Value),a[i]?= ↑v->∃t,v=.str (f i) t) (few:a.size+1<scanBound)
  (fin:∀(j:Heap)(m:Nat),j.SetOf (strKind P w) s.heap.objs.size (λy=>(met f a.size).any (·==y)) (met f a.size).length->(∀b o,b<s.heap.objs.size->s.heap.get? b= ↑o->j.get? b= ↑o)->Q ⇑s.heap.objs.size {s with heap:=j,toks:=m}) :
  wpAny (model P w) A (call (.type "set") [⇑l]) Q E s:=by
 let(c,tl,T):=Px.mro;have made:=Px.made;have sub:=Px.sub;refine PN (codeAny_of_tree ?_);show wpAny _ _ (callAny (.type "set") _) _ _ _;refine Nv (Code.quiet_builtin _ ⋯,PM F.entry_type_call ?_);rw[Around.under_plain (weight_type_call_type "set" [⇑l] []) rfl];have k1:=Px.notType;have k2:=Px.canCreate;have k3:=F.typeCall_set_1 ⇑l
 repeat (any_goals (first|assumption|wp_step))
 refine OJ (code_set_new_1 ⇑l (E:=E) (Q₁:=λobj H=>∃d:Bool,obj= ⇑s.heap.objs.size/\H={s with heap:=s.heap.push (pJ d)}) λd=>(d,rfl,rfl)) λr H q=>?_
 cases r with
 |error e=>exact q
 |ok fl =>
  cases fl with
  |ret obj =>
   let(d,rfl,rfl):=q;have g0:(s.heap.push (pJ d)).get? s.heap.objs.size= ↑(pJ d):=NG _ rfl;have ty:Shared.TypeIs {s with heap:=s.heap.push (pJ d)} ⇑s.heap.objs.size "set":=(_,g0,rfl)
   have k4:=Px.init.lookup;have k5:=Px.init.bind ⇑s.heap.objs.size
   repeat (any_goals (first|assumption|wp_step))
   refine OJ (QU (R:=wants (λr I=>r=.none/\∃j m,I={s with heap:=j,toks:=m}/\j.SetOf (strKind P w) s.heap.objs.size (λy=>(met f a.size).any (·==y)) (met f a.size).length /\
     (∀b o,b<s.heap.objs.size->s.heap.get? b= ↑o->j.get? b= ↑o)) E) Px.init.plain F.entry_set_init (check_set_init_1 ty ?_)) λU I k=>?_
   ·let(ol,g1,g2,J,g3):=hl;let(oc,Y,ob,os):=ol;simp only at g2 g3;subst g2;subst g3;have g4:(s.heap.push (pJ d)).get? l=some {cls:=.type "list",dict:=Y,data:=.seq a J,slots:=os}:=Ar _ g1;have m1:=F.sub_list_set;have m2:=F.sub_list_frozenset;have m3:(Value.type "list"==Value.type "dict")=false:=by decide
    have L:(s.heap.push (pJ d)).IsList l a:=(_,g4,rfl,J,rfl)
    unfold Builtin.«set.__init__» noKeywords Builtin.Frozenset.updateFrom;generalize u:pyIter=PI
    wp_walk
    subst u;refine Qi L (xd (wpAny_runValue ?_));have M:l<s.heap.objs.size:=NW g1;have h3:A.in1.in1.in1.handled=none:=by simp[N]
    have n1:l≠(s.heap.push (pJ d)).objs.size:=by rw[N8];exact N3 (Qj M)
    have n2:s.heap.objs.size∉[(s.heap.push (pJ d)).objs.size,l]:=by rw[N8];simp only[NB,NI,NU,Ou,not_or];exact(N3 (Pu _),Pb M)
    refine Bb ((Walks.list h3 _ l n1 a).toS) s.heap.objs.size n2 f O few (a.size - 0) 0 _ ⋯ (Om _) ((_,NG _ rfl,rfl,rfl),(L.push _)) ?so ?fi
    case so=>exact SetOf_congr ((setObjOf_fresh (knd:=strKind P w) d).setOf (Ar _ g0) (by unfold scanBound;lia)) (λ_=>rfl) rfl
    case fi =>
     intro s' p so;let(j,g',d',B,G):=s';obtain rfl:g'=s.gens:=p.gens;obtain rfl:d'=s.drawn:=p.drawn;obtain rfl:G=s.os:=p.os;show wpAny _ _ _ _ _ _;refine Nv ?_;show wpAny _ _ (ret Value.none) _ _ _;refine Nv (rfl,j,B,rfl,so,λb o z g=>?_);have z1:b≠s.heap.objs.size:=N3 z;have z2:b≠(s.heap.push (pJ d)).objs.size:=by rw[N8];exact N3 (Qj z)
     exact p.heap b o (by simp only[NB,NI,NU,Ou,not_or];exact(z1,z2)) (Ar _ (Ar _ g))
   ·cases U with
    |error e=>exact k
    |ok fl2 =>
     cases fl2 with
     |ret r =>
      let(rfl,j,m,rfl,so,kp):=k
      repeat (any_goals (first|assumption|wp_step))
      exact fin _ _ so kp
     |_=>exact k.elim
  |_=>exact q.elim
noncomputable def pK(a:Addr)(n:Nat)(h:Heap):Prop:=∃o d e t,h.get? a= ↑o/\o.ExactSet/\o.data=.set d e t/\t.fits d.size=true/\d.size=n
section
theorem vN:∀{zs:zl}{a:qw}(i:Nat)(v:Value),Vals (zs.map V.str) a->a[i]?= ↑v->∃t,v=.str (zs.getD i "") t
 |[],a,i,v,h,e=>by cases h;simp at e
 |z::zs,a,i,v,h,e=>by
  cases h with
  |cons r t =>
   let(f,rfl):=r
   cases i with
   |zero =>
    have d:Value.str z f=v:=by simpa using e
    exact(f,d.symm)
   |succ i =>let(g,d):=vN (zs:=zs) i v t (by simpa using e);exact(g,by simpa using d)
noncomputable def wu(a:zl):Nat:=(met (λi=>a.getD i "") a.length).length
theorem wc{X:Cx}(M:X.calm=true):bE X (.type "set") (λB H Q=>∃(l:Addr)(a:zl),B=[⇑l]/\RP X.K H l (a.map V.str)/\a.length<=100/\∀p,H p=none->Q ⇑p (upd H p (.ext (pK p (wu a))))):=by
 intro E s σ H B us Q I r h;let(l,a,rfl,N,hz,q):=h;let(u,rfl,O):=bM r;cases O;let(T,G,p,_):=I.list N;have J:=G.length;rw[NC]at J;refine wb (f:=λi=>a.getD i "") (I.ok.hd M) p.isList (λi v e=>vN i v G (by simpa using e)) (by unfold scanBound;simp;lia) λL U Y kp=>?_
 have d:pK s.heap.objs.size (wu a) L:=by let(o,m,y,t,g,a2,a3,_,_,_,a4,a5):=Y;refine(o,m,y,t,g,a2,a3,a4,?_);rw[a5];unfold wu;rw[J];simp
 refine(⇑s.heap.objs.size,_,I.laid (t':=U) (λb o e=>kp b o (NW e) e) (Nu _) (show RD X.prog X.w _ L _ (.ext (pK s.heap.objs.size (wu a))) from (d,?_,λh1 h2 z k=>?_)),rfl,q _ (I.hok.fresh (Nu _)))
 ·let(o,_,_,_,g,_):=d;exact(o,g)
 ·let(o,m,y,t,g,j):=z;exact(o,m,y,t,k _ g,j)
theorem qo:bE X (.builtin "len") (λa H Q=>∃(p:Addr)(n:Nat),a=[⇑p]/\H p= ↑(.ext (pK p n))/\n<=1000/\Q (.int n) H):=by
 intro d s m H a v Q I r h;let(p,n,rfl,e,y,q):=h;let(u,rfl,f):=bM r;cases f;let((o,g,z,t,i,j,k,a4,l),_):=(show RD X.prog X.w H s.heap p (.ext (pK p n)) from I.hok p _ e)
 subst l;exact call_len_set i j k a4 ⋯ (.int (g.size:Nat),H,I.tok _,(_,rfl),q)
end
noncomputable def vH(K:qs):V->List V->Hp->VK->Prop:=λx g H Q=>∃l f y a d j,x= ⇑l/\g=[y]/\Ui K H l f/\RH K H a f/\Dat K H d y/\RS a=true/\Tu d=true/\RO a<=20/\f.length<=1000 /\
 (∃e,a[j]?= ↑e/\SA e d=true)/\(∀(m:Nat) e,m<j->a[m]?= ↑e->SA e d=false)/\Q (.int (j:Nat)) H
section
theorem gf{X:Cx}{k:Nat}{t:qa}{Q:St}{H:Hp}{s:Shared}{x:V}{u:Value}{G:List V}{f:qw}{i:List D}{d:D}(T:RE k X.A)(I:Inv X t Q H s)(U:RelV x u)(r:Vals G f)(J:RH X.K H i G)(Y:Dat X.K H d x)(n1:RS i=true)(n2:Tu d=true)(dp:RO i<=20) :
  ∃l:Value->Bool,(∀w∈f.toArray,SeqAt.EqAt X.A.in1 s w u (l w))/\f.map l=i.map (λe=>SA e d)/\f.toArray.any l=i.any λe=>SA e d:=by
 classical
 let l:Value->Bool:=λw=>decide (∃g y,g∈i/\RelV y w/\Dat X.K H g y/\SA g d=true);have nm:∀{g:D},g∈i->Tu g=true:=λh=>let⟨_,e⟩:=List.getElem?_of_mem h;iS n1 e
 have L:∀{g:D}{y:V}{w:Value},g∈i->RelV y w->Dat X.K H g y->l w=SA g d:=λ{g y w} m r q=>by
  cases z:SA g d with
  |true=>exact Oz (g,y,m,r,q,z)
  |false =>refine OY λ⟨g',y',m',r',q',M⟩=>?_;cases RelV.inj r' r;rw[oi I g' g (nm m') q' q (nm m),z]at M;cases M
 have hu:X.A.in1.units+20+1<cLine:=by have:=T.un;show X.A.units+1+20+1<cLine;lia
 have all:∀(p:List D)(B:List V)(E:qw),(∀g∈p,g∈i)->RH X.K H p B->Vals B E->(∀w∈E,SeqAt.EqAt X.A.in1 s w u (l w))/\E.map l=p.map λe=>SA e d:=by
  intro p
  induction p with
  |nil=>intro B E _ h v;cases h.SE;cases v;exact(λ_ h=>(nomatch h),rfl)
  |cons g p ih =>
   intro B E N h v;let(y,B,rfl,q,h):=h.RN
   cases v with
   |cons O v =>
    let(a,b):=ih _ _ (λe he=>N e (.tail _ he)) h v;have m:=N g (.head _);have e:=L m O q;refine(λw hw=>?_,by rw[NR,NR,b,e]);rcases NB.mp hw with rfl|hw
    ·let(j,ej):=List.getElem?_of_mem m;rw[e];exact sW I 20 X.A.in1 g d y x _ u hu (N4 (hJ ej) dp) (nm m) n2 q Y O U
    ·exact a w hw
 let(a,b):=all i G f (λ_ h=>h) J r;refine(l,λw hw=>a w (by simpa using hw),b,?_);have:=NZ (List.any · id) b;simpa[List.any_map]using this
theorem wU{X:Cx}(N:RE k X.A):Wt X "list.index" (vH X.K):=by
 intro L s σ H x vs v us Q I O T h;let(l,xs,y,t,d,j,rfl,rfl,U,f,Y,n1,n2,dp,hx,(e0,i,B),E,q):=h;cases O;let(u,rfl,ru):=bM T;let(a,n,r,e):=U.at I;have hl:=r.length;have ll:=f.length;let(M,ea,em,_):=gf N I ru r f Y n1 n2 dp
 have p:∀(m:Nat)(w:m<a.length)(g:D),t[m]?= ↑g->M a[m]=SA g d:=λm w g z=>by have:=NZ (·[m]?) em;simpa[z,w]using this
 have hj:j<t.length:=(LD.mp i).1;refine QJ Qk (_,e,rfl) F.entry_list_index (F.args_list_index_2 _ _) (SeqAt.list_indexAt l a.toArray n none #[] u M j (by simp;lia) ⋯ ?_ ?_) (e,ea,.int (j:Nat),H,I.tok _,(_,rfl),q)
 ·simpa[p j ⋯ e0 i]using B
 ·intro m w G;have J:m<a.length:=by simpa using w
  have z:t[m]?= ↑(t[m]'(by lia)):=Nz ⋯;simpa[p m J _ z]using E m _ G z
end
section
variable{P:Program}{w:World}{H H':Hp}{h:Heap}{a T:Addr}
theorem SK.empty(x:SK P w H h)(e:h.get? a=none):H a=none:=by
 cases q:H a with
 |none=>rfl
 |some u =>let(v,r):=(x a u q).has;rw[e]at r;cases r
noncomputable def Z5(h:Heap)(e T:Addr)(cls j:Value):Prop :=
 ∃d f g i,h.get? e= ↑d/\(d.cls=cls/\f[0]?= ↑j)/\d.data=.fields f/\f[1]?= ↑⇑T/\T≠e/\h.get? T= ↑g/\g.data=.fields i/\i[3]?=some .none
noncomputable def RT(P:Program)(w:World):Ws:=λouter H s E e d =>
 ∃a T cls f H',e= ⇑a/\d.os=s.os/\AllBare d.gens/\Un (frs outer) [] H H' s.heap d.heap/\SK P w H' d.heap /\
  (s.heap.get? a=none/\s.heap.get? T=none/\H' a=none/\H' T=none)/\Z5 d.heap a T cls f/\E cls none H'
theorem Ba{g:Heap}(U:Un fs [] H H' h h1)(p:h.get? a=none)(r:h.get? T=none)(k:∀b o,h1.get? b= ↑o->b≠a->b≠T->b∉fs->g.get? b= ↑o)
  (f:∀b o,h1.get? b= ↑o->b∈fs->∃f,g.get? b=some {o with slots:=f}):Un fs [] H H' h g:=by
 have i:∀b o,h.get? b= ↑o->b≠a:=λb o q z=>by rw[z,p]at q;cases q
 have j:∀b o,h.get? b= ↑o->b≠T:=λb o q z=>by rw[z,r]at q;cases q
 refine(λb o q n d e=>k b o (U.keep b o q n d e) (i b o q) (j b o q) d,λb o q n d e=>?_,U.free,λb o q e=>?_,U.T9)
 ·let(t,e1):=U.slot b o q n d e;let(l,e2):=f b _ e1 d;exact(l,e2)
 ·let(m,e1):=U.there b o q e;by_cases d:b∈fs
  ·let(l,e2):=f b _ e1 d;exact(_,e2)
  ·exact(m,k b m e1 (i b o q) (j b o q) d)
theorem yN{h1 f:Heap}{fs:zz}(O:SK P w H h1)(g:H a=none)(i:H T=none)(j:∀b∈fs,H b=none)(k:∀b o,h1.get? b= ↑o->b≠a->b≠T->b∉fs->f.get? b= ↑o):SK P w H f:=λc u e =>
 (O c u e).stay (λb v l q=>by
  have d:H b≠none:=by
   rcases l with z|z
   ·rw[z,e];exactλy=>nomatch y
   ·rw[z];exactλy=>nomatch y
  exact k b v q (λz=>d (by rw[z];exact g)) (λz=>d (by rw[z];exact i)) λz=>d (j b z)) λ_ q=>q
theorem EJ(F:h.FunFrames base l)(t:Z5 h a T cls e):Heap.FlyingW (W.hideAll h (a::T::frs l)) l a cls e h:=by
 let(f,g,i,j,k,m,p,r,d,u,v,y):=t
 exact⟨λb o q=>W.of_hideAll _ q,Qc _ (.head _),W.funFrames_hide F λenv z b B=>.tail _ (.tail _ (PJ.mpr (env,z,B))),
  f,g,T,i,j,k,m,p,r,Qc _ (.tail _ (.head _)),d,u,v,y⟩
theorem qI(F:h.FunFrames base l)(x:Heap.FlyingW (W.hideAll h (a::T::frs l)) O a cls t g)(U:h.UpToSlots g) :
  ∃T2,Z5 g a T2 cls t/\(T2=T\/h.get? T2=none)/\(∀b o,h.get? b= ↑o->b≠a->b≠T->b∉frs l->g.get? b= ↑o)/\(∀b o,h.get? b= ↑o->b∈frs l->∃f,g.get? b=some {o with slots:=f}):=by
 let(u,Q,Y,v,y,T2,B,j,E,G,I,J,k,i,p,r,L):=x
 have f:∀b o,h.get? b= ↑o->b∈frs l->∃f,g.get? b=some {o with slots:=f}:=λb o q M=>by let(_,N,d,e):=F.mem M;rw[q]at d;cases d;exact U b o q e
 refine(T2,(v,y,B,j,E,G,I,J,i,p,r,L),?_,λb o q n1 n2 n3=>u b o (W.hideAll_get _ q λz=>?_),f)
 ·cases q:h.get? T2 with
  |none=>exact .inr rfl
  |some o =>
   refine .inl ?_;by_cases m:T2∈a::T::frs l
   ·rcases NB.mp m with z|m
    ·exact absurd z i
    ·rcases NB.mp m with z|m
     ·exact z
     ·let(_,N,d,e):=F.mem m;rw[q]at d;cases d;let(s2,e2):=f T2 o q m;rw[p]at e2;cases e2;exact absurd r (e j)
   ·rw[W.hideAll_get _ q m]at k;cases k
 ·rcases NB.mp z with z|z
  ·exact n1 z
  ·rcases NB.mp z with z|z
   ·exact n2 z
   ·exact n3 z
end
section
theorem RT.behind{X:Cx}{d:qa}{t:St}{H:Hp}{s g:Shared}{E:XK}{e:Value}(I:Inv X d t H s)(x:RT X.prog X.w X.stack H s E e g):∃a T cls l f,e= ⇑a/\E cls none f/\s.heap.get? a=none/\f a=none/\Inv X d t f g /\
  Heap.FlyingW (W.hideAll g.heap (a::T::frs X.stack)) X.stack a cls l g.heap /\
  ∀j G,Heap.FlyingW (W.hideAll g.heap (a::T::frs X.stack)) G a cls l j->g.heap.UpToSlots j ->
   ∃T2,Inv X d t f {g with heap:=j}/\Z5 j a T2 cls l/\s.heap.get? T2=none/\f T2=none/\Un (frs X.stack) [] H f s.heap j:=by
 let(a,T,cls,l,f,N,os,i,un,k,(sa,u,L,M),tr,q):=x;have J:Inv X d t f g:=I.UL (ch:=[]) os un k i (λb z=>absurd z (by simp));refine(a,T,cls,l,f,N,q,sa,L,J,EJ J.stack tr,λj G fl O=>?_);let(T2,Q,m,v,p):=qI J.stack fl O
 have y:f T2=none:=by
  rcases m with z|z
  ·rw[z];exact M
  ·exact k.empty z
 have B:s.heap.get? T2=none:=by
  rcases m with z|z
  ·rw[z];exact u
  ·cases q:s.heap.get? T2 with
   |none=>rfl
   |some o =>let(U,r):=un.there T2 o q (by simp);rw[z]at r;cases r
 exact(T2,I.UL (s':={g with heap:=j}) (ch:=[]) os (Ba un sa u v p) (yN k L M J.Ud v) i (λb z=>absurd z (by simp)),Q,B,y,Ba un sa u v p)
end
noncomputable def Fre(h:Heap)(e:Addr)(cls f:Value):Prop:=∃a d,h.get? e= ↑a/\(a.cls=cls/\d[0]?= ↑f)/\a.data=.fields d/\d[1]?=some .none
noncomputable def gL(K:qs)(C:Addr)(d:qw)(a:String)(e:Option Value):Bool:=match K.lookup C with
 |some ⟨c,_,.cls cd,f⟩=>decide (c=.type "type"/\cd.mro.head?= ↑⇑C/\f.toList.length=6/\f.toList[4]?= ↑(some (.builtin a))/\cd.hasDel=false/\W.tailIn K d cd.mro.tail=true/\W.nsOkIn K cd.ns=true/\W.nsIn K cd.ns "__init__"= ↑e)
 |_=>false
theorem tX{K:qs}(X:K.In h)(G:h.Ns N mg)(e:W.nsIn K N n= ↑(some v)):mg n= ↑v:=by
 let(o,k,l,a,f,_,g):=G;unfold W.nsIn at e;split at e
 ·rename_i c d i m p q;have:=X _ _ q;rw[a]at this;cases this;cases f;split at e
  ·rename_i en j;rw[<- g];unfold nsFind findBy;rw[<- Array.find?_toList,j];cases e;rfl
  ·split at e<;>cases e
 ·cases e
theorem EE{K:qs}(X:K.In h)(q:gL K C i a d=true) :
  ∃bm N nm G bs H sn sub ab col dd k0 k1 k2 k3 k5 mN,h.get? C= ↑(excClassObj nm G C N bs bm H sn sub ab col dd k0 k1 k2 k3 k5 a)/\h.Ns N mN/\mN "__init__"=d/\OwnTail h i bm:=by
 unfold gL at q;split at q
 ·rename_i c dd cd I J;let(rfl,L,M,O,j,Q,m,e):=NT q;let(p,t,T,u,w,y,z,f,U,g,B):=cd;let(bm,rfl):=List.head?_eq_some_iff.mp L;obtain rfl:B=false:=j;obtain⟨l⟩:=I;have st:∀{n:Nat}{l:List (Option Value)},l.length=n+1->∃k r,l=k::r/\r.length=n:=λh=>by let(k,r,rfl):=List.exists_cons_of_length_eq_add_one h;exact(k,r,rfl,Nat.succ.inj h)
  let(k0,l,rfl,Y):=st M;let(k1,l,rfl,b1):=st Y;let(k2,l,rfl,b2):=st b1;let(k3,l,rfl,b3):=st b2;let(k4,l,rfl,b4):=st b3;let(k5,l,rfl,b5):=st b4;cases List.eq_nil_of_length_eq_zero b5;obtain rfl:k4= ↑(.builtin a):=Oa O;have E:h.Ns u (h.nsMap u):=.of_isNs (W.isNs_of_in X m);refine(bm,u,p,w,t,y,z,f,U,g,dd,k0,k1,k2,k3,k5,_,X _ _ J,E,?_,W.tail_of_in X Q)
  cases d with
  |none=>exact W.ns_none_of X E e
  |some v=>exact tX X E e
 ·cases q
noncomputable def aY(g:Ws)(X:Cx)(E:St->XK):Prop:=∀(a:qa)(d:St)(H:Hp)(s:Shared)(e:Value)(f:Shared),Inv X a d H s->g X.stack H s (E d) e f->X.xe e f
theorem Passes.s(h:Passes a X E):aY a X (λ_=>E):=h
section
theorem kj{X:Cx}{l:Ws}{k:Nat}{f:Addr}{m:FuncData}{j:zl}{p:Sp}{R1:List V}{d:qw}{E:St->XK}{a:qa}{g:St}{H:Hp}{s:Shared}{Q:VK}{us:qw}{vs:List V}(F:Rt X.prog X.w X.K X.mg X.base l k f m j p)(t:RE k X.A)(v:Binds X.K m j d)(y:Vals R1 d)(z:aY l X E)
  (I:Inv X a g H s) (r:Vals vs us) (h:p (vs++R1) H Q (E g)):wpAny (model X.prog X.w) X.A (call ⇑f us) (EP X a g Q) X.xe s:=by
 have q:Vals (vs++R1) (us++d):=r.append y;have hl:(us++d).length=j.length:=by rw[<- q.length];exact F.len _ _ _ _ h
 refine PN (OJ (F.run X.A X.stack s H (us,[]) (us++d) (vs++R1) Q (E g) t I.V3 (v s us I.Se hl) q h) λr B i=>?_)
 cases r with
 |error e=>exact z a g H s e B I i
 |ok fl =>
  cases fl with
  |ret u=>exact I.after i
  |next=>exact False.elim i
  |brk=>exact False.elim i
  |cont=>exact False.elim i
theorem rD{X:Cx}(F:Rt X.prog X.w X.K X.mg X.base u k f v y z)(B:RE k X.A)(G:Gl X x)(J:X.mg x= ↑⇑f)(hk:W.keepIn X.K ⇑f=true)(L:Binds X.K v y M)(N:Vals R1 M)(O:aY u X E)
  (T:PA X (e::g) t) (j:(x==("__debug__":Str))=false:=by decide) (U:starEach (e::g) X.env=(false,eval e X.env)::starEach g X.env:=by rfl) (l:(backTo a (starEach g X.env)).any (·.1)=false:=by rfl) :
  PE X (.Call (.Name x p) (e::g) [] a) (λi=>vS z R1 (E i) t i):=by
 intro d s i H Q I h;refine OQ (dj I G J ?_ j);refine Rl (h₀:=X.base) I.ok.mod.WJ hk (RA (T a d s i H _ I h) λY s1 ⟨vs,H1,m,r,q⟩=>(m.Se,?_)) U l;exact kj F B L N O m r q
end
theorem Rt.cx0{K:qs}(F:Rt P w K mg base Xf k f a d g):Rt P w K mg base t k f a d g :=
 ⟨F.len,λA outer s H args i j Q E l m p q hs=>OJ (F.run A outer s H args i j Q E l m p q hs) λr u h=>by
  cases r with
  |error e=>exact False.elim h
  |ok fl=>cases fl<;>exact h⟩
noncomputable def Cx.hand(X:Cx)(e:Value):Cx:={X with A:=X.A.mark ↑e,calm:=false,xe:=λ_ _=>False}
theorem Cx.Ok.hand{X:Cx}(o:X.Ok):(X.hand e).Ok :=
 (o.mod,o.kind,o.glob,o.blt,o.above,o.inj,o.has,o.Xv,(λz=>nomatch z),o.frames,o.stk,o.XW,o.bs,o.VP,o.Vd,o.Ve,o.S8,o.Wg)
section
theorem Inv.hand{X:Cx}{a:qa}{d:St}{H:Hp}{s:Shared}{e:Value}(I:Inv X a d H s):Inv (X.hand e) a d H s:=(I.ok.hand,I.os,I.bare,I.base,I.loc,I.cell,I.free,I.R7,I.pin,I.hok,I.len)
theorem Inv.Td{X:Cx}{a:qa}{d:St}{H:Hp}{s:Shared}{e:Value}(o:X.Ok)(I:Inv (X.hand e) a d H s):Inv X a d H s:=(o,I.os,I.bare,I.base,I.loc,I.cell,I.free,I.R7,I.pin,I.hok,I.len)
theorem Inv.Zd{X:Cx}{a:qa}{d:St}{H:Hp}{s:Shared}{xe:ql}(I:Inv X a d H s):Inv {X with pn:=X.pn++a,xe:=xe} [] d H s :=
 ⟨(I.ok.mod,I.ok.kind,I.ok.glob,I.ok.blt,I.ok.above,I.ok.inj,I.ok.has,I.ok.Xv,I.ok.hd,I.ok.frames,I.ok.stk,I.ok.XW,I.ok.bs,I.ok.VP,I.ok.Vd,I.ok.Ve,I.ok.S8,I.ok.Wg),I.os,I.bare,I.base,I.loc,I.cell,I.free,I.R7,
  λp e=>I.pin p (by simpa using e),I.hok,I.len⟩
theorem Inv.Te{X:Cx}{a e:qa}{d:St}{H:Hp}{s:Shared}{xe:ql}(o:X.Ok)(I:Inv {X with pn:=X.pn++a,xe:=xe} e d H s):Inv X a d H s :=
 (o,I.os,I.bare,I.base,I.loc,I.cell,I.free,I.R7,λp f=>I.pin p (Oj _ f),I.hok,I.len)
end
end L2
namespace L2
open PySem PySem.Spec PySem.Calls PyProof.Rows PySem.W PySem.Builtin PySem.Builtin.ObjectAttr PySem.Builtin.Getset_descriptor
section
variable{K:Frag}{D:Addr}
theorem xQ(o:Value):bindSpecial (.builtin "BaseException.__getattribute__") o=pure (.builtin "BaseException.__getattribute__",[o]):=F.attr_ValueError.ga.bind o
structure kn(K:Frag)(D:Addr):Prop where
 ga:findIn K ⇑D "__getattribute__"= ↑(some (.builtin "BaseException.__getattribute__"))
 gt:findIn K ⇑D "__getattr__"= ↑none
 dct:hasDictIn K D=true
 a:findIn K ⇑D "__class__"= ↑(some (.builtin "object.__class__"))
 n:specialIn K (.builtin "object.__class__") "__get__"= ↑(some (.builtin "getset_descriptor.__get__"))
 tk:takesIn K (.builtin "object.__class__")= ↑true
 m:mroIn K D (.type "object")= ↑true
 b:mroIn K D (.type "BaseException")= ↑true
theorem B6{s:Shared}(X:K.In s.heap)(d:Looks (model prog w) s.heap (typeOf ⇑x) ⇑D)(a:mroIn K D (.type "object")= ↑true)
  (h:R (.ok (.ret ⇑D)) s):codeAny (model prog w) A (.call (.builtin "getset_descriptor.__get__") ([.builtin "object.__class__",⇑x,e],[])) R s:=by
 let(f,g,dr,t,os):=s;have i:=looks_mroIn (M:=model prog w) X a;refine QU KF.slot_gs.plain KF.entry_gs ?_;refine KF.slot_gs.check _ _ _ _ _ _ _ _ KF.type_class (KF.args_gs _ _ _) ?_;unfold «getset_descriptor.__get__»;unfold descrGet;rw[dga_obj];refine xd (Nv ?_);unfold descrGetter descrCheckInstance;unfold descrNameAndClass isInstance;simp only[KF.owner_class]
 repeat lk
 refine(Code.quiet_builtin _ ⋯,?_);refine PM KF.entry_class ?_;unfold Builtin.«object.__class__» shownTypeOf
 repeat lk
 exact h
theorem yW(X:K.In h)(d:kn K D):Looks M h (Builtin.ObjectAttr.find ⇑x ⇑D "__class__") (.bind (.builtin "getset_descriptor.__get__") (.builtin "object.__class__")):=by have e:=looks_findIn (M:=M) X d.a;have L2:Looks M h (Builtin.ObjectAttr.getOf ↑(.builtin "object.__class__")) ↑(.builtin "getset_descriptor.__get__"):=looks_specialIn X d.n;have f:=looks_takesIn (M:=M) X d.tk;unfold Builtin.ObjectAttr.find;refine e.andThen (L2.andThen ?_);unfold Builtin.ObjectAttr.dataDescriptor?;refine Looks.andThen (a:= ↑(.builtin "getset_descriptor.__get__",.builtin "object.__class__")) (f.andThen .now) ?_;exact Looks.tag .now
theorem wK{s:Shared}(X:K.In s.heap)(e:Looks (model prog w) s.heap (typeOf ⇑x) ⇑D)(a:kn K D)
  (h:Q ↑⇑D {s with toks:=s.toks+1}):wpAny (model prog w) A (getAttr? ⇑x "__class__") Q E s:=by
 let(f,g,d,t,os):=s;have i:=looks_findIn (M:=model prog w) X a.ga;have L2:=looks_findIn (M:=model prog w) X a.gt;have j:=yW (M:=model prog w) (x:=x) X a;have k:Looks (model prog w) f (isInstance ⇑x (.type "BaseException")) true:=e.andThen (looks_mroIn X a.b);unfold getAttr? getAttrBy? getAttrBy;refine xd (wpAny_mkText (xd (PD (Ox ?_))));refine xd (e.at ?_);refine xd (i.at ?_);show wpAny _ _ (getAttrByItsOwn _ _ _ _ _ _) _ _ _;unfold getAttrByItsOwn hookBefore;refine xd ?_;show wpAny _ _ (typeLookup ⇑D "__getattr__") _ _ _;refine L2.at (xd (PD (Ox ?_)));show wpAny _ _ (boundAndCalled _ _ _) _ _ _;unfold boundAndCalled;rw[xQ];refine xd (Nv (PN ?_));refine QU F.attr_ValueError.ga.plain F.entry_bexc_ga (@check_slot (model prog w) _ _ _ "BaseException.__getattribute__" "BaseException" "__getattribute__" ⇑x _ [] _ ⋯ ⋯ k (F.args_bexc_ga _ _) ?_);refine xd (Nv (xd (Nv (xd (e.at (xd (j.at ?_)))))));show wpAny _ _ (holding [Value.builtin "object.__class__"] (call (.builtin "getset_descriptor.__get__") [.builtin "object.__class__",⇑x,⇑D]) >>= ret) _ _ _;refine xd (Ox (PN (B6 (s:=(f,g,d,t+1,os)) X e a.m ?_)));refine Nv ?_;refine handed_on rfl ?_;exact Nv h
end
noncomputable def je(x:Addr)(D:Addr):HO:=.ext λh=>∃a,h.get? x= ↑a/\a.cls= ⇑D
theorem yv{h:Heap}{D:Addr}(q:∃a,h.get? x= ↑a/\a.cls= ⇑D):Looks M h (typeOf ⇑x) ⇑D:=by let(a,d,e):=q;rw[<- e];exact(Looks.ld d).andThen .now
theorem yX{K:Frag}{D:Addr}(d:kn K D):KitX K ⇑x ⇑D (λh=>∃m,h.get? x= ↑m/\m.cls= ⇑D) where
 ty:=λ_ _ _ q=>yv q
 it:=λ_ _ X _=>by
  let(e,a,_):=any_some d.dct;unfold clsIn at a;split at a
  ·rename_i p r f g i;intro u v w y k q;unfold isType loadHead;have j:=k _ _ (X _ _ i);exact xd (wpAny_loadPart j (Nv q))
  ·cases a
 ne:=λh B E t n G X l=>by
  let(e,a,_):=any_some d.dct;refine Rj.mpr λq=>?_;cases beq_iff_eq.mp q;unfold clsIn at a;split at a
  ·rename_i p r f g i;have z:=(X _ _ i).symm.trans l;cases z
  ·cases a
 ca:=λX q k=>wK X (yv q) d k
theorem tF{X:Cx}{a:qa}{d:St}{H:Hp}{s:Shared}{A:Around}{E:ql}{Q:ql}{c:Value}{b:Bool}{x D:Addr}(I:Inv X a d H s)(f:H x= ↑(je x D))(g:kn X.K D)
  (e:kitOne X.K ⇑D c= ↑b) (h:∀i,Q (.bool b) {s with toks:=i}):wpAny (model X.prog X.w) A (call (.builtin "isinstance") [⇑x,c]) Q E s:=by
 let(q,_,_):=(show RD X.prog X.w H s.heap x (je x D) from I.hok x _ f)
 exact kia_one (yX g) I.Se q e (λz=>nomatch z) h
section
theorem SK.Wy(d:SK P w H h)(g:H a=none)(new:RD P w (upd H a o) h a o):SK P w (upd H a o) h:=λb u e=>by
 by_cases f:b=a
 ·subst f;rw[ak]at e;cases e;exact new
 ·rw[ao f]at e;exact(d b u e).stay (λ_ _ _ q=>q) λc q=>by rw[ao (bo q g)];exact q
theorem Inv.Wy{X:Cx}{d:qa}{g:St}{H e:Hp}{s f:Shared}{a:Addr}{o:HO}(I:Inv X d g H s)(J:Inv X d g e f)(un:Un (frs X.stack) [] H e s.heap f.heap)(sa:s.heap.get? a=none)(i:e a=none)(new:RD X.prog X.w (upd e a o) f.heap a o):Inv X d g (upd e a o) f:=by
 have nb:∀b u,s.heap.get? b= ↑u->b≠a:=λb u q z=>by rw[z,sa]at q;cases q
 refine I.UL (ch:=[]) (J.os.trans I.os.symm) (un.keep,un.slot,λb u q n j=>by rw[ao (nb b u q)];exact un.free b u q n j,un.there,λb u k q=>?_) (J.hok.Wy i new) J.bare (λb z=>absurd z (by simp));have z:=un.T9 b u k q;rw[ao (bo z i)];exact z
theorem Inv.gone{X:Cx}{a:qa}{j:St}{H:Hp}{s:Shared}{M:Model}{A:Around}{E:ql}{i:Nat}{n:Str}{d:Pos}{Q:Unit->Shared->Prop}(I:Inv X a j H s)(l:X.N.Nodup)(p:X.N[i]?= ↑n)(hl:X.env.kindOf n=some .local)
  (h:∀k,Inv X a (j.set i none) H k->Q () k):wpAny M A (do bindName X.env n .none;unbindBehindTheSuite X.env n d) Q E s:=by
 let(m,q,f):=id I.loc;exact wpAny_nameGoes_keeps hl q (by rw[I.ok.kind];rfl) λr v g hs=>h _ (I.Wo l p hl f g hs λ_ e=>nomatch e)
end
noncomputable def Ends.gone(D:Ends)(i:Nat):Ends:={nx:=λa H=>D.nx (a.set i none) H,rt:=D.rt,bk:=λa H=>D.bk (a.set i none) H,ct:=λa H=>D.ct (a.set i none) H}
end L2
namespace L2
open PySem PySem.Spec PySem.Calls PyProof.Rows
section
variable{P:Program}{w:World}{K:qs}{mg:za}{base:Heap}
structure To(k:Nat)(A:Around):Prop where
 dp:A.depth+3*k+5<recursionLimit
 un:A.units+16*k+200<cLine
theorem RE.h(r:RE k A):To k A:=(r.dp,r.un)
theorem To.mark(r:To k A):To k (A.mark e):=(r.dp,r.un)
theorem To.deeper(r:To (k+1) A)(env:Env):To k (A.deeper env) :=
 (by have:=r.dp;show A.depth+1+3*k+5<_;lia,by have:=r.un;show A.units+3+16*k+200<_;lia)
structure xH(P:Program)(w:World)(K:qs)(mg:za)(base:Heap)(k:Nat)(f:Addr)(fd:FuncData)(ps:zl)(sp:Sp):Prop where
 len:∀vs H Q E,sp vs H Q E->vs.length=ps.length
 run:∀(A:Around)(outer:List Env)(s:Shared)(H:Hp)(args:Args)(us:qw)(vs:List V)(Q:VK)(E:XK),To k A->Ua P w K mg base A outer s H->BindsTo s fd args (ps.zip us)->Vals vs us->sp vs H Q E ->
  codeAny (model P w) A (.call ⇑f args) (CR Xf outer P w H s Q E) s
noncomputable def Cx.VD(X:Cx):Cx:={X with calm:=false,xe:=λ_ _=>False}
theorem Va.okH{st:Stmt}(F:Va K x qual st f fd)(S:RM N B (ag st))(len:∀i H Q E,U i H Q E->i.length=B.length)
  (m:∀(d:Value)(A:Around)(outer:List Env)(s:Shared)(H:Hp)(i:List V)(Q:VK)(E:XK),To k (A.deeper (envOfC qual (ag st) s.heap.objs.size f d))->U i H Q E ->
   ∃t,Su (dQ Xf P w K mg base N qual (ag st) f d A outer s H E).VD (bh st) t/\t {nx:=λ_ l=>Q .Ro l,rt:=Q} (start N i) H):xH P w K mg base (k+1) f fd B U:=by
 let(oc,od,kV,doc,pm,an,d,ct,osl,rfl,lk,G):=F.ex;refine(len,λA outer s H args us i Q E Y g hb r Vy=>?_);have hl:=len _ _ _ _ Vy;have KX:K.In s.heap:=g.mod.WJ.keeps λb o e=>(g.bs b o e).1;have L:s.heap.NoLimit:=g.mod.nolimit.keeps λb o e=>(g.bs b o e).1
 have p:∀y∈B.zip us,(ag st).names.lookup y.1=some .local\/((ag st).names.lookup y.1=some .cell/\((cellsFrom (s.heap.objs.size+1) (ag st).names []).lookup y.1).isSome=true):=λ⟨n,v⟩ hy=>by
  rcases S.par n (QB hy).1 with q|q
  ·exact .inl q
  ·exact .inr (q,Qo _ _ _ (.inl q))
 refine codeAny_call_function (by have:=Y.dp;lia) (KX _ _ lk) rfl S.co S.gen rfl (W.codeRec_of KX G) (hb _ _ _ _ ?_);refine wpAny_newFunctionEnv_cells S.kind p λenv he M x=>?_;subst he;refine(L.keeps x.toInCall.keep,codeAny_func ?_);let(t,ht,hq):=m d A outer s H i Q E (Y.deeper _) Vy;have e1:Ua P w K mg base {A with handled:=none} outer s H:=(g.frames,g.mod,g.bs,g.VP,g.S8,g.Wg,g.hok,g.bare)
 have a:Inv (dQ Xf P w K mg base N qual (ag st) f d {A with handled:=none} outer s H E) [] (start N i) H M:=ng S rfl e1 hl r x
 have I:Inv (dQ Xf P w K mg base N qual (ag st) f d A outer s H E).VD [] (start N i) H M :=
  ⟨(a.ok.mod,a.ok.kind,a.ok.glob,a.ok.blt,a.ok.above,a.ok.inj,a.ok.has,a.ok.Xv,(λz=>nomatch z),Around.frames_deeper g.frames,a.ok.stk,a.ok.XW,a.ok.bs,a.ok.VP,a.ok.Vd,a.ok.Ve,a.ok.S8,a.ok.Wg),
   a.os,a.bare,a.base,a.loc,a.cell,a.free,a.R7,a.pin,a.hok,a.len⟩
 refine O3 (ht [] M (start N i) H _ I hq) (λfl O hs=>?_) λe O hs=>hs.elim
 have fin:∀{j:St}{l:Hp}{v:V}{u:Value},Inv (dQ Xf P w K mg base N qual (ag st) f d A outer s H E).VD [] j l O->RelV v u->Q v l->CE outer P w H s Q u O :=
  λ{j l v u} J T q=>(v,l,J.os,J.bare,J.base,J.hok,T,q)
 cases fl with
 |ret u =>let(v,j,l,J,T,q):=hs;exact fin J T q
 |next =>let(j,l,J,q):=hs;exact fin (v:=V.Ro) (u:=Value.none) J rfl q
 |brk =>let(_,_,_,q):=hs;exact False.elim q
 |cont =>let(_,_,_,q):=hs;exact False.elim q
end
section
theorem z0{X:Cx}(F:xH X.prog X.w X.K X.mg X.base k f M B N)(O:To k X.A)(T:Gl X x)(U:X.mg x= ↑⇑f)(hk:W.keepIn X.K ⇑f=true)(Y:Binds X.K M B j)(hd:Vals v j)
  (ha:PA X (e::l) t) (y:(x==("__debug__":Str))=false:=by decide) (he:starEach (e::l) X.env=(false,eval e X.env)::starEach l X.env:=by rfl) (z:(backTo a (starEach l X.env)).any (·.1)=false:=by rfl) :
  PE X (.Call (.Name x p) (e::l) [] a) (vS N v E t):=by
 intro d s σ H Q I h;refine OQ (dj I T U ?_ y);refine Rl (h₀:=X.base) I.ok.mod.WJ hk (RA (ha a d s σ H _ I h) λg G ⟨J,H1,m,r,q⟩=>(m.Se,?_)) he z;have L:Vals (J++v) (g++j):=r.append hd;have hl:(g++j).length=B.length:=by rw[<- L.length];exact F.len _ _ _ _ q
 refine PN (OJ (F.run X.A X.stack G H1 (g,[]) (g++j) (J++v) Q E O m.V3 (Y G g m.Se hl) L q) λr s' i=>?_)
 cases r with
 |error e=>exact False.elim i
 |ok fl =>
  cases fl with
  |ret u=>exact m.after i
  |next=>exact False.elim i
  |brk=>exact False.elim i
  |cont=>exact False.elim i
end
noncomputable def YA(bs:List Bool):List V:=bs.map V.bl
theorem pU:∀{bs:List Bool}{a:qw},Vals (YA bs) a->a=bs.map Value.bool
 |[],_,.nil=>rfl
 |b::bs,_,.cons r t=>by have e:=pU (bs:=bs) t;rw[e,show _=Value.bool b from r];rfl
theorem lO:∀(bs:List Bool),∃a,ReadsAll h (bs.map Value.bool) (bs.map PyData.bool) a
 |[]=>(_,.nil)
 |b::bs=>let⟨_,r⟩:=lO bs;(_,.cons (.bool b) r)
theorem sE:∀(bs:List Bool),(bs.map PyData.bool).all Shape.bool.has=true
 |[]=>rfl
 |b::bs=>by rw[NR,Og,sE bs];rfl
theorem qu:∀(bs:List Bool),(bs.map Value.bool).countP (isBoolOf true)=bs.count true
 |[]=>rfl
 |b::bs=>by rw[NR,List.countP_cons,qu bs,List.count_cons];cases b<;>rfl
section
theorem wQ:Wt X "list.count" (λx a H Q=>∃l bs,x= ⇑l/\a=[.bl true]/\H l= ↑(.lst (YA bs))/\Q (.int (bs.count true:Nat)) H):=by
 intro d s p H x a v t Q I f g h;let(l,bs,rfl,rfl,i,q):=h;cases f;let(u,rfl,j):=bM g;obtain rfl:u=Value.bool true:=j;let(_,k,n,r,e):=(show RD X.prog X.w H s.heap l (.lst (YA bs)) from I.hok l _ i)
 obtain rfl:=pU r;let(z,m):=lO (h:=s.heap) bs;refine QJ F.slot_list_count (_,e,rfl) F.entry_list_count (F.args_list_count_2 _ _) (SeqAt.list_countAt l (bs.map Value.bool).toArray n none #[] (.bool true) (isBoolOf true)) (e,λy hy=>eq_isBoolOf true m (sE bs) y (by simpa using hy) _ _,?_);rw[show ∀(x:qw),x.toArray.toList=x from λ_=>rfl,qu];exact(.int _,H,I.tok _,(_,rfl),q)
theorem wR:Wt X "list.index" (λx k H Q=>∃l bs j,x= ⇑l/\k=[.bl true]/\H l= ↑(.lst (YA bs))/\bs.length<=1000/\bs[j]?= ↑true/\(∀m,m<j->bs[m]?= ↑false)/\Q (.int (j:Nat)) H):=by
 intro p s O H x k v T Q I z B h;let(l,bs,j,rfl,rfl,E,t,G,a,q):=h;cases z;let(u,rfl,J):=bM B;obtain rfl:u=Value.bool true:=J;let(_,L,n,r,e):=(show RD X.prog X.w H s.heap l (.lst (YA bs)) from I.hok l _ E)
 obtain rfl:=pU r;let(U,M):=lO (h:=s.heap) bs;let(d,f):=LD.mp G;refine QJ Qk (_,e,rfl) F.entry_list_index (F.args_list_index_2 _ _) (SeqAt.list_indexAt l (bs.map Value.bool).toArray n none #[] (.bool true) (isBoolOf true) j (by simpa using d) ⋯ ?_ ?_) (e,λy hy=>eq_isBoolOf true M (sE bs) y (by simpa using hy) _ _,?_)
 ·simp[f,isBoolOf]
 ·intro m Y g;let(N,i):=LD.mp (a m g);simp[i,isBoolOf]
 ·exact(.int _,H,I.tok _,(_,rfl),q)
end
noncomputable def clV:V->Value
 | .ref a=>⇑a
 | .ty n=>.type n
 |_=>.none
noncomputable abbrev GO(K:qs):List V->Hp->VK->Prop:=λd H Q=>∃x D c b,d=[⇑x,c]/\((∃a,c= ⇑a)\/∃n,c=.ty n)/\H x= ↑(je x D)/\kn K D/\W.kitOne K ⇑D (clV c)= ↑b/\Q (.bl b) H
theorem kC:bE X (.builtin "isinstance") (GO X.K):=by
 intro d s m H p t Q I r h;let(x,D,c,b,rfl,g,i,j,e,q):=h
 cases r with
 |cons k rt =>
  let(u,rfl,f):=bM rt;obtain rfl:=(show _=Value.ref x from k)
  have l:u=clV c:=by
   rcases g with⟨a,rfl⟩|⟨n,rfl⟩
   ·exact f
   ·exact f
  subst l;exact tF I i j e λv=>(.bl b,H,I.tok _,rfl,q)
section
theorem wZ{X:Cx}(F:Rt X.prog X.w X.K X.mg X.base CX k f fd O sp)(hr:RE k X.A)(hg:Gl X x)(hm:X.mg x= ↑⇑f)(hk:W.keepIn X.K ⇑f=true)(T:eK X.K fd O ks g U)(hx:aY CX X E)
  (ha:PA X (e::y) t) (G:PK X i tk) (l:(backToKw a (keywordEach i X.env)).all (·.1.isSome)=true:=by rfl) (J:(backToKw a (keywordEach i X.env)).filterMap (·.1)=ks:=by rfl)
  (L:(x==("__debug__":Str))=false:=by decide) (he:starEach (e::y) X.env=(false,eval e X.env)::starEach y X.env:=by rfl)
  (M:((backTo a (starEach (e::y) X.env)).any (·.1)||(backToKw a (keywordEach i X.env)).any (·.1.isNone))=false:=by rfl) :
  PE X (.Call (.Name x p) (e::y) i a) (λj=>GZ sp U (E j) t tk j):=by
 intro d s j H Q I h;refine OQ (dj I hg hm ?_ L);refine W.callWith_KW (h₀:=X.base) I.ok.mod.WJ hk l (RA (ha a d s j H _ I h) λz s1 ⟨vs,H1,I1,r,q⟩=>?_) M he;refine RA (G a d s1 j H1 _ I1 q) λB N ⟨zs,Y,m,rz,q2⟩=>(m.Se,?_)
 rw[J];have r2:=T.rel r rz;have hl:(g z B).length=O.length:=by rw[<- r2.length];exact F.len _ _ _ _ q2
 refine PN (OJ (F.run X.A X.stack N Y (z,ks.zip B) (g z B) (U vs zs) Q (E j) hr m.V3 (T.to N z B m.Se hl) r2 q2) λr s' v=>?_)
 cases r with
 |error e=>exact hx d j Y N e s' m v
 |ok fl =>
  cases fl with
  |ret u=>exact m.after v
  |next=>exact False.elim v
  |brk=>exact False.elim v
  |cont=>exact False.elim v
end
end L2
namespace L2
open PySem PySem.Spec PySem.Calls PyProof.Rows PySem.W PySem.Builtin PySem.Builtin.ObjectAttr
section
end
end L2
namespace L2
open PySem PySem.Spec PySem.Calls PyProof.Rows
noncomputable abbrev bY(h:Heap)(it t:Addr)(i:Nat):Prop:=h.get? it=some {cls:=.type "tuple_iterator",dict:=none,data:=.fields #[⇑t,rawInt i],slots:=#[]}
section
theorem lZ{s:Shared}(f:bY s.heap it t i)(g:s.heap.IsTuple t a)(j:a[i]?= ↑x)
  (q:∀d,bY d it t (i+1)->Heap.SameBut it s.heap d->Q x {s with heap:=d}):wpAny (model prog w) A (Builtin.SmallTypes.nextOf ⇑it) Q E s:=by
 have ty:s.TypeIs ⇑it "tuple_iterator":=(_,f,rfl)
 let((c2,d2,k,r),g,l,n,m):=g;obtain rfl:c2=.type "tuple":=l;obtain rfl:k=.seq a n:=m;unfold Builtin.SmallTypes.nextOf;refine xd (OD (name:=Str.ofString "__next__") ty Pn (OR Pn ty F.entry_tuple_iterator_next ?_ (F.args_tuple_iterator_next_1 _)));let(h0,g0,u,v,y):=s;unfold bY rawInt at f
 wp_walk
 rw[Int.toNat_natCast,j];refine xd (OZ f (by simp) λd b1 p=>Nv (x,rfl,Nv (q d ?_ p)));show d.get? it= ↑_;have e:((i+1:Nat):Int)=(i:Int)+1:=by lia
 rw[e];exact b1
theorem uy{A:Around}{s:Shared}(j:A.handled=none)(f:bY s.heap it t i)(g:s.heap.IsTuple t a)(k:a[i]?=none)
  (q:∀d e,Heap.ExtBut it s.heap d->(∃o,d.get? e= ↑o/\o.cls=.type "StopIteration")->E ⇑e {s with heap:=d}):wpAny (model prog w) A (Builtin.SmallTypes.nextOf ⇑it) Q E s:=by
 have ty:s.TypeIs ⇑it "tuple_iterator":=(_,f,rfl)
 let((c2,d2,l,u),g,m,n,p):=g;obtain rfl:c2=.type "tuple":=m;obtain rfl:l=.seq a n:=p;unfold Builtin.SmallTypes.nextOf;refine xd (OD (name:=Str.ofString "__next__") ty Pn (OR Pn ty F.entry_tuple_iterator_next ?_ (F.args_tuple_iterator_next_1 _)));let(h0,g0,v,y,z):=s;unfold bY rawInt at f
 wp_walk
 rw[Int.toNat_natCast,k];refine xd (Qz (xd (OZ f (by simp) λd b1 r=>?_)));unfold Builtin.SmallTypes.stopIteration
 wp_walk
 exact wpAny_raiseNew_none j (q _ _ ((r.extBut.push _).push _) (_,NG _ rfl,rfl))
noncomputable abbrev AW(t:Addr):Obj:={cls:=.type "tuple_iterator",data:=.fields #[⇑t,.int 0 0]}
theorem xG{A:Around}{s:Shared}{TI TO t1:Addr}{Q:ql}(B:IsZip s.heap z TI TO .none)(hI:IsPair s.heap TI ⇑f ⇑d)(hO:IsPair s.heap TO a b)(h1:bY s.heap f t1 k)(h2:bY s.heap d i k)
  (l1:s.heap.IsTuple t1 xs) (l2:s.heap.IsTuple i T) (hx:xs[k]?= ↑x) (hy:T[k]?= ↑y) (D:ZipApart z TI TO f d t1 i)
  (q:∀p,IsZip p z TI TO (rawInt s.heap.objs.size)->IsPair p TO x y->bY p f t1 (k+1)->bY p d i (k+1)->p.get? s.heap.objs.size=some {cls:=.type "tuple",data:=.seq #[x,y]} ->
   (∀b o,b≠z->b≠TO->b≠f->b≠d->s.heap.get? b= ↑o->p.get? b= ↑o)->Q ⇑s.heap.objs.size {s with heap:=p}):wpAny (model prog w) A (Builtin.«zip.__next__» ⟨[⇑z],[]⟩) (λfin s'=>∃v,fin=.done (.ret v)/\Q v s') E s:=by
 show wpAny _ _ (field ⇑z 2 >>= _) _ _ _;refine xd (O1 B rfl rfl ?_);show wpAny _ _ (field ⇑z 3 >>= _) _ _ _;refine xd (O1 B rfl rfl ?_);refine xd (Qd hI rfl ?_);refine xd (xd (O1 B rfl rfl (Nv ?_)));refine xd (Qz ?_);refine xd (O1 B rfl rfl ?_);refine xd (OZ B (by simp) λj U sa=>?_)
 replace U:IsZip j z TI TO .ellipsis:=U
 rw[show(#[Value.ref f,Value.ref d]:Array Value).toList.zipIdx=[(⇑f,0),(⇑d,1)] from rfl,QN];have Y:bY j f t1 k:=(sa.2 f D.i1z).trans h1;have h2a:bY j d i k:=(sa.2 d D.i2z).trans h2;have l1a:j.IsTuple t1 xs:=l1.extBut sa.extBut D.l1z;have l2a:j.IsTuple i T:=l2.extBut sa.extBut D.l2z;have hOa:IsPair j TO a b:=(sa.2 TO D.TOz).trans hO;refine xd (xd (xd (wpAny_onRaise (xd (lZ (s:={s with heap:=j}) Y l1a hx λH h1b l=>Nv ?_)))))
 replace l:Heap.SameBut f j H:=l
 have I:IsPair H TO a b:=(l.2 TO D.TOi1).trans hOa;refine xd (Qd (s:={s with heap:=H}) I rfl ?_);refine xd (wpAny_updateSeq_pair (s:={s with heap:=H}) I λG r m=>?_)
 replace m:Heap.SameBut TO H G:=m
 replace r:IsPair G TO x b:=r
 refine xd (wpAny_letGo (Nv ?_));have h2c:bY G d i k:=(m.2 d (OB D.TOi2)).trans ((l.2 d (OB D.i12)).trans h2a);have l2c:G.IsTuple i T:=(l2a.extBut l.extBut D.l2i1).extBut m.extBut D.l2TO;show wpAny _ _ (forIn [Prod.mk (Value.ref d) 1] _ _) _ _ _;rw[QN];refine xd (xd (wpAny_onRaise (xd (lZ (s:={s with heap:=G}) h2c l2c hy λJ h2d t=>Nv ?_))))
 replace t:Heap.SameBut d G J:=t
 have L:IsPair J TO x b:=(t.2 TO D.TOi2).trans r;refine xd (Qd (s:={s with heap:=J}) L rfl ?_);refine xd (wpAny_updateSeq_pair (s:={s with heap:=J}) L λg O u=>?_)
 replace u:Heap.SameBut TO J g:=u
 replace O:IsPair g TO x y:=O
 refine xd (wpAny_letGo (Nv ?_));show wpAny _ _ (forIn [] _ _) _ _ _;rw[List.forIn_nil];refine Nv ?_;show wpAny _ _ (seqItems? ⇑TO >>= _) _ _ _;refine xd (Qd (s:={s with heap:=g}) O rfl ?_);refine xd (wpAny_newTuple ?_);have M:g.objs.size=s.heap.objs.size:=by rw[u.1,t.1,m.1,l.1,sa.1]
 have ze:IsZip g z TI TO .ellipsis:=(u.2 z (OB D.TOz)).trans ((t.2 z (OB D.i2z)).trans ((m.2 z (OB D.TOz)).trans ((l.2 z (OB D.i1z)).trans U)));have zf:IsZip (g.push {cls:=.type "tuple",data:=.seq #[x,y]}) z TI TO .ellipsis:=Ar _ ze;have tf:(g.push {cls:=.type "tuple",data:=.seq #[x,y]}).get? s.heap.objs.size=some {cls:=.type "tuple",data:=.seq #[x,y]}:=OU M.symm rfl;have of:IsPair (g.push {cls:=.type "tuple",data:=.seq #[x,y]}) TO x y:=Ar _ O;have f1:bY (g.push {cls:=.type "tuple",data:=.seq #[x,y]}) f t1 (k+1):=Ar _ ((u.2 f (OB D.TOi1)).trans ((t.2 f D.i12).trans ((m.2 f (OB D.TOi1)).trans h1b)));have f2:bY (g.push {cls:=.type "tuple",data:=.seq #[x,y]}) d i (k+1):=Ar _ ((u.2 d (OB D.TOi2)).trans h2d)
 have kf:∀b o,b≠z->b≠TO->b≠f->b≠d->s.heap.get? b= ↑o->(g.push {cls:=.type "tuple",data:=.seq #[x,y]}).get? b= ↑o:=λb o n1 n2 n3 n4 e =>
  Ar _ ((u.2 b n2).trans ((t.2 b n4).trans ((m.2 b n2).trans ((l.2 b n3).trans ((sa.2 b n1).trans e)))))
 generalize g.push {cls:=.type "tuple",data:=.seq #[x,y]}=hf at zf tf of f1 f2 kf;have lz:z<s.heap.objs.size:=NW B;show wpAny _ _ (Builtin.SmallTypes.ownedTupleHandOut ⇑z ⇑g.objs.size >>= _) _ _ _;rw[M];refine xd (xd (OZ (s:={s with heap:=hf}) zf (by simp) λhg zg sg=>OZ (s:={s with heap:=hg}) zg (by simp) λhh zh sh=>Nv (_,rfl,?_)))
 replace sg:Heap.SameBut z hf hg:=sg
 replace sh:Heap.SameBut z hg hh:=sh
 have N:∀b,b≠z->hh.get? b=hf.get? b:=λb n=>(sh.2 b n).trans (sg.2 b n);refine q hh zh ?_ ?_ ?_ ?_ λb o n1 n2 n3 n4 e=>(N b n1).trans (kf b o n1 n2 n3 n4 e)
 ·exact(N TO D.TOz).trans of
 ·exact(N f D.i1z).trans f1
 ·exact(N d D.i2z).trans f2
 ·exact(N _ (Pb lz)).trans tf
theorem xF{A:Around}{s:Shared}{TI TO t1:Addr}(L:A.handled=none)(g:IsZip s.heap z TI TO .none)(M:IsPair s.heap TI ⇑d ⇑m)(hO:IsPair s.heap TO a b)(h1:bY s.heap d t1 k)
  (N:s.heap.IsTuple t1 H) (O:H[k]?=none) (D:ZipApart z TI TO d m t1 t2)
  (q:∀p e,(∀b o,b≠z->b≠d->s.heap.get? b= ↑o->p.get? b= ↑o)->(∃o,p.get? e= ↑o/\o.cls=.type "StopIteration")->E ⇑e {s with heap:=p}):wpAny (model prog w) A (Builtin.«zip.__next__» ([⇑z],[])) Q E s:=by
 show wpAny _ _ (field ⇑z 2 >>= _) _ _ _;refine xd (O1 g rfl rfl ?_);show wpAny _ _ (field ⇑z 3 >>= _) _ _ _;refine xd (O1 g rfl rfl ?_);refine xd (Qd M rfl ?_);refine xd (xd (O1 g rfl rfl (Nv ?_)));refine xd (Qz ?_);refine xd (O1 g rfl rfl ?_);refine xd (OZ g (by simp) λi r sa=>?_)
 replace r:IsZip i z TI TO .ellipsis:=r
 rw[show(#[Value.ref d,Value.ref m]:Array Value).toList.zipIdx=[(⇑d,0),(⇑m,1)] from rfl,QN];have t:bY i d t1 k:=(sa.2 d D.i1z).trans h1;have u:i.IsTuple t1 H:=N.extBut sa.extBut D.l1z;refine xd (xd (xd (wpAny_onRaise (xd (uy (s:={s with heap:=i}) L t u O λv e l T=>?_)))))
 replace l:Heap.ExtBut d i v:=l
 have I:IsZip v z TI TO .ellipsis:=l z _ (OB D.i1z) r;let(U,f,j):=T;have B:e≠z:=λy=>by rw[y,I]at f;cases f;simp at j
 refine OZ (s:={s with heap:=v}) I (by simp) λY zc J=>q Y e (λb o n1 n2 G=>?_) (U,(J.2 e B).trans f,j);exact(J.2 b n1).trans (l b o n2 ((sa.2 b n1).trans G))
end
theorem Bo(t1 d:Addr)(f g:Array Value) :
  Meets (Builtin.«zip.__new__» ([.type "zip",⇑t1,⇑d],[])) (λ_ R s=>s.heap.IsTuple t1 f/\s.heap.IsTuple d g /\
   ∀a,IsZip a (s.heap.objs.size+4) (s.heap.objs.size+2) (s.heap.objs.size+3) .none->IsPair a (s.heap.objs.size+2) ⇑s.heap.objs.size ⇑(s.heap.objs.size+1)->IsPair a (s.heap.objs.size+3) .none .none ->
    bY a s.heap.objs.size t1 0->bY a (s.heap.objs.size+1) d 0->(∀b o,s.heap.get? b= ↑o->a.get? b= ↑o)->R (.ok (.ret ⇑(s.heap.objs.size+4))) {s with heap:=a}) :=
 .of_wp λ_ _ _ _ s q=>by
  let(h0,g0,i,j,k):=s;let(l,m,q):=q;have r:=sub_zip;have b1:Heap.IsTuple (Shared.heap (h0,g0,i,j,k)) t1 f:=l;have p:Heap.IsTuple (Shared.heap (h0.push (AW t1),g0,i,j,k)) d g:=Heap.IsTuple.push m _
  wp_walk using Q8 b1,Q8 p
  refine(_,rfl,?_);have n1:(h0.push (AW t1)).objs.size=h0.objs.size+1:=N8 _ _;simp only[N8];refine q _ ?_ ?_ ?_ ?_ ?_ λb o e=>?_
  ·exact OU (by simp[N8]) rfl
  ·exact Ar _ (Ar _ (OU (by simp[N8]) rfl))
  ·exact Ar _ (OU (by simp[N8]) rfl)
  ·exact Ar _ (Ar _ (Ar _ (Ar _ (OU (by simp[N8]) rfl))))
  ·exact Ar _ (Ar _ (Ar _ (OU (by simp[N8]) rfl)))
  ·exact Ar _ (Ar _ (Ar _ (Ar _ (Ar _ e))))
theorem wd{s:Shared}(f:s.heap.IsTuple t1 g)(i:s.heap.IsTuple d j)
  (q:∀a,IsZip a (s.heap.objs.size+4) (s.heap.objs.size+2) (s.heap.objs.size+3) .none->IsPair a (s.heap.objs.size+2) ⇑s.heap.objs.size ⇑(s.heap.objs.size+1)->IsPair a (s.heap.objs.size+3) .none .none ->
   bY a s.heap.objs.size t1 0->bY a (s.heap.objs.size+1) d 0->(∀b o,s.heap.get? b= ↑o->a.get? b= ↑o)->Q ⇑(s.heap.objs.size+4) {s with heap:=a}):wpAny (model prog w) A (call (.type "zip") [⇑t1,⇑d]) Q E s :=
 callType_new F.called_zip ⋯ (F.typeCall_zip_2 _ _) (F.newCall_zip_2 _ _) (λo=>F.args_object_init_3 o _ _) F.entry_zip_new (Bo t1 d g j) (f,i,λa e k l m p r=>((_,e,rfl),q a e k l m p r))
noncomputable def Itz(K:qs)(a b:Addr)(d e:List V):It:=(λi H=>i<d.length/\i<e.length/\RW K H a d/\RW K H b e,λi H x f=>∃p u v,H p=none/\x= ⇑p/\d[i]?= ↑u/\e[i]?= ↑v/\f=upd H p (.tup [u,v]),λi H=>i=d.length/\RW K H a d)
theorem A3{K:qs}{c1}(a b z TI TO m p:Addr)(B G:List V)(D:ZipApart z TI TO m p a b):iu P w K (.Tuple elts c1 ps) (Itz K a b B G) [z,TI,TO,m,p] z
  (λi h=>∃c d,IsZip h z TI TO .none/\IsPair h TI ⇑m ⇑p/\IsPair h TO c d/\bY h m a i/\bY h p b i) where
 mem:=by simp
 obj:=λi h ⟨c,d,g,l,r,t,J⟩ b f=>by
  simp only[NB,NU,Ou]at f;rcases f with rfl|rfl|rfl|rfl|rfl
  ·exact(_,g,λv e=>by cases e)
  ·exact(_,l,λv e=>by cases e)
  ·exact(_,r,λv e=>by cases e)
  ·exact(_,t,λv e=>by cases e)
  ·exact(_,J,λv e=>by cases e)
 keep:=λi h N ⟨c,d,g,l,r,t,J⟩ k=>(c,d,k z (by simp) _ g,k TI (by simp) _ l,k TO (by simp) _ r,k m (by simp) _ t,k p (by simp) _ J)
 item:=by
  intro X O U Y hc i j s σ H E I L st hg;subst O U Y;let(c,d,g,l,r,t,J):=st;let(hi,hj,ha,f):=hg;let(us,ru,pu,_):=I.tuple ha;let(vs,rv,pv,_):=I.tuple f;have hx:B[i]?=some B[i]:=Nz hi;have hy:G[i]?=some G[i]:=Nz hj;let(u,hu,r1):=ru.get hx;let(v,hv,r2):=rv.get hy;have ty:s.TypeIs ⇑z "zip":=(_,g,rfl)
  unfold pyNext;refine xd (PD (OD (name:=Str.ofString "__next__") ty QV (OR QV ty F.entry_zip_next ?_ (F.args_zip_next_1 _))));refine xG (x:=u) (y:=v) g l r t J (show s.heap.IsTuple a us.toArray from pu) (show s.heap.IsTuple b vs.toArray from pv) (by simpa using hu) (by simpa using hv) D λN w1 w2 w3 w4 w5 w6=>Nv (_,rfl,?_);refine wpAny_letOwnedTupleGo_zip (s:={s with heap:=N}) w1 λh2 e2 same=>?_
  replace same:Heap.SameBut z N h2:=same
  have lz:z<s.heap.objs.size:=NW g;have lTI:TI<s.heap.objs.size:=NW l;have lTO:TO<s.heap.objs.size:=NW r;have l1:m<s.heap.objs.size:=NW t;have l2:p<s.heap.objs.size:=NW J
  have low:∀b∈[z,TI,TO,m,p],b<s.heap.objs.size:=λb f=>by simp only[NB,NU,Ou]at f;rcases f with rfl|rfl|rfl|rfl|rfl<;>assumption
  have M:h2.get? s.heap.objs.size=some {cls:=.type "tuple",data:=.seq #[u,v]}:=(same.2 _ (Pb lz)).trans w5
  have I1:Inv X j σ (upd H s.heap.objs.size (.tup [B[i],G[i]])) {s with heap:=s.heap.push {cls:=.type "tuple",data:=.seq #[u,v]},toks:=s.toks} :=
   I.laid (o:=.tup [B[i],G[i]]) (λb ob q=>Ar _ q) (Nu _) (by rw[Ol];simp,[u,v],.cons r1 (.cons r2 .nil),IsTup.new _ _)
  have frees:∀b,b<s.heap.objs.size->upd H s.heap.objs.size (.tup [B[i],G[i]]) b=H b:=λb f=>ao (N3 f)
  have I2:Inv X j σ (upd H s.heap.objs.size (.tup [B[i],G[i]])) {s with heap:=h2,toks:=s.toks}:=by
   refine Inv.turned (s:={s with heap:=s.heap.push {cls:=.type "tuple",data:=.seq #[u,v]}}) I1 (λb f=>(by rw[frees b (low b f)];exact(L b f).1,(L b f).2)) λb o f q=>?_;simp only[NB,NU,Ou,not_or]at f;let(n1,n2,n3,n4,n5):=f;by_cases UW:b=s.heap.objs.size
   ·subst UW;cases (OU rfl rfl).symm.trans q;exact M
   ·exact(same.2 b n1).trans (w6 b o n1 n3 n4 n5 ((Heap.get?_push_ne _ _ _ UW).symm.trans q))
  refine(⇑s.heap.objs.size,_,I2,rfl,(_,_,_,I.hok.fresh (Nu _),rfl,hx,hy,rfl),(u,v,e2,?_,?_,?_,?_),λb f=>?_)
  ·exact(same.2 TI D.TIz).trans (w6 TI _ D.TIz D.TITO D.TIi1 D.TIi2 l)
  ·exact(same.2 TO D.TOz).trans w2
  ·exact(same.2 m D.i1z).trans w3
  ·exact(same.2 p D.i2z).trans w4
  ·rw[frees b (low b f)];exact(L b f).1
 done:=by
  intro X O U Y hc i j s σ H E I L st hg;subst O U Y;let(c,d,g,l,r,t,J):=st;let(hi,ha):=hg;let(us,ru,pu,_):=I.tuple ha;have lr:=ru.length;have ty:s.TypeIs ⇑z "zip":=(_,g,rfl)
  unfold pyNext;refine xd (PD (OD (name:=Str.ofString "__next__") ty QV (OR QV ty F.entry_zip_next ?_ (F.args_zip_next_1 _))));refine xF (I.ok.hd hc) g l r t (show s.heap.IsTuple a us.toArray from pu) (by simp;lia) D λN e kk ⟨o,ho,hco⟩=>?_;refine xd (wpAny_isInstance (T:="StopIteration") (b:=true) (o,ho,hco) isSubtype_stop (Nv (rfl,?_)));exact I.turned L λb o f q=>kk b o (λy=>f (by simp[y])) (λy=>f (by simp[y])) q
 self:=λA i s Q E ⟨_,_,g,_⟩ q=>wpAny_pyIter_zip g q
noncomputable def HQ(K:qs)(g:TA):TI:=λi H R=>g i H λj d=>∃a b e f,j=[⇑a,⇑b]/\RW K d a e/\RW K d b f/\R (Itz K a b e f) d
theorem F9{c1}(E:Gl X "zip")(G:X.mg "zip"=none)(J:PA X [a,b] L)(hs:starEach [a,b] X.env=(false,eval a X.env)::starEach [b] X.env:=by rfl)(l:(backTo e (starEach [b] X.env)).any (·.1)=false:=by rfl) :
  PI X (.Tuple u c1 ps) (.Call (.Name "zip" p) [a,b] [] e) (HQ X.K L):=by
 intro f s M H R I h;refine Call_ (hV I E G Eu (OX (RA (J e f s M H _ I h) λN d ⟨O,Q,g,T,U⟩=>?_) hs l));let(t1,m,Y,ys,ev,r,t,q):=U;subst ev
 cases T with
 |cons e1 rt =>
  let(u2,rfl,e2):=bM rt;cases e1;cases e2;let(N,ru,v,_):=g.tuple r;let(O,rv,pv,_):=g.tuple t;have i:t1<d.heap.objs.size:=v.lt;have j:m<d.heap.objs.size:=pv.lt;refine wd v pv λh' w z2 z3 z4 z5 kk=>?_;refine wpAny_pyIter_zip (s:={d with heap:=h'}) w ?_;have ne:∀{x y:Nat},x<y->x≠y:=λh=>N3 h;have k:∀{x y:Nat},y<x->x≠y:=λh=>Pb h
  have ap:ZipApart (d.heap.objs.size+4) (d.heap.objs.size+2) (d.heap.objs.size+3) d.heap.objs.size (d.heap.objs.size+1) t1 m :=
   ⟨ne ⋯,ne ⋯,ne ⋯,ne ⋯,ne ⋯,k ⋯,k ⋯,k ⋯,k ⋯,ne ⋯,ne (NV i ⋯),ne (NV i ⋯),ne i,ne (NV i ⋯),
    ne (NV j ⋯),ne (NV j ⋯),ne j,ne (NV j ⋯)⟩
  refine(d.heap.objs.size+4,[d.heap.objs.size+4,d.heap.objs.size+2,d.heap.objs.size+3,d.heap.objs.size,d.heap.objs.size+1],_,_,Q,rfl,g.kept (t':=d.toks) kk,A3 t1 m _ _ _ _ _ Y ys ap,(.none,.none,w,z2,z3,z4,z5),λb z=>?_,q)
  have B:d.heap.objs.size<=b:=by
   simp only[NB,NU,Ou]at z;rcases z with rfl|rfl|rfl|rfl|rfl
   ·exact Qq _ _
   ·exact Qq _ _
   ·exact Qq _ _
   ·exact Nu _
   ·exact Qq _ _
  exact g.X4 B (g.hok.fresh B)
section
end
end L2
namespace L2
open PySem PySem.Spec PySem.Calls PyProof.Rows PySem.W PySem.Builtin PySem.Builtin.ObjectAttr
theorem IG{K:qs} :
  Passes (RT P w) (dQ (RT P w) P w K mg base N qual scope f cd A outer s H E) E:=by
 intro j G M l e O I x;let(a,T,cls,m,p,rfl,q,sa,t,J,fl,back):=RT.behind I x;refine wpAny_leaves_onW (L:=s.heap.objs.size) I.ok.frames rfl fl λu v y=>?_;let(T2,d,B,g,i,_):=back u _ v y
 have k:∀b,l.heap.get? b=none->s.heap.get? b=none:=λb z=>by
  cases q:s.heap.get? b with
  |none=>rfl
  |some o =>let(Q,r):=I.base.there b o q (by show b∉([]:zz);simp);rw[z]at r;cases r
 exact(a,T2,cls,m,p,rfl,d.os,d.bare,d.base,d.hok,(k a sa,k T2 g,t,i),B,q)
noncomputable def Zg(P:Program)(w:World):Ws:=λouter H s E e d =>
 ∃a cls g f,e= ⇑a/\d.os=s.os/\AllBare d.gens/\Un (frs outer) [] H f s.heap d.heap/\SK P w f d.heap /\
  (s.heap.get? a=none/\f a=none)/\Fre d.heap a cls g/\E cls none f
theorem G7{K:qs} :
  Passes (Zg P w) (dQ (RT P w) P w K mg base N qual scope f cd A outer s H E) E:=by
 intro d B H1 l e j I x;let(a,cls,m,p,rfl,os,g,un,i,(sa,t),(G,vs,Y,(hc,h0),hd,hv),q):=x;have J:Inv (dQ (RT P w) P w K mg base N qual scope f cd A outer s H E) d B p j:=I.UL (ch:=[]) os un i g (λb z=>absurd z (by simp));subst hc
 refine wpAny_leaving_firstW (base:=W.hideAll j.heap (a::a::frs (envOfC qual scope s.heap.objs.size f cd::outer))) (L:=s.heap.objs.size) (a0:=m) I.ok.frames
  (W.funFrames_hide J.stack λenv hm b hb=>.tail _ (.tail _ (PJ.mpr (env,hm,hb)))) rfl Y (λb o q=>W.of_hideAll _ q) (Qc _ (.head _)) hd hv h0 λu L2=>?_
 let(k1,k2,k3,k4):=L2;let(T2,M,v,O,y):=qI (T:=a) J.stack (show Heap.FlyingW _ _ a G.cls m u from (k1,Qc _ (.head _),k2,k3)) k4;have neT:T2≠a:=by let(_,_,_,_,_,_,_,_,z,_):=M;exact z
 have Q:j.heap.get? T2=none:=v.resolve_left neT
 have sT:l.heap.get? T2=none:=by
  cases q:l.heap.get? T2 with
  |none=>rfl
  |some o =>let(o',r):=un.there T2 o q (by simp);rw[Q]at r;cases r
 have U:∀b,l.heap.get? b=none->s.heap.get? b=none:=λb z=>by
  cases q:s.heap.get? b with
  |none=>rfl
  |some o =>let(o',r):=I.base.there b o q (by show b∉([]:zz);simp);rw[z]at r;cases r
 have k:Inv (dQ (RT P w) P w K mg base N qual scope f cd A outer s H E) d B p {j with heap:=u} :=
  I.UL (s':={j with heap:=u}) (ch:=[]) os (Ba un sa sa O y) (yN i t t J.Ud O) g (λb z=>absurd z (by simp))
 exact(a,T2,G.cls,m,p,rfl,k.os,k.bare,k.base,k.hok,(U a sa,U T2 sT,t,i.empty Q),M,q)
theorem Va.Zh{P:Program}{K:qs}{st:Stmt}(F:Va K x qual st f l)(S:RM N i (ag st))(len:∀d H Q E,j d H Q E->d.length=i.length)
  (e:∀(a:Value)(A:Around)(outer:List Env)(s:Shared)(H:Hp)(d:List V)(Q:VK)(E:XK),RE k (A.deeper (envOfC qual (ag st) s.heap.objs.size f a))->j d H Q E ->
   ∃t,Su (dQ (RT P w) P w K mg base N qual (ag st) f a A outer s H E) (bh st) t/\t {nx:=λ_ m=>Q .Ro m,rt:=Q} (start N d) H):Rt P w K mg base (RT P w) (k+1) f l i j:=by
 let(oc,u,v,doc,y,z,a,ct,p,rfl,lk,g):=F.ex;exact yA lk g S len λA outer s H d Q E q r=>e a A outer s H d Q E q r
theorem zX{K:qs} :
  PassesOwn (model P w) (dQ a P w K mg base N qual scope f cd A outer s H E).A (dQ a P w K mg base N qual scope f cd A outer s H E).env (dQ a P w K mg base N qual scope f cd A outer s H E).xe :=
 λ_ _ h=>wpAny_leaving_again (SameStack.refl _) h
section
end
end L2
namespace L2
open PySem PySem.Spec PySem.Calls PyProof.Rows
noncomputable abbrev lQ(t:Addr)(i:Int):Obj:={cls:=.type "reversed",data:=.fields #[⇑t,rawInt i]}
theorem mD:Slot "reversed" "__init__" "object.__init__":=.of (owner:="object") (n:="__init__") (by rw[P7,Pf];kernel_rfl) ⋯ ⋯ ⋯ (by first|exact .inl ⋯|exact .inr ⋯) (by rw[Q7];kernel_rfl)
theorem sQ:TypeCalled "reversed" "reversed.__new__" "object.__init__":=(⋯,⋯,(_,_,F.mro_reversed),F.made_reversed,⋯,F.sub_reversed_self,mD)
theorem RQ:Slot "reversed" "__next__" "reversed.__next__":=.of (owner:="reversed") (n:="__next__") (by rw[P7,Pf];kernel_rfl) ⋯ ⋯ ⋯ (by first|exact .inl ⋯|exact .inr ⋯) (by rw[Q7];kernel_rfl)
theorem gQ:Slot "reversed" "__iter__" "reversed.__iter__":=.of (owner:="reversed") (n:="__iter__") (by rw[P7,Pf];kernel_rfl) ⋯ ⋯ ⋯ (by first|exact .inl ⋯|exact .inr ⋯) (by rw[Q7];kernel_rfl)
theorem fW:entryFor table "reversed.__next__"= ↑Builtin.«reversed.__next__»:=entryFor_of_tree (by kernel_rfl)
theorem kN:entryFor table "reversed.__iter__"= ↑Builtin.«dict_keyiterator.__iter__»:=entryFor_alias (id':="dict_keyiterator.__iter__") (by kernel_rfl) (by first|rfl|decide +kernel | (unfold String.splitOn;simp +decide [String.splitOnAux])) ⋯ (by kernel_rfl)
theorem nq:Manifest.owners.lookup (String.ofList ['d','e','s','r','e','v','e','r'].reverse)= ↑Manifest.sig_reversed:=by kernel_rfl
theorem gI(a:Value):argsOk "reversed.__next__" ([a],[]):=by unfold argsOk;rw[signature?_of (id:="reversed.__next__") (n:=['_','_','t','x','e','n','_','_']) (o:=['d','e','s','r','e','v','e','r']) (by kernel_rfl) nq];kernel_rfl
theorem me(a:Value):argsOk "reversed.__iter__" ([a],[]):=by unfold argsOk;rw[signature?_of (id:="reversed.__iter__") (n:=['_','_','r','e','t','i','_','_']) (o:=['d','e','s','r','e','v','e','r']) (by kernel_rfl) nq];kernel_rfl
theorem xq:typeLookup (.type "tuple") "__reversed__"=pure none:=by rw[P7,Pf];kernel_rfl
theorem uz:isSubtype (.type "tuple") (.type "dict")=pure false:=by rw[Q7];kernel_rfl
theorem jW:typeLookup (.type "tuple") "__getitem__"=pure ↑(.builtin "tuple.__getitem__"):=by rw[P7,Pf];kernel_rfl
theorem AD(t:Addr)(a:Array Value)(n:Nat)(d2:Option Addr)(e:Array (Option Value)) :
  Meets (Builtin.«reversed.__new__» ([.type "reversed",⇑t],[])) (λ_ R s=>s.heap.get? t=some {cls:=.type "tuple",dict:=d2,data:=.seq a n,slots:=e} /\
   (a.size:Int)<2 ^ 63/\R (.ok (.ret ⇑s.heap.objs.size)) {s with heap:=s.heap.push (lQ t ((a.size:Int) - 1)),toks:=s.toks+2}) :=
 .of_wp λ_ _ _ _ s q=>by
  let(h0,g0,f,g,i):=s;let(j,fit,q):=q;have d:Heap.IsTuple (Shared.heap (h0,g0,f,g,i)) t a:=(_,j,rfl,n,rfl)
  have k:=F.sub_reversed_self
  wp_walk
  show wpAny _ _ (typeLookup (.type "tuple") "__reversed__") _ _ _;rw[xq];refine Nv ?_;dsimp only
  wp_walk
  show wpAny _ _ (isSubtype (.type "tuple") (.type "dict")) _ _ _;rw[uz];refine Nv ?_;rw[NH ⋯]
  wp_walk
  show wpAny _ _ (typeLookup (.type "tuple") "__getitem__") _ _ _;rw[jW];refine Nv ?_;dsimp only;rw[NL ⋯];refine Nv ?_;rw[NH ⋯];refine xd ?_;refine PyProof.Rows.len_tuple d fit ?_
  wp_walk
  exact(_,rfl,q)
theorem wa{s:Shared}(d:s.heap.IsTuple t a)(fit:(a.size:Int)<2 ^ 63)
  (q:Q ⇑s.heap.objs.size {s with heap:=s.heap.push (lQ t ((a.size:Int) - 1)),toks:=s.toks+2}):wpAny (model prog w) A (call (.type "reversed") [⇑t]) Q E s:=by
 let((c2,d2,e,f),d,g,n,i):=d;obtain rfl:c2=.type "tuple":=g;obtain rfl:e=.seq a n:=i;refine callType_new sQ ⋯ (F.typeCall_reversed_1 _) (F.newCall_reversed_1 _) (λo=>F.args_object_init_2 o _) F.entry_reversed_new (AD t a n d2 f) (d,fit,?_);show _/\_;exact((_,OU rfl rfl,rfl),q)
theorem sx{i n:Nat}(h:i<n):seqIndex? (i:Int) n= ↑i:=(oJ (by unfold Vz;rw[NL ⋯,NL ⋯];rfl)).1
noncomputable abbrev jD(h:Heap)(it t:Addr)(i:Int):Prop:=h.get? it= ↑(lQ t i)
section
theorem uu{A:Around}{E:ql}{s:Shared}{a:Array Value}{i:Nat}{Q:Option Value->Shared->Prop}(d:jD s.heap it t i)(f:s.heap.IsTuple t a)(fit:(a.size:Int)<2 ^ 63)(g:a[i]?= ↑x)
  (q:∀e k,jD e it t ((i:Int) - 1)->Heap.SameBut it s.heap e->Q ↑x {s with heap:=e,toks:=k}):wpAny (model prog w) A (pyNext ⇑it) Q E s:=by
 have ty:s.TypeIs ⇑it "reversed":=(_,d,rfl)
 have lt:i<a.size:=(Array.getElem?_eq_some_iff.mp g).1;unfold pyNext;refine xd (PD (OD (name:=Str.ofString "__next__") ty RQ (OR RQ ty fW ?_ (gI _))));let((c2,d2,l,r),u,m,n,p):=id f;obtain rfl:c2=.type "tuple":=m;obtain rfl:l=.seq a n:=p;let(h0,g0,v,y,z):=s;unfold jD lQ rawInt at d
 wp_walk
 show wpAny _ _ (typeLookup (.type "tuple") "__getitem__") _ _ _;rw[jW];refine Nv ?_;rw[NH ⋯];refine xd (wpAny_mkInt (xd (PD ?_)));show wpAny _ _ (getItem ⇑t (.int (i:Int) _)) _ _ _;refine PyProof.Rows.getItem_tuple (j:=i) f ⋯ ⋯ (sx lt) g ?_
 wp_walk
 exact(x,rfl,Nv (q _ _ (Heap.get?_update_self _ d rfl) (Heap.SameBut.update ..)))
theorem ur{A:Around}{s:Shared}(g:A.handled=none)(a:jD s.heap it t (-1))(q:∀d,Heap.ExtBut it s.heap d->Q none {s with heap:=d}):wpAny (model prog w) A (pyNext ⇑it) Q E s:=by
 have ty:s.TypeIs ⇑it "reversed":=(_,a,rfl)
 unfold pyNext;refine xd (PD (OD (name:=Str.ofString "__next__") ty RQ (OR RQ ty fW ?_ (gI _))));let(h0,g0,i,j,k):=s;unfold jD lQ rawInt at a
 wp_walk
 refine wpAny_raiseNew_none g ?_;refine xd (wpAny_isInstance (T:="StopIteration") (b:=true) (_,NG _ rfl,rfl) isSubtype_stop (Nv (q _ λb o f e=>?_)));exact Ar _ (Ar _ ((Heap.get?_update_ne _ _ _ _ f).trans ((Heap.get?_update_ne _ _ _ _ f).trans e)))
theorem rQ{s:Shared}(a:jD s.heap it t i)(h:Q ⇑it s):wpAny (model prog w) A (pyIter ⇑it) Q E s:=by
 have ty:s.TypeIs ⇑it "reversed":=(_,a,rfl)
 refine wpAny_pyIter_slot ty gQ (OR gQ ty kN ?_ (me _));show wpAny _ _ (ret ⇑it) _ _ s;exact Nv (_,rfl,"reversed",_,ty,RQ.lookup,h)
end
noncomputable def Itw(K:qs)(a:Addr)(d:List V):It:=(λi H=>i<d.length/\RW K H a d,λi H x e=>e=H/\d[d.length - 1 - i]?= ↑x,λi _=>i=d.length)
theorem xw{K:qs}(a it:Addr)(d:List V):iu P w K N (Itw K a d) [it] it (λi h=>jD h it a ((d.length:Int) - 1 - (i:Int))):=by
 refine cH (λi h st=>(_,_,_,st,rfl,rfl,⋯,λf q=>q)) ?_ ?_ λA i s Q E st q=>rQ st q
 ·rintro X rfl rfl rfl j i e s t H Q E I st ⟨O,v⟩ k;let(y,l,p,z):=I.tuple v;have T:=l.length;have m:d[d.length - 1 - i]?= ↑(d[d.length - 1 - i]'(by lia)):=Nz ⋯;let(u,B,G):=l.get m;rw[show(d.length:Int) - 1 - (i:Int)=((d.length - 1 - i:Nat):Int) by lia]at st;refine uu st p (by rw[ND];rw[Ol]at z;lia) (x:=u) (by simpa using B) λf J g L=>k u _ f J G (rfl,m) ?_ (SameBut.of L);rw[show(d.length:Int) - 1 - ((i+1:Nat):Int)=((d.length - 1 - i:Nat):Int) - 1 by lia];exact g
 ·rintro X rfl rfl rfl j i e s t H Q E I st r k;have e1:(d.length:Int) - 1 - (i:Int)=-1:=by have r:i=d.length:=r;lia
  rw[e1]at st;exact ur (I.ok.hd j) st λf M=>k f s.toks (ExtBut.of M)
section
noncomputable def HN(K:qs)(f:TA):TI:=λg H R=>f g H λi d=>∃a e,i=[⇑a]/\RW K d a e/\R (Itw K a e) d
theorem CJ(m:Gl X "reversed")(r:X.mg "reversed"=none)(t:PA X [a] v)(hs:starEach [a] X.env=[(false,eval a X.env)]:=by rfl):PI X O (.Call (.Name "reversed" p) [a] [] i) (HN X.K v):=by
 intro d s w H R I h;refine Call_ (hV I m r jF (OX (RA (t i d s w H _ I h) λQ f ⟨T,U,k,y,z⟩=>?_) hs rfl));let(l,g,e,B,q):=z;subst e;let(u,rfl,E):=bM y;cases E;let(j,G,J,L):=k.tuple B;have M:=G.length;refine wa J (by rw[ND];rw[Ol]at L;lia) ?_;have N:((j.toArray.size:Nat):Int) - 1=(g.length:Int) - 1 - ((0:Nat):Int):=by rw[ND,M];lia
 rw[N];have st:jD (f.heap.push (lQ l ((g.length:Int) - 1 - ((0:Nat):Int)))) f.heap.objs.size l ((g.length:Int) - 1 - ((0:Nat):Int)):=NG _ rfl;refine rQ (s:={f with heap:=f.heap.push (lQ l ((g.length:Int) - 1 - ((0:Nat):Int))),toks:=f.toks+2}) st ?_;exact k.WK (xw l _ g) st q
end
structure nH(X:Cx)(pins:qa)(σ:St)(H:Hp)(a:Addr)(cls:Value)(s:Shared):Prop where
 ok:X.Ok
 inv:Inv X pins σ H s
 ty:W.Looks (model X.prog X.w) s.heap (typeOf ⇑a) cls
 na:H a=none
 again:∀(A:Around)(Q:Unit->Shared->Prop)(E:ql),(∀h',Inv X pins σ H {s with heap:=h'}->(∀Dx,cls= ⇑Dx->Inv X pins σ (upd H a (je a Dx)) {s with heap:=h'})->Q () {s with heap:=h'})->wpAny (model X.prog X.w) A (setFlight ⇑a none) Q E s
theorem Ic{X:Cx}{j UK:qa}{U:St}{B:Hp}{G f:Shared}{E:XK}{e:Value}{xe Y:ql}{R:Shared->Prop}(ok:X.Ok)(I1:Inv {X with pn:=X.pn++j,xe:=xe} UK U B G)(x1:RT X.prog X.w X.stack B G E e f)
  (hR:∀a cls v s',e= ⇑a->E cls none v->nH X j U v a cls s'->R s') (r:X.stack=X.env::X.outer:=by rfl) (I:X.env.frame= ↑X.env.locals:=by rfl) :
  wpAny (model X.prog X.w) X.A (noteFrame e X.env) (λ_ t=>wpAny (model X.prog X.w) X.A (setFlight e none) (λ_ u=>R u) Y t) Y f:=by
 let(a,T,cls,L,v,rfl,q,sa,na,J,fl,back):=RT.behind I1 x1;have fr:X.A.frames= ↑(X.env::X.outer):=by rw[<- r];exact ok.frames
 refine O3 ((wpAny_looks_onW (Q:=λ_ s4=>∃m,s4={f with heap:=m}/\Heap.HeldW (W.hideAll f.heap (a::T::frs X.stack)) (X.env::X.outer) a cls L X.env.locals m/\f.heap.UpToSlots m) fr I (by rw[<- r];exact fl) λm d g=>(m,rfl,d,g)))
  (λ_ s4 ⟨m,e4,d,g⟩=>?_) λ_ _ z=>z
 subst e4
 refine O3 ((wpAny_landsW (Q:=λ_ s5=>∃h5,s5={f with heap:=h5}/\Heap.FlyingW (W.hideAll f.heap (a::T::frs X.stack)) (X.env::X.outer) a cls L h5/\m.UpToSlots h5) d λh5 YB i=>(h5,rfl,YB,i)))
  (λ_ s5 ⟨h5,e5,YB,i⟩=>?_) λ_ _ z=>z
 subst e5;let(T5,J5,t5,sT5,nT5,_):=back h5 _ YB (g.trans i)
 have LT:W.Looks (model X.prog X.w) h5 (typeOf ⇑a) cls:=by let(M,vs,oT,ts,y,(N,_),_):=t5;rw[<- N];exact(W.Looks.ld y).andThen .now
 refine hR a cls v _ rfl q (ok,J5.Te ok,LT,na,λA Q E2 hQ=>?_)
 refine O3 ((lands_againW (Q:=λ_ s6=>∃l,s6={f with heap:=l}/\Heap.FlyingW (W.hideAll f.heap (a::T::frs X.stack)) (X.env::X.outer) a cls L l/\h5.UpToSlots l) YB λl Zi p=>(l,rfl,Zi,p)))
  (λ_ s6 ⟨l,e6,Zi,p⟩=>?_) λ_ _ z=>z
 subst e6;let(T6,J6,t6,_,_,O):=back l _ Zi ((g.trans i).trans p);refine hQ l (J6.Te ok) λDx hD=>?_;subst hD;let(M,vs,oT,ts,y,(N,_),hdt,_):=t6;refine Inv.Wy (s:=G) (H:=B) (I1.Te ok) (J6.Te ok) O sa na ?_
 ·exact((M,y,N),(M,y),λh1 h2 ⟨o1,e1,c1⟩ k=>(o1,k o1 e1,c1))
section
theorem kX{D:Ends}(L:nH X d J H a cls s)(M:Gl X x)(O:X.mg x= ↑C)(r:X.N.Nodup)(t:X.N[i]?= ↑n)(hl:X.env.kindOf n=some .local)(Q:∀e:Value,Su (X.hand e) (y::g) T)(U:W.exmOne X.K cls C= ↑b)
  (h1:b=true->∃E,cls= ⇑E/\T (D.gone i) (J.set i ↑⇑a) (upd H a (je a E))) (Y:b=false->wpAny (model X.prog X.w) X.A (handleBy ⇑a X.env B) (SP X d D) X.xe s) (hd:(x==("__debug__":Str))=false:=by decide) :
  wpAny (model X.prog X.w) X.A (handleBy ⇑a X.env (.ExceptHandler ↑(.Name x np) ↑n (y::g) I::B)) (SP X d D) X.xe s:=by
 refine wpAny_handleBy_cons (codeAny_handlers_test (dj (X:=X.hand ⇑a) L.inv.hand M O ?_ hd)) (by intro q;cases q);refine(W.exm_one L.inv.Se L.ty U).here ?_
 cases b with
 |false=>exact Y rfl
 |true =>
  let(E,hD,q):=h1 rfl;refine codeAny_handlers_suite_as (L.again _ _ _ λh6 J6 I6=>?_);refine gn (X:=X.hand ⇑a) (v:= ⇑a) ((I6 E hD).hand (e:= ⇑a)) r t (.inl hl) rfl (λs7 I7=>?_) (.inr hl);refine O3 (Q ⇑a d s7 _ _ (D.gone i) I7 q) (λf s3 hs=>?_) (λ_ _ z=>z.elim)
  cases f with
  |next=>let(j,k,l,m):=hs;exact Inv.gone (l.Td L.ok) r t hl λG p=>(_,k,p,m)
  |brk=>let(j,k,l,m):=hs;exact Inv.gone (l.Td L.ok) r t hl λG p=>(_,k,p,m)
  |cont=>let(j,k,l,m):=hs;exact Inv.gone (l.Td L.ok) r t hl λG p=>(_,k,p,m)
  |ret u=>let(v,j,k,l,r3,m):=hs;exact Inv.gone (l.Td L.ok) r t hl λG p=>(v,_,k,p,r3,m)
theorem BZ{X:Cx}{C:Value}{D:Ends}(L:nH X g r H a cls s)(y:Gl X x)(B:X.mg x= ↑C)(E:∀e:Value,Su (X.hand e) (m::i) G)(I:W.exmOne X.K cls C= ↑b)
  (h1:b=true->G D r H) (J:b=false->wpAny (model X.prog X.w) X.A (handleBy ⇑a X.env p) (SP X g D) X.xe s) (M:(x==("__debug__":Str))=false:=by decide) :
  wpAny (model X.prog X.w) X.A (handleBy ⇑a X.env (.ExceptHandler ↑(.Name x Q) none (m::i) t::p)) (SP X g D) X.xe s:=by
 refine wpAny_handleBy_cons (codeAny_handlers_test (dj (X:=X.hand ⇑a) L.inv.hand y B ?_ M)) (by intro q;cases q);refine(W.exm_one L.inv.Se L.ty I).here ?_
 cases b with
 |false=>exact J rfl
 |true =>
  refine codeAny_handlers_suite (L.again _ _ _ λT N _=>?_);refine O3 (E ⇑a g _ r H D N.hand (h1 rfl)) (λf U hs=>?_) (λ_ _ z=>z.elim)
  cases f with
  |next=>let(d,j,k,l):=hs;exact(d,j,k.Td L.ok,l)
  |brk=>let(d,j,k,l):=hs;exact(d,j,k.Td L.ok,l)
  |cont=>let(d,j,k,l):=hs;exact(d,j,k.Td L.ok,l)
  |ret u=>let(v,d,j,k,O,l):=hs;exact(v,d,j,k.Td L.ok,O,l)
end
theorem xh{X:Cx}{j:qw}
  (Fn:ExcBaseFacts Bn k Q U) (y:j.contains (.type Bn)=true) (F:ExcBaseFacts B Y p j) (hc:gL X.K C j k none=true)
  (ht:Passes (Zg X.prog X.w) X E) (hg:Gl X x) (l:X.mg x= ↑⇑C) (ha:PA X (d::a) ta) (Zj:X.calm=true:=by rfl)
  (M:starEach (d::a) X.env=(false,eval d X.env)::starEach a X.env:=by rfl)
  (g:(backTo f (starEach a X.env)).any (·.1)=false:=by rfl) (hd:(x==("__debug__":Str))=false:=by decide) :
  PS X (.Raise ↑(.Call (.Name x np) (d::a) [] f) none pos) (λ_ u H=>ta u H λO v=>O.length<=sizeLine/\E ⇑C none v):=by
 intro i s u H D I h;let(bm,N,nm,qn,bs,G,sn,sub,ab,J,dd,k0,k1,k2,k3,k5,mN,hC,hN,L,T):=EE I.mod.WJ hc
 refine wpAny_Raise_call_subU (C:=C) (nm:=nm) (q:=qn) (N:=N) (bs:=bs) (bm:=bm) (hdct:=G) (sn:=sn) (sub:=sub) (ab:=ab) (col:=J) (dd:=dd) (k0:=k0) (k1:=k1) (k2:=k2) (k3:=k3) (k5:=k5)
  Fn y F (mN:=mN) (T.hasType F.hasBase) (I.ok.hd Zj) (by rw[M];show(false||(backTo f (starEach a X.env)).any (·.1))=false;rw[g];rfl) L (dj I hg l (rfl,?_) hd)
 have w:=ha f i s u H _ I h;rw[M]at w ⊢;refine QD (RA w λus s2 ⟨O,v,m,r,z,q⟩=>(rfl,by rw[<- r.length];exact z,m.bk _ _ hC,hN.keeps m.bk,T.keeps m.bk,λh' e l=>?_));let(t,h1,h2,h3):=l.there;exact ht i u v s2 _ _ m (e,⇑C,⇑t,v,rfl,rfl,m.bare,Un.kept l.keeps,m.hok.kept l.keeps,(l.new,m.hok.empty l.new),(_,_,h1,(rfl,rfl),rfl,rfl),q)
theorem xa(r:PE X o t)(c:Uz X.K C)(p:Meth X.K C m f)(F:Rt X.prog X.w X.K X.mg X.base v k f y z B)(G:RE k X.A)(J:Binds X.K y z L)(M:Vals R1 L)(N:aY v X E)
  (O:eval (.Call (.Attribute o m e) [] [] d) X.env=(do
   let ov <- eval o X.env
   standAt e.atName
   let(f,first) <- holding [ov] (getMethod ov m T)
   callWith d f first (backTo d (starEach [] X.env)) (backToKw d (keywordEach [] X.env))):=by rfl) :
  PE X (.Call (.Attribute o m e) [] [] d) (λi=>D0 C m B R1 (E i) t rW i):=by
 intro g s i H Q I h;refine W.methodCall_KW (pl:=T) (RA (r g s i H _ I h) λu s1 ⟨x,H1,j,U,a,dx,fs,ex,Y,l,q⟩=>?_) O;subst ex;obtain rfl:u=Value.ref a:=U;refine hU j Y c p l ?_;exact W.callWith_K0 (first:=[⇑a]) j.Se p.kp (kj (us:=[⇑a]) (vs:=[⇑a]) F G J M N j (.cons rfl .nil) q)
theorem VC.Zh{P:Program}{K:qs}{st:Stmt}(F:VC K x qual st f l T u)(S:RM N i (ag st))(len:∀d H Q E,j d H Q E->d.length=i.length)
  (e:∀(a:Value)(A:Around)(outer:List Env)(s:Shared)(H:Hp)(d:List V)(Q:VK)(E:XK),RE k (A.deeper (envOfC qual (ag st) s.heap.objs.size f a))->j d H Q E ->
   ∃t,Su (dQ (RT P w) P w K mg base N qual (ag st) f a A outer s H E) (bh st) t/\t {nx:=λ_ m=>Q .Ro m,rt:=Q} (start N d) H):Rt P w K mg base (RT P w) (k+1) f l i j:=by
 let(oc,v,y,doc,z,B,a,ct,p,rfl,lk,g):=F.ex;exact yA lk g S len λA outer s H d Q E q r=>e a A outer s H d Q E q r
end L2
namespace L2
open PySem PySem.Spec PyProof.Rows
section
noncomputable def Ju(K:qs):List V->Hp->VK->Prop:=λe H Q=>∃(l:Addr)(d:zb),e=[⇑l]/\RP K H l (d.map V.int)/\0<d.length/\∀M,M∈d->(∀a∈d,M<=a)->Q (.int M) H
theorem v9{X:Cx}(w:X.calm=true):bE X (.builtin "min") (Ju X.K):=by
 intro g s N H O T Q I r h;let(l,i,rfl,y,U,q):=h;let(u,rfl,B):=bM r;cases B;let(f,E,p,Y):=I.list y;have k:=oF E;let(d,e):=k.allInts.items
 have en:d.toList.map (·.1)=i:=by have z:=k.numsOf;rw[show f=(intItems d).toList by rw[<- e]]at z;rw[<- z,nums_intItems]
 have sz:d.size=i.length:=by rw[<- en];simp
 refine min_intList (I.ok.hd w) (show s.heap.IsList l (intItems d) from e▸p.isList) ⋯ λv h' G J hk=>?_;let(t,rfl):=intItems_at J;have best:=argBest_lt (numAt d) (d.size - 1);refine(.int _,H,I.kept (t':=G) hk,(t,rfl),q _ ?_ λa m=>?_)
 ·rw[<- en,numAt_eq];exact getD_mem (by rw[NC,O6];have:=best.1;lia)
 ·rw[<- en]at m;let(j,L,M):=mem_getD m;rw[NC,O6]at L;have le:=best.2 j ⋯;rw[<- M,<- numAt_eq];exact le
end
end L2
namespace L2
open PySem PySem.Spec PySem.Calls PyProof.Rows
section
variable{elt t0 i0 t1 i1:Expr}{sc:Scope}{pos:Pos}
noncomputable abbrev WN(elt t0 i0 t1 i1:Expr)(sc:Scope)(pos:Pos):Expr:=.ListComp elt [(t0,i0,[],0),(t1,i1,[],0)] sc pos
theorem AR(h0:codeAny (model prog w) A (.compLoop (WN elt t0 i0 t1 i1 sc pos) 1 it a env) R s)
  (h:wpAny (model prog w) A (pyIter it) (λj d=>codeAny (model prog w) A (.compLoop (WN elt t0 i0 t1 i1 sc pos) 1 j a env) R d) (λ_ _=>False) s) :
  codeAny (model prog w) A (.compStart (WN elt t0 i0 t1 i1 sc pos) 1 it a env) R s:=by
 refine codeAny_of_tree ?_;show wpAny _ _ ((compStart (WN elt t0 i0 t1 i1 sc pos) 1 it a env).onRaise λx=>do noteFrame x env;standAt theWindowsPlace) _ _ s;refine wpAny_notedAt (wpAny_noRaise ?_);unfold compStart;show wpAny _ _ (ask >>= _) _ _ s;refine xd (wpAny_askSetting (wpAny_ite ?_));split
 ·exact Nv (rfl,h0)
 ·exact xd (Qz (xd (Pj (xd (RA h λj d e=>Nv (rfl,e))))))
end
noncomputable def bd2(e d:Expr)(it a:Value)(env:Env):Sem Fin:=eval d env >>= λx=>standAt d.pos >>= λ_=>foldedSetIterable d env x >>= λy=>holding [y] (pyIter y) >>= λi =>
 runOwn (.compStart e 1 i a env) env >>= λ_=>again (.compLoop e 0 it a env)
theorem A0:compTurn (WN a f g t1 i j d) 0 it e env=Z0 g.pos f it env (bd2 (WN a f g t1 i j d) i it e env):=by rfl
theorem DA:compTurn (WN a g i t1 f j e) 1 it d env=Z0 f.pos t1 it env (Z1 a [] (.compLoop (WN a g i t1 f j e) 1 it d env) d env):=by rfl
noncomputable abbrev GY(d:TI)(g1:TG)(e:TE)(D:Addr):Xz:=λa H f=>d a H λg i=>Bp g g1 (X8 vT e D) a i f
theorem Eh{X:Cx}(J:X.calm=true)(L:∀a C s H e,PG (X.Sy d a C m s H e) p g)(t:∀a C s H e,PI (X.Sy d a C m s H e) t1 i M)(u:∀a C s H e,PG (X.Sy d a C m s H e) t1 g1)(N:∀a C s H e,PE (X.Sy d a C m s H e) j O)
  (v:∀(a:List (Str×Addr))(C:Addr)(x:Value),foldedSetIterable i (compEnvC d a C X.env) x=pure x):pW X (WN j p w t1 i d l) p w.pos d m g (GY M g1 O):=by
 refine(L,λa C y z f it D=>(bd2 (WN j p w t1 i d l) i ⇑it ⇑D _,A0,λB s Q H Nx I h=>?_));unfold bd2;refine xd (RA (t a C y z f _ s Q H _ I h) λx s4 T=>xd (Pj (xd (wpAny_of_eq (v a C x) (xd (Ox (RA T λU s5 h5=>?_)))))));let(V8,Y,tn1,J1,H5,e5,I5,E,G,f5,body):=h5;subst e5;have loop:=qT (k:=1) (gs:=[(p,w,[],0),(t1,i,[],0)]) (sc:=d) (pos:=l) DA (zZ lJ (N a C y z f)) I5 J (λ_ _ h=>h) E G f5 (u a C y z f) body;refine xd (wpAny_runOwn (h:=none) (OJ (AR loop (E.self _ 0 _ _ _ G loop)) λr s6 ⟨hr,q⟩=>?_));subst hr;exact Nv (rfl,q)
theorem rH{X:Cx}{t:(St->XK)->TS}{hs:List ExceptHandler}{E:Ends->St->XK}
  (O:∀(pn:qa)(xe:ql)(E:St->XK),aY (RT X.prog X.w) {X with pn:=pn,xe:=xe} E->PassesOwn (model X.prog X.w) X.A X.env xe->Su {X with pn:=pn,xe:=xe} body (t E))
  (hand:∀(d:qa)(D:Ends)(l:St)(H:Hp)(a:Addr)(cls:Value)(s:Shared),nH X d l H a cls s->E D l cls none H->wpAny (model X.prog X.w) X.A (handleBy ⇑a X.env hs) (SP X d D) X.xe s)
  (B:X.stack=X.env::X.outer:=by rfl) (G:X.env.frame= ↑X.env.locals:=by rfl) (J:∃h t,hs=h::t) :
  PS X (.Try body hs [] [] Q) (λD l H=>t (E D) D l H):=by
 intro d s l H D I h;let(h0,T,rfl):=J
 refine wpAny_Try_except (O3 (O (X.pn++d) (λe m=>wpAny (model X.prog X.w) X.A (noteFrame e X.env) (λ_ p=>wpAny (model X.prog X.w) X.A (setFlight e none) (λ_ r =>
  wpAny (model X.prog X.w) X.A (handleBy e X.env (h0::T)) (SP X d D) X.xe r) X.xe p) X.xe m) _ ?_ PassesOwn.looking [] s l H D I.Zd h) (λf M y=>?_) λe M z=>z)
 ·intro UK N H1 M e s2 U Y;refine Ic I.ok U Y (λa cls H' s' he q L=>?_) B G;subst he;exact hand d D N H' a cls s' L q
 ·cases f with
  |next=>let(g,i,j,k):=y;exact fH d M g i D (j.Te I.ok) k
  |brk=>let(g,i,j,k):=y;exact(g,i,j.Te I.ok,k)
  |cont=>let(g,i,j,k):=y;exact(g,i,j.Te I.ok,k)
  |ret u=>let(v,g,i,j,r3,k):=y;exact(v,g,i,j.Te I.ok,r3,k)
theorem Ao{X:Cx}{t:(St->XK)->TS}{g:TS}{C:Value}
  (m:∀(pn:qa)(xe:ql)(E:St->XK),aY (RT X.prog X.w) {X with pn:=pn,xe:=xe} E->PassesOwn (model X.prog X.w) X.A X.env xe->Su {X with pn:=pn,xe:=xe} body (t E))
  (p:Gl X x) (r:X.mg x= ↑C) (u:∀e:Value,Su (X.hand e) (f::a) g)
  (i:X.stack=X.env::X.outer:=by rfl) (j:X.env.frame= ↑X.env.locals:=by rfl) (v:(x==("__debug__":Str))=false:=by decide) :
  PS X (.Try body [.ExceptHandler ↑(.Name x G) none (f::a) l] [] [] y) (λD B H=>t (λd cls _ k=>W.exmOne X.K cls C= ↑true/\g D d k) D B H) :=
 rH (E:=λD d cls _ k=>W.exmOne X.K cls C= ↑true/\g D d k) m (λ_ _ _ _ _ _ _ L q=>BZ L p r u q.1 (λ_=>q.2) (λz=>nomatch z) v) i j (_,_,rfl)
section
end
noncomputable def HK(K:qs)(n:Nat)(t:XX):TG:=λv e H Q=>∃a d,v= ⇑a/\RP K H a d/\d.length=n/\t d e H Q
theorem CF{X:Cx}(l:X.calm=true)(h:Wr X f t)
  (m:(assignEach f X.env).length=n:=by rfl) (g:(assignEach f X.env).findIdx? (·.1)=none:=by rfl):PG X (.Tuple f k p) (HK X.K n t):=λd s q H v u Q I r ⟨a,w,y,z,hl,B⟩=>by
 subst y;cases r;let(i,j,E,J):=I.list z;have en:(assignEach f X.env).length=i.toArray.size:=by rw[m,<- hl,j.length,ND]
 rw[assign_Tuple];refine xd (Pj ?_);unfold unpack;rw[en,g];refine xd (Ox (W.kun_itemsOf (I.ok.hd l) E.isList λL G=>?_));exact h d _ q H w _ Q (I.kept (t':=s.toks) λb o e=>G b o (N3 (NW e)) e) (by simpa using j) B
section
end
end L2
namespace L2
open PySem PySem.Spec PyProof.Rows
section
noncomputable def Dc(K:qs)(f:Bool):R2:=λx y H Q=>∃l g a d,y= ⇑l/\(RP K H l g\/RW K H l g)/\RH K H a g/\Dat K H d x/\RS a=true/\Tu d=true/\RO a<=20/\Q (.bl (if f then !(a.any λe=>SA e d)else a.any λe=>SA e d)) H
theorem FO{X:Cx}(m:RE k X.A):Sh X (compareOp .In) (Dc X.K false):=by
 rintro p s E H x y v u Q I t B ⟨l,G,J,d,rfl,hq,a,w,n1,n2,z,q⟩;cases B;rcases hq with hq|hq
 ·let(e,r,f,_):=I.list hq;let(g,i,_,j):=gf m I t r a w n1 n2 z;exact SeqAt.in_listAt g f.isList i (.bl _,H,I,rfl,by rw[j];exact q)
 ·let(e,r,f,_):=I.tuple hq;let(g,i,_,j):=gf m I t r a w n1 n2 z;exact SeqAt.in_tupleAt g f i (.bl _,H,I,rfl,by rw[j];exact q)
theorem wX{X:Cx}(m:RE k X.A):Sh X (compareOp .NotIn) (Dc X.K true):=by
 rintro p s E H x y v u Q I t B ⟨l,G,J,d,rfl,hq,a,w,n1,n2,z,q⟩;cases B;rcases hq with hq|hq
 ·let(e,r,f,_):=I.list hq;let(g,i,_,j):=gf m I t r a w n1 n2 z;exact SeqAt.notIn_listAt g f.isList i (.bl _,H,I,rfl,by rw[j];exact q)
 ·let(e,r,f,_):=I.tuple hq;let(g,i,_,j):=gf m I t r a w n1 n2 z;exact SeqAt.notIn_tupleAt g f i (.bl _,H,I,rfl,by rw[j];exact q)
end
end L2
namespace L2
open PySem PySem.Spec PySem.Calls PyProof.Rows
theorem Ac(J:PE X o L)(c:Uz X.K C)(z:Meth X.K C m f)(F:Rt X.prog X.w X.K X.mg X.base M k f N O T)(U:RE k X.A)(Y:Binds X.K N O ds)(hd:Vals R1 ds)(hx:aY M X E)(ha:PA X (e::j) t)
  (v:starEach (e::j) X.env=(false,eval e X.env)::starEach j X.env:=by rfl) (y:(backTo d (starEach j X.env)).any (·.1)=false:=by rfl)
  (ht:eval (.Call (.Attribute o m g) (e::j) [] d) X.env=(do
   let ov <- eval o X.env
   standAt g.atName
   let(f,first) <- holding [ov] (getMethod ov m pl)
   callWith d f first (backTo d (starEach (e::j) X.env)) (backToKw d (keywordEach [] X.env))):=by rfl) :
  PE X (.Call (.Attribute o m g) (e::j) [] d) (λp=>D0 C m T R1 (E p) L t p):=by
 intro i s p H Q I h;refine W.methodCall_KW (pl:=pl) (RA (J i s p H _ I h) λu s1 ⟨x,H1,B,rx,a,dx,fs,ex,ea,l,q⟩=>?_) ht;subst ex;obtain rfl:u=Value.ref a:=rx;refine hU B ea c z l ?_;refine Rl (first:=[⇑a]) (h₀:=X.base) I.ok.mod.WJ z.kp (RA (ha d i s1 p H1 _ B q) λus s2 ⟨vs,H2,G,r,q2⟩=>(G.Se,?_)) v y;exact kj (us:= ⇑a::us) (vs:= ⇑a::vs) F U Y hd hx G (.cons rfl r) q2
theorem Ap{X:Cx}{t:(St->XK)->TS}{th j:TS}{C:Value}
  (hb:∀(pn:qa)(xe:ql)(E:St->XK),aY (RT X.prog X.w) {X with pn:=pn,xe:=xe} E->Su {X with pn:=pn,xe:=xe} body (t E))
  (U:Gl X x) (Y:X.mg x= ↑C) (r:X.N.Nodup) (hi:X.N[i]?= ↑n) (hl:X.env.kindOf n=some .local) (hh:∀e:Value,Su (X.hand e) (l::k) th) (u:Gl X v) (y:X.mg v= ↑C') (B:X.N[i']?= ↑n') (G:X.env.kindOf n'=some .local) (I:∀e:Value,Su (X.hand e) (m::UX) j)
  (J:X.stack=X.env::X.outer:=by rfl) (M:X.env.frame= ↑X.env.locals:=by rfl) (hd:(x==("__debug__":Str))=false:=by decide) (O:(v==("__debug__":Str))=false:=by decide) :
  PS X (.Try body [.ExceptHandler ↑(.Name x np) ↑n (l::k) hpos,.ExceptHandler ↑(.Name v np') ↑n' (m::UX) Zk] [] [] pos)
   (λD σ H=>t (λf cls dx g=>(W.exmOne X.K cls C= ↑true/\∃d,cls= ⇑d/\∀a,g a=none->th (D.gone i) (f.set i ↑⇑a) (upd g a (je a d)))\/(W.exmOne X.K cls C= ↑false/\W.exmOne X.K cls C'= ↑true/\∃d,cls= ⇑d/\∀a,g a=none->j (D.gone i') (f.set i' ↑⇑a) (upd g a (je a d)))) D σ H) :=
 rH (E:=λD f cls dx g=>(W.exmOne X.K cls C= ↑true/\∃d,cls= ⇑d/\∀a,g a=none->th (D.gone i) (f.set i ↑⇑a) (upd g a (je a d)))\/(W.exmOne X.K cls C= ↑false/\W.exmOne X.K cls C'= ↑true/\∃d,cls= ⇑d/\∀a,g a=none->j (D.gone i') (f.set i' ↑⇑a) (upd g a (je a d)))) (λpn xe E p _=>hb pn xe E p) (λ_ _ _ _ a _ _ L q=>by
  rcases q with⟨h1,d,Q,T⟩|⟨h1,T,d,Q,h3⟩
  ·exact kX L U Y r hi hl hh h1 (λ_=>(d,Q,T a L.na)) (λz=>nomatch z) hd
  ·exact kX L U Y r hi hl hh h1 (λz=>nomatch z) (λ_=>kX L u y r B G I T (λ_=>(d,Q,h3 a L.na)) (λz=>nomatch z) O) hd) J M ⟨_,_,rfl⟩
section
theorem vP:∀{ss:zl}{a:qw},Vals (ss.map V.str) a->StrsAre a ss
 |[],_,h=>by cases h;exact .nil
 |x::ss,_,h=>by
  cases h with
  |cons r t =>let(k,rfl):=r;exact .cons x k (vP t)
theorem jB:∀{a:qw}{ss:zl},StrsAre a ss->Vals (ss.map V.str) a
 |_,_,.nil=>.nil
 |_,_,.cons y t h=>.cons (t,rfl) (jB h)
theorem nS:bE X (.builtin "sorted") (λj H Q=>∃a ss,j=[V.ref a]/\RP X.K H a (ss.map V.str)/\ss.length<64/\∀l d,H l=none->d.Perm ss->sortedS d=true->Q ⇑l (upd H l (.lst (d.map V.str)))):=by
 intro k s M H j N Q I r h;let(a,ss,rfl,v,y,q):=h;let(u,rfl,z):=bM r;cases z;let(g,m,B,p):=I.list v;have E:=vP m;have i:=m.length;rw[NC]at i;refine sorted_strs B.isList E ⋯ λf d h1 t hs=>?_;let(e,G):=sortedAll_at s.heap g f;have J:∀b o,s.heap.get? b= ↑o->(sortedAll s.heap g f).get? b= ↑o:=λb o L=>sortedAll_old L;have hl:(d.map V.str).length<=sizeLine:=by rw[NC,t.length_eq];rw[NC]at p;exact p
 refine(⇑(s.heap.objs.size+1),_,I.laid (t':=s.toks) J (P5 _) (show RD X.prog X.w _ _ _ (.lst (d.map V.str)) from (hl,f.toList,e,jB h1,?_)),rfl,q _ d (I.hok.fresh (P5 _)) t hs);rw[G]
theorem yO(x:SK P w H h)(e:H a= ↑o)(n1:∀y,o≠.own y)(new:RD P w (upd H a d) h a d):SK P w (upd H a d) h:=λb u q=>by
 by_cases f:b=a
 ·subst f;rw[ak]at q;cases q;exact new
 ·rw[ao f]at q;exact(x b u q).stay (λc v _ r=>r) λc r=>by rw[ao (λz=>by rw[z,e]at r;cases r;exact n1 _ rfl)];exact r
theorem qR{X:Cx}{d:qa}{i:St}{H:Hp}{s:Shared}{a:Addr}{o f:HO}(I:Inv X d i H s)(e:H a= ↑o)(n1:∀y,o≠.own y)(n4:∀ob u,X.H₀ a≠↑(.Th ob u))(new:RD X.prog X.w (upd H a f) s.heap a f):Inv X d i (upd H a f) s:=by
 refine(I.ok,I.os,I.bare,(I.base.keep,I.base.slot,λb ob q n j=>?_,I.base.there,λb ob u q=>?_),I.loc,I.cell,?_,λx c k=>?_,λp l=>?_,yO I.hok e n1 new,I.len)
 ·have z:=I.base.free b ob q n j;rw[ao (λy=>by rw[y,e]at z;cases z)];exact z
 ·have z:=I.base.T9 b ob u q;rw[ao (λy=>by rw[y]at q;exact n4 _ _ q)];exact z
 ·have z:=I.free;rw[ao (λy=>by rw[y,e]at z;cases z)];exact z
 ·have z:=I.R7 x c k;rw[ao (λy=>by rw[y,e]at z;cases z)];exact z
 ·let(m,g,r):=I.pin p l;exact(m,by rw[ao (λy=>by rw[y,e]at g;cases g)];exact g,r)
theorem F1(E:PE X e t):PE X e (λj H Q=>∃a d,H a= ↑(.dK d)/\∀o,t j (upd H a (.Th o (.dK d))) λv p=>p a= ↑(.Th o (.dK d))/\Q v (upd p a (.dK d))):=by
 intro f s j H Q I h;let(a,d,k,h):=h;have Uj:=I.hok a _ k;let(G,L,M,l,o,N,O,y,g):=id Uj;have n4:∀ob u,X.H₀ a≠↑(.Th ob u):=λob u q=>by have:=I.base.T9 a ob u q;rw[k]at this;cases this
 have new:RD X.prog X.w (upd H a (.Th o (.dK d))) s.heap a (.Th o (.dK d)):=(y,G,L,M,l,o,N,O,y,g)
 have T:=qR I k (λ_ z=>by cases z) n4 new;refine RA (E f s j _ _ T (h o)) λv U ⟨x,H1,J,r,B,q⟩=>?_;let(_,Y,kd,m,i,d1):=J.hok a _ B;exact(x,_,qR J B (λ_ z=>by cases z) n4 (show RD X.prog X.w _ U.heap a (.dK d) from (Y,kd,m,i,d1)),r,q)
noncomputable def ItD(a:Addr)(o:Obj)(d:List (Str×V)):It:=(λi H=>H a= ↑(.Th o (.dK d))/\i<d.length,λi H v f=>f=H/\∃e,d[i]?= ↑e/\v=.str e.1,λi H=>H a= ↑(.Th o (.dK d))/\i=d.length)
theorem oL:∀{d:List (Str×V)}{g:List (Str×Value)}{i:Nat}{f:Str×V},KV d g->d[i]?= ↑f->∃u,g[i]?= ↑(f.1,u)/\RelV f.2 u
 |[],_,_,_,_,h=>by simp at h
 |a::r,_,i,f,h,e=>by
  cases h with
  |cons j k =>
   cases i with
   |zero =>simp at e;subst e;rename_i q _;let(p,l):=q;let(rfl,m):=j;exact(l,rfl,m)
   |succ i=>simpa using oL (i:=i) k (by simpa using e)
theorem oA(x:SK P w H h)(e:H a= ↑(.Th o (.dK i)))(k:o.data=.dict q l):∃f,KV i f/\h.DictAt (strKind P w) a f l:=by let(g,r,t,f,j,m):=x a _ e;let(u,v,p,e1,c1,d1,d):=m.dictAt;rw[g]at e1;cases e1;rw[k]at d1;cases d1;exact(f,j,_,_,g,c1,k,d)
theorem xr{K:qs}{o:Obj}(r:o.data=.dict M v) :
  iu P w K N (ItD a o kvs) [it] it (λi h=>h.IsKeyIter it a i kvs.length v):=by
 refine cH (λi h ⟨o,e,c,d⟩=>(o,_,_,e,c,d,rfl,λl q=>(o,q,c,d))) ?_ ?_ λA i s Q E st q=>wpAny_pyIter_keyiter st q
 ·rintro X rfl rfl rfl t i j s y H Q E I st ⟨g1,m⟩ k;let(z,f,g):=oA I.hok g1 r;rw[f.length]at st k;let(u,B,_):=oL f (Nz m);exact wpAny_pyNext_dict_item st g B λG l hk p J=>k _ (.str (kvs[i]).1) l s.toks (Q0 hk) (rfl,kvs[i],Nz m,rfl) p (SameBut.of J)
 ·rintro X rfl rfl rfl t i j s y H Q E I st ⟨g1,m⟩ k;let(z,f,g):=oA I.hok g1 r;rw[f.length]at st;exact wpAny_pyNext_dict_end (I.ok.hd t) st g (by simp[m,f.length]) λl L=>k l s.toks (ExtBut.of L)
noncomputable def f9(tl:TE):TI:=λf H R=>tl f H λv e=>∃a o d,v= ⇑a/\e a= ↑(.Th o (.dK d))/\R (ItD a o d) e
theorem CH(hl:PE X l tl):PI X y l (f9 tl):=by intro d s m H R I h;refine RA (hl d s m H _ I h) λv z ⟨B,E,k,p,r⟩=>?_;let(a,o,i,e,t,q):=r;subst e;cases p;let(g,G,u,J,j,L,M,N,e1,c1,d1,f):=k.hok a _ t;rw[g]at e1;cases e1;refine wpAny_pyIter_dict (knd:=strKind X.prog X.w) u (_,_,g,c1,d1,f) ?_;exact k.WK (xr (kvs:=i) d1) (_,NG _ rfl,rfl,by rw[j.length];rfl) q
noncomputable def ItV(a:Addr)(o:Obj)(d:List (Str×V)):It:=(λi H=>H a= ↑(.Th o (.dK d))/\i<d.length,λi H v f=>f=H/\∃e,d[i]?= ↑e/\v=e.2,λi H=>H a= ↑(.Th o (.dK d))/\i=d.length)
theorem xy{K:qs}{o:Obj}(r:o.data=.dict M v) :
  iu P w K N (ItV a o kvs) [it] it (λi h=>h.IsValIter it a i kvs.length v):=by
 refine cH (λi h ⟨o,e,c,d⟩=>(o,_,_,e,c,d,rfl,λl q=>(o,q,c,d))) ?_ ?_ λA i s Q E st q=>wpAny_pyIter_valiter st q
 ·rintro X rfl rfl rfl t i j s y H Q E I st ⟨g1,m⟩ k;let(z,f,g):=oA I.hok g1 r;rw[f.length]at st k;let(u,B,G):=oL f (Nz m);exact wpAny_pyNext_values_item st g B λl p J=>k u _ l s.toks G (rfl,kvs[i],Nz m,rfl) p (SameBut.of J)
 ·rintro X rfl rfl rfl t i j s y H Q E I st ⟨g1,m⟩ k;let(z,f,g):=oA I.hok g1 r;rw[f.length]at st;exact wpAny_pyNext_values_end (I.ok.hd t) st g (by simp[m,f.length]) λl L=>k l s.toks (ExtBut.of L)
noncomputable def kY(tl:TE):TI:=λf H R=>tl f H λv e=>∃a o d,v= ⇑a/\e a= ↑(.Th o (.dK d))/\R (ItV a o d) e
theorem CK{d f:Pos}(B:PE X o to)(j:attributeBase o "values" X.env (eval o X.env)=eval o X.env:=by rfl)(k:(d.endLine==f.line)=true:=by rfl):PI X Q (.Call (.Attribute o "values" d) [] [] f) (kY to):=by
 intro m s E H R I h;refine wpAny_Call_method0_late j k (RA (B m s E H _ I h) λv l ⟨x,T,z,G,J⟩=>?_);let(a,ob,p,rfl,L,q):=J;cases G;let(g,U,M,r,t,Y,es,N,e1,c1,d1,i):=z.hok a _ L;rw[g]at e1;cases e1;have u:l.heap.DictOf (strKind X.prog X.w) a r:=(_,_,_,g,c1,d1,i)
 refine("dict","dict.values",F.plainAttrs_dict,F.slot_dict_values,F.type_dict_values,u.typeIs,λb e=>by cases e;exact(_,g,c1.2.1),PX rfl (PySem.evalArgs_none ?_));refine call_meetsIn F.slot_dict_values u.typeIs F.entry_dict_values (F.args_dict_values_1 _) (meets_dict_values (strKind X.prog X.w) a M) ((r,u),?_);have O:=z.kept (h':=l.heap.push {cls:=.type "dict_values",data:=.fields #[⇑a]}) (t':=l.toks) λb o e=>Ar _ e;have y:(l.heap.push {cls:=.type "dict_values",data:=.fields #[⇑a]}).DictAt (strKind X.prog X.w) a r N:=(_,_,Ar _ g,c1,d1,i)
 refine wpAny_pyIter_values (s:={l with heap:=l.heap.push {cls:=.type "dict_values",data:=.fields #[⇑a]}}) (v:=l.heap.objs.size) (_,NG _ rfl,rfl,rfl) y ?_;exact O.WK (xy (kvs:=p) d1) (_,NG _ rfl,rfl,by rw[t.length];rfl) q
end
end L2
namespace L2
open PySem PySem.Spec PySem.Calls PyProof.Rows PySem.W
section
theorem vO:∀{d:qw}{ss:zl},d.length=ss.length->(∀(i:Nat) v x,d[i]?= ↑v->ss[i]?= ↑x->∃t,v=.str x t)->StrsAre d ss
 |[],[],_,_=>.nil
 |v::d,x::ss,hl,h=>by let(t,rfl):=h 0 v x rfl rfl;exact .cons x t (vO (by simpa using hl) λi v x a b=>h (i+1) v x (by simpa using a) (by simpa using b))
theorem nR{X:Cx}(hc:X.calm=true):bE X (.builtin "sorted") (λO H Q=>∃a f,O=[V.ref a]/\Rd H a (.dK f)/\f.length<64/\∀l g,H l=none->g.Perm (f.map (·.1))->sortedS g=true->Q ⇑l (upd H l (.lst (g.map V.str)))):=by
 intro T s σ H O us Q I r h;let(a,f,rfl,ha,h64,q):=h;let(u,rfl,ru):=bM r;cases ru;let(hz,hd,G,z,dd):=mY I.hok ha;let(ep,B):=dd.dictAt;have hl:(s.heap.objs.size:Nat)≠a:=Pb B.lt_size;have m:G.length=f.length:=z.length.symm
 have J:∀R:Result->Shared->Prop,(∀j L d c,(∀b o,b≠s.heap.objs.size->(s.heap.push {cls:=.type "list",data:=.seq #[]}).get? b= ↑o->j.get? b= ↑o)->j.get? s.heap.objs.size=some {cls:=.type "list",dict:=none,data:=.seq d c,slots:=#[]} ->
   ItemsOf (λi v=>∃k x,G[i]?= ↑(Prod.mk (k) x)/\(strKind X.prog X.w).is k v=true) d G.length->R (.ok (.ret ⇑s.heap.objs.size)) {s with heap:=j,toks:=L}) ->
   codeAny (model X.prog X.w) X.A.in1 (.builtin "list.__iadd__" ([⇑s.heap.objs.size,⇑a],[])) R {s with heap:=s.heap.push {cls:=.type "list",data:=.seq #[]}}:=λR hR=>by
  refine PM F.entry_list_iadd ?_;rw[P0 F.plain_list_iadd _];exact kdl_extend (R:=R) (A:=X.A.in1) (kdl_dict (knd:=strKind X.prog X.w) (kvs:=G) (ep:=ep) hd) (I.ok.hd hc) (s:={s with heap:=s.heap.push {cls:=.type "list",data:=.seq #[]}}) (B.push _) s.heap.objs.size hl hl ⇑s.heap.objs.size 0 (NG _ rfl) hR (by rw[m,Ol];lia)
 refine Calls.call_function_entry kind_sorted plain_sorted entry_sorted (args_sorted1 _) ?_;unfold Builtin.«sorted» checkCount;refine xd (Nv ?_);unfold collect;refine xd (xd (wpAny_runValue (PM F.entry_proto_collect ?_)));rw[P0 F.plain_proto_collect _];unfold Builtin.«proto.collect»;dsimp only;refine xd (Qh (Nv (plainId_quiet F.plain_list_iadd _,J _ λj L d c kp U p=>?_)));have M:d.toList.length=(f.map (·.1)).length:=by rw[O6,p.1,m,NC]
 have st:StrsAre d.toList (f.map (·.1)):=vO M λi v x e1 e2=>by let(k,y,e3,e4):=p.2 i v (by simpa using e1);rw[NQ]at e2;let(kv,e6,rfl):=N1.mp e2;let(u,Y,_):=oL z e6;rw[e3]at Y;cases Y;exact Q0 e4
 have old:∀b o,s.heap.get? b= ↑o->j.get? b= ↑o:=λb o e=>kp b o (N3 (NW e)) (Ar _ e);refine xd (wpAny_load U (Nv (xd (wpAny_newList ?_ (by rw[M,NC,Ol];lia)))));have t:(j.push (seqObj "list" d.toList.toArray 0)).get? j.objs.size= ↑(seqObj "list" d.toList.toArray 0):=NG _ rfl;refine xd (Ox (OR slot_list_sort (_,t,rfl) entry_list_sort (list_sort_treeK strKind_oneLt t st.keysOf (λv1 v2 rest e=>keyKind_strs (e▸st)) (by rw[M,NC];lia) λE hp hs=>(_,rfl,?_)) (args_list_sort _)));let(g,p1,p2,p3):=sorted_out_str st hp hs;let(e,he):=sortedHeap_at (out:=(arrOf E).map (·.2)) t
 have N:∀b o,s.heap.get? b= ↑o->(sortedHeap (j.push (seqObj "list" d.toList.toArray 0)) j.objs.size d.toList ((arrOf E).map (·.2))).get? b= ↑o:=λb o hb=>by have lt:=NW (old b o hb);rw[sortedHeap_old (N3 lt) (by rw[size_push'];exact Qj lt)];exact Ar _ (old b o hb)
 have le:s.heap.objs.size<=j.objs.size:=O9 (NW U);refine Nv (_,rfl,⇑j.objs.size,_,I.laid (t':=L) N le (show RD X.prog X.w _ _ _ (.lst (g.map V.str)) from (?_,_,e,jB p1,he)),rfl,q _ g (I.hok.fresh le) p2 p3);rw[NC,p2.length_eq,NC,Ol];lia
end
end L2
namespace EV
open PySem PySem.Spec PyProof.Rows L2
inductive A where
 |Ro|bl (b:Bool)|int (i:Int)|str (n:Nat)|tup (xs:List A)
 |ref (i:Nat)|cl (xs:List A)|tab (t:Nat)|UY (n:Nat)|U8 (n:Nat)|SM|any
inductive C where
 |lst (xs:List A)|RK (xs:List A)|dct (ks:List (Nat×A))|SH (ks:List (Nat×A))|obj (k:Nat) (fs:List (Nat×A))
noncomputable abbrev Env:=List (Option A)
structure Rm where
 nx:Nat
 cs:List (Nat×C)
noncomputable def look{α:Type}(n:Nat):List (Nat×α)->Option α
 |[]=>none
 | (k,a)::r=>match Nat.beq k n with
  |true=>↑a
  |false=>look n r
noncomputable def put{α:Type}(n:Nat)(x:α):List (Nat×α)->List (Nat×α)
 |[]=>[]
 | (k,a)::r=>match Nat.beq k n with
  |true=>Prod.mk k x::r
  |false=>Prod.mk k a::put n x r
theorem nK(k n:Nat):Nat.beq k n=decide (k=n):=by rw[QX,Nat.beq_eq,Rb]
theorem aB{α:Type}{n:Nat}{a:α}{r:List (Nat×α)}:look n (Prod.mk k a::r)=if k=n then ↑a else look n r:=by show(match Nat.beq k n with|true=>↑a|false=>look n r)=_;rw[nK];by_cases h:k=n<;>simp[h]
theorem lN{α:Type}{n:Nat}{a x:α}{r:List (Nat×α)}:put n x (Prod.mk k a::r)=if k=n then (k,x)::r else (k,a)::put n x r:=by show(match Nat.beq k n with|true=>Prod.mk k x::r|false=>Prod.mk k a::put n x r)=_;rw[nK];by_cases h:k=n<;>simp[h]
theorem cD:∀{l:List (Nat×α)}{j:Nat}{c:α},look j (put n x l)= ↑c->(j=n/\c=x/\∃c0,look n l= ↑c0)\/(j≠n/\look j l= ↑c)
 |[],j,c,h=>nomatch h
 | (k,a)::r,j,c,h=>by
  rw[lN]at h;by_cases e:k=n
  ·rw[NL e,aB]at h;by_cases d:k=j
   ·rw[NL d]at h;cases h;exact .inl (by rw[<- d,e],rfl,a,by rw[aB,NL e])
   ·rw[NH d]at h;exact .inr (λz=>d (by rw[e,z]),by rw[aB,NH d];exact h)
  ·rw[NH e,aB]at h;by_cases d:k=j
   ·rw[NL d]at h;cases h;exact .inr (λz=>e (by rw[d,z]),by rw[aB,NL d])
   ·rw[NH d]at h;rcases cD h with⟨z,q,c0,q0⟩|⟨z,q⟩
    ·exact .inl (z,q,c0,by rw[aB,NH e];exact q0)
    ·exact .inr (z,by rw[aB,NH d];exact q)
structure Gx where
 K:W.Frag
 ST:List Str
 nd:ST.Nodup
 cls:Nat->Addr
 tb:Nat->Addr
 ns:List Int
mutual
noncomputable def R(g:Gx)(H:Hp)(m:zz):A->V->Prop
 | .Ro,v=>v=.Ro
 | .bl b,v=>v=.bl b
 | .int i,v=>v=.int i
 | .str n,v=>∃x,g.ST[n]?= ↑x/\v=.str x
 | .tup e,v=>∃a d,v= ⇑a/\RW g.K H a d/\Rs g H m e d
 | .ref i,v=>∃a,m[i]?= ↑a/\v= ⇑a
 | .cl e,v=>∃a d,v= ⇑a/\D9 g.K a d/\Rs g H m e d
 | .tab t,v=>v= ⇑(g.tb t)
 | .UY n,v=>∃a,v= ⇑a/\H a= ↑(.ext (pK a n))
 | .U8 n,v=>∃a,v= ⇑a/\H a= ↑(.U8 0 n)
 | .SM,v=>∃a,v= ⇑a/\WM g.K H a g.ns
 | .any,_=>True
noncomputable def Rs(g:Gx)(H:Hp)(m:zz):List A->List V->Prop
 |[],a=>a=[]
 |x::d,a=>∃v r,a=v::r/\R g H m x v/\Rs g H m d r
end
noncomputable def Rf(g:Gx)(H:Hp)(m:zz):List (Nat×A)->List (Str×V)->Prop :=
 Paired λp q=>g.ST[p.1]?= ↑q.1/\R g H m p.2 q.2
noncomputable def Vl(g:Gx)(H:Hp)(m:zz):C->Addr->Prop
 | .lst f,a=>∃e,H a= ↑(.lst e)/\Rs g H m f e
 | .RK f,a=>∃e,H a= ↑(.lst e)/\Rs g H m f e
 | .dct ks,a=>∃d,H a= ↑(.dK d)/\Rf g H m ks d
 | .SH ks,a=>∃o d,H a= ↑(.Th o (.dK d))/\Rf g H m ks d
 | .obj k fs,a=>∃i gs,H a= ↑(.ins (g.tb k) i gs)/\Rf g H m fs gs
structure Rz(g:Gx)(m:zz)(S:Rm)(H:Hp):Prop where
 len:m.length=S.nx
 nd:m.Nodup
 up:∀a∈m,H a≠none
 cell:∀(i:Nat)(c:C),look i S.cs= ↑c->∃a,m[i]?= ↑a/\Vl g H m c a
noncomputable def C.Yj:C->Bool
 | .RK _=>false
 | .SH _=>false
 |_=>true
noncomputable def VE(m:zz)(S:Rm)(a:Addr):Prop:=∃(i:Nat)(c:C),m[i]?= ↑a/\look i S.cs= ↑c/\c.Yj=true
structure Ext(m:zz)(S:Rm)(H:Hp)(m':zz)(S':Rm)(H':Hp):Prop where
 pre:∃k,m'=m++k/\∀a∈k,H a=none
 low:∀a,H' a=none->H a=none
 keep:∀a o,¬ VE m S a->H a= ↑o->H' a= ↑o
 bk:∀(i:Nat)(c:C),i<m.length->look i S'.cs= ↑c->c.Yj=true->∃c0,look i S.cs= ↑c0/\c0.Yj=true
section
variable{m m':zz}{H H':Hp}
theorem Rs.nil:Rs g H m [] []:=by unfold Rs;rfl
theorem Rs.cons(h:R g H m x v)(r:Rs g H m d a):Rs g H m (x::d) (v::a):=by unfold Rs;exact(v,a,rfl,h,r)
theorem Rs.SE(h:Rs g H m [] a):a=[]:=by unfold Rs at h;exact h
theorem Rs.RN(h:Rs g H m (x::a) d):∃v r,d=v::r/\R g H m x v/\Rs g H m a r:=by unfold Rs at h;exact h
theorem R.Ye(h:R g H m .Ro v):v=.Ro:=by unfold R at h;exact h
theorem R.Z2(h:R g H m (.bl b) v):v=.bl b:=by unfold R at h;exact h
theorem R.Wv(h:R g H m (.int i) v):v=.int i:=by unfold R at h;exact h
theorem R.scrE(h:R g H m .SM v):∃a,v= ⇑a/\WM g.K H a g.ns:=by unfold R at h;exact h
theorem R.Ro:R g H m .Ro .Ro:=by unfold R;rfl
theorem R.bl(b:Bool):R g H m (.bl b) (.bl b):=by unfold R;rfl
theorem R.int(i:Int):R g H m (.int i) (.int i):=by unfold R;rfl
theorem R.str{g:Gx}(h:g.ST[n]?= ↑x):R g H m (.str n) (.str x):=by unfold R;exact(x,h,rfl)
theorem R.tup{g:Gx}(h:RW g.K H a d)(r:Rs g H m e d):R g H m (.tup e) ⇑a:=by unfold R;exact(a,d,rfl,h,r)
theorem R.ref(h:m[i]?= ↑a):R g H m ⇑i ⇑a:=by unfold R;exact(a,h,rfl)
theorem R.any:R g H m .any v:=by unfold R;exact True.intro
theorem Rs.length:∀{a:List A}{d:List V},Rs g H m a d->d.length=a.length
 |[],_,h=>by rw[h.SE];rfl
 |_::a,_,h=>by let(v,r,e,_,f):=h.RN;subst e;simp[Rs.length f]
theorem Rs.get:∀{xs:List A}{a:List V}{i:Nat}{x:A},Rs g H m xs a->xs[i]?= ↑x->∃v,a[i]?= ↑v/\R g H m x v
 |[],_,_,_,_,e=>by simp at e
 |_::xs,_,0,x,h,e=>by let(v,r,rfl,h1,_):=h.RN;simp at e;subst e;exact(v,rfl,h1)
 |_::xs,_,i+1,x,h,e=>by let(v,r,rfl,_,d):=h.RN;let(u,e1,e2):=Rs.get (i:=i) (x:=x) d (by simpa using e);exact(u,by simpa using e1,e2)
theorem Rs.append:∀{a d:List A}{e f:List V},Rs g H m a e->Rs g H m d f->Rs g H m (a++d) (e++f)
 |[],_,_,_,h,k=>by rw[h.SE];exact k
 |x::a,_,_,_,h,k=>by let(v,r,rfl,h1,i):=h.RN;exact .cons h1 (Rs.append i k)
theorem Rs.take:∀{a:List A}{d:List V}(n:Nat),Rs g H m a d->Rs g H m (a.take n) (d.take n)
 |_,_,0,_=>by simp only[List.take_zero];exact .nil
 |[],_,_+1,h=>by rw[h.SE];exact .nil
 |x::a,_,n+1,h=>by let(v,r,rfl,h1,e):=h.RN;exact .cons h1 (Rs.take n e)
theorem Rs.drop:∀{a:List A}{d:List V}(n:Nat),Rs g H m a d->Rs g H m (a.drop n) (d.drop n)
 |_,_,0,h=>h
 |[],_,_+1,h=>by rw[h.SE];exact .nil
 |x::a,_,n+1,h=>by let(v,r,rfl,h1,e):=h.RN;exact Rs.drop n e
theorem Rs.set(q:R g H m x v):∀{a:List A}{e:List V}(n:Nat),Rs g H m a e->Rs g H m (a.set n x) (e.set n v)
 |[],_,_,h=>by rw[h.SE];exact .nil
 |_::a,_,0,h=>by let(v,r,rfl,h1,d):=h.RN;exact .cons q d
 |_::a,_,n+1,h=>by let(v,r,rfl,h1,d):=h.RN;exact .cons h1 (Rs.set q n d)
theorem Rs.rev:∀{a:List A}{d:List V},Rs g H m a d->Rs g H m a.reverse d.reverse
 |[],_,h=>by rw[h.SE];exact .nil
 |x::a,_,h=>by let(v,r,rfl,h1,e):=h.RN;rw[Qg,Qg];exact(Rs.rev e).append (.cons h1 .nil)
theorem Ext.refl:Ext m S H m S H:=(([],by simp),λ_ h=>h,λ_ _ _ h=>h,λ_ c _ h o=>(c,h,o))
theorem cq{α:Type}{l k:List α}{i:Nat}{a:α}(h:l[i]?= ↑a):(l++k)[i]?= ↑a:=by rw[N7 (LD.mp h).1];exact h
noncomputable def uI:HO->Bool
 | .Th _ (.dK _)=>true
 | .lst _=>true
 | .dK _=>true
 | .ins _ _ _=>true
 |_=>false
theorem Vl.has(h:Vl g H m c a):∃o,H a= ↑o/\uI o=true:=by
 cases c with
 |lst f=>let(d,e,_):=h;exact(_,e,rfl)
 |RK f=>let(d,e,_):=h;exact(_,e,rfl)
 |dct ks=>let(d,e,_):=h;exact(_,e,rfl)
 |SH ks=>let(o,d,e,_):=h;exact(_,e,rfl)
 |obj k fs=>let(p,q,e,_):=h;exact(_,e,rfl)
theorem Rz.Wz(s:Rz g m S H)(h:H a= ↑o)(d:uI o=false):¬ VE m S a:=λ⟨i,c,e,e2,_⟩=>by let(b,q,ok):=s.cell i c e2;rw[e]at q;cases q;let(f,q,z):=ok.has;rw[h]at q;cases q;rw[d]at z;cases z
noncomputable def Tn(m:zz)(H:Hp)(m':zz)(H':Hp):Prop:=(∀(i:Nat) a,m[i]?= ↑a->m'[i]?= ↑a)/\∀a o,uI o=false->H a= ↑o->H' a= ↑o
theorem Ext.stay(x:Ext m S H m' j H')(s:Rz g m S H):Tn m H m' H':=(λi a e=>let⟨k,d,_⟩:=x.pre;d▸cq e,λa _ f h=>x.keep a _ (s.Wz h f) h)
theorem Tn.Yk{g:Gx}(t:Tn m H m' H')(h:RW g.K H a d):RW g.K H' a d:=by
 rcases h with(h|⟨o,h⟩)|h
 ·exact .inl (.inl (t.2 _ _ rfl h))
 ·exact .inl (.inr (o,t.2 _ _ rfl h))
 ·exact .inr h
theorem Ext.Yk(x:Ext m S H m' e H')(s:Rz g m S H)(h:RW g.K H a d):RW g.K H' a d:=(x.stay s).Yk h
mutual
theorem R.stay(t:Tn m H m' H'):∀(a:A){v:V},R g H m a v->R g H' m' a v
 | .Ro,_,h | .bl _,_,h | .int _,_,h | .str _,_,h | .tab _,_,h | .any,_,h=>h
 | .SM,_,⟨a,e,q⟩=>(a,e,q.imp (λ⟨o,q⟩=>(o,t.2 _ _ rfl q)) id)
 | .tup d,_,⟨a,f,e,q,r⟩=>(a,f,e,t.Yk q,Rs.stay t d r)
 | .cl d,_,⟨a,f,e,q,r⟩=>(a,f,e,q,Rs.stay t d r)
 | .ref _,_,⟨a,e,q⟩=>(a,t.1 _ _ e,q)
 | .UY _,_,⟨a,e,q⟩ | .U8 _,_,⟨a,e,q⟩=>(a,e,t.2 _ _ rfl q)
theorem Rs.stay(t:Tn m H m' H'):∀(d:List A){f:List V},Rs g H m d f->Rs g H' m' d f
 |[],_,h=>h
 |a::d,_,⟨v,r,e,h1,i⟩=>(v,r,e,R.stay t a h1,Rs.stay t d i)
end
theorem Tn.upd(h:H p= ↑o)(c:uI o=true):Tn m H m (upd H p u):=(λ_ _ e=>e,λa w d e=>by rw[ao λz=>by rw[z,h]at e;cases e;rw[c]at d;cases d];exact e)
theorem Tn.more(k:zz):Tn m H (m++k) H:=(λ_ _ e=>cq e,λ_ _ _ h=>h)
theorem R.mono(x:Ext m S H m' d H')(s:Rz g m S H)(a:A)(h:R g H m a v):R g H' m' a v:=R.stay (x.stay s) a h
theorem Rs.mono(x:Ext m S H m' e H')(s:Rz g m S H)(a:List A)(h:Rs g H m a d):Rs g H' m' a d:=Rs.stay (x.stay s) a h
theorem Rf.stay(t:Tn m H m' H'):∀{ks:List (Nat×A)}{a:List (Str×V)},Rf g H m ks a->Rf g H' m' ks a
 |_,_,.nil=>.nil
 |_,_,.cons h r=>.cons (h.1,R.stay t _ h.2) (Rf.stay t r)
theorem Rf.mono(x:Ext m S H m' d H')(s:Rz g m S H)(h:Rf g H m ks a):Rf g H' m' ks a:=h.stay (x.stay s)
theorem Ext.trans(x:Ext m S H m' g H')(y:Ext m' g H' m2 l p):Ext m S H m2 l p:=by
 let(k,rfl,hk):=x.pre;let(j,rfl,r):=y.pre;refine((k++j,by simp,λa t=>?_),λa h=>x.low a (y.low a h),λa o f h=>?_,λi c d h o=>?_)
 ·rcases NS.mp t with h|h
  ·exact hk a h
  ·exact x.low a (r a h)
 ·refine y.keep a o (λ⟨i,c,e,e2,u⟩=>f ?_) (x.keep a o f h);by_cases d:i<m.length
  ·rw[N7 d]at e;let(c0,q,q0):=x.bk i c d e2 u;exact(i,c0,e,q,q0)
  ·rw[N5 ⋯]at e;rw[hk a (Oq e)]at h;cases h
 ·let(c1,q,v):=y.bk i c (by simp;lia) h o;exact x.bk i c1 d q v
theorem Ext.new(h:H p=none)(o:HO):Ext m S H m S (upd H p o) :=
 ⟨([],by simp),λa e=>by
   by_cases z:a=p
   ·rw[z];exact h
   ·rw[ao z]at e;exact e,λa d _ e=>by rw[ao (bo e h)];exact e,λ_ c _ e o=>(c,e,o)⟩
theorem Vl.stay(t:Tn m H m' H')(h:Vl g H m c a)(e:∀o,H a= ↑o->H' a= ↑o):Vl g H' m' c a:=by
 cases c with
 |lst f=>let(d,q,r):=h;exact(d,e _ q,Rs.stay t _ r)
 |RK f=>let(d,q,r):=h;exact(d,e _ q,Rs.stay t _ r)
 |dct ks=>let(d,q,r):=h;exact(d,e _ q,r.stay t)
 |SH ks=>let(o,d,q,r):=h;exact(o,d,e _ q,r.stay t)
 |obj k fs=>let(i,gs,q,r):=h;exact(i,gs,e _ q,r.stay t)
theorem Vl.mono(x:Ext m S H m' d H')(s:Rz g m S H)(h:Vl g H m c a)(e:∀o,H a= ↑o->H' a= ↑o):Vl g H' m' c a:=h.stay (x.stay s) e
theorem Rz.new(s:Rz g m S H)(h:H p=none)(o:HO):Rz g m S (upd H p o) :=
 ⟨s.len,s.nd,λa d z=>s.up a d ((Ext.new (m:=m) (S:=S) h o).low a z),λi c e=>by
  let(a,q,ok):=s.cell i c e;exact(a,q,ok.mono (Ext.new h o) s λf q=>by rw[ao (bo q h)];exact q)⟩
theorem Rz.alloc(s:Rz g m S H)(h:H p=none)(k:Ext m S H (m++[p]) (S.nx+1,(S.nx,c)::S.cs) (upd H p o)->Vl g (upd H p o) (m++[p]) c p) :
  Rz g (m++[p]) (S.nx+1,(S.nx,c)::S.cs) (upd H p o)/\Ext m S H (m++[p]) (S.nx+1,(S.nx,c)::S.cs) (upd H p o):=by
 have x:Ext m S H (m++[p]) (S.nx+1,(S.nx,c)::S.cs) (upd H p o) :=
  ⟨([p],rfl,λa f=>by rw[NI.mp f];exact h),(Ext.new (m:=m) (S:=S) h o).low,(Ext.new h o).keep,λi l j e r=>by
   rw[aB,NH (by rw[<- s.len];lia)]at e;exact(l,e,r)⟩
 refine((by simp[s.len],?_,λa f z=>?_,λi d e=>?_),x)
 ·rw[Rk];refine(s.nd,by simp,λa f b t z=>?_);rw[NI.mp t]at z;exact s.up p (z▸f) h
 ·rcases NS.mp f with q|q
  ·exact s.up a q (x.low a z)
  ·rw[NI.mp q,ak]at z;cases z
 ·rw[aB]at e;by_cases j:S.nx=i
  ·rw[NL j]at e;cases e;refine(p,?_,k x);rw[<- j,<- s.len];simp
  ·rw[NH j]at e;let(a,q,ok):=s.cell i d e;exact(a,cq q,ok.mono x s λu q=>by rw[ao (bo q h)];exact q)
theorem Rz.uniq{g:Gx}{S:Rm}(s:Rz g m S H){i j:Nat}(h:m[i]?= ↑a)(d:m[j]?= ↑a):i=j:=(Ql (LD.mp h).1 s.nd).mp (by rw[h,d])
theorem Rz.write(s:Rz g m S H)(f:m[i]?= ↑a)(h0:look i S.cs= ↑c0)(k:c0.Yj=true)
  (p:Ext m S H m (S.nx,put i c S.cs) (upd H a o)->Vl g (upd H a o) m c a):Rz g m (S.nx,put i c S.cs) (upd H a o)/\Ext m S H m (S.nx,put i c S.cs) (upd H a o):=by
 have x:Ext m S H m (S.nx,put i c S.cs) (upd H a o):=by
  refine(([],by simp),λb e=>?_,λb u r e=>?_,λj t _ e v=>?_)
  ·by_cases z:b=a
   ·subst z;rw[ak]at e;cases e
   ·rw[ao z]at e;exact e
  ·have z:b≠a:=λz=>r (i,c0,by rw[z];exact f,h0,k);rw[ao z];exact e
  ·rcases cD e with⟨z,_,_⟩|⟨_,q⟩
   ·rw[z];exact(c0,h0,k)
   ·exact(t,q,v)
 refine((s.len,s.nd,λa y z=>s.up a y (x.low a z),λj d e=>?_),x);rcases cD e with⟨z,q,_⟩|⟨z,q⟩
 ·rw[z,q];exact(a,f,p x)
 ·let(b,l,ok):=s.cell j d q;refine(b,l,ok.mono x s λG B=>?_);have E:b≠a:=λw=>z (s.uniq (w▸l) f);rw[ao E];exact B
end
inductive Res(α:Type) where
 |ok (a:α) (S:Rm)|exc (c:Nat) (S:Rm)|bad
noncomputable abbrev RJ:=List A->Rm->Res A
noncomputable abbrev RC:=Nat->RJ
noncomputable def Res.b{α β:Type}(r:Res α)(f:α->Rm->Res β):Res β:=match r with
 | .ok a S=>f a S
 | .exc c S=>.exc c S
 | .bad=>.bad
inductive Fl where
 |nx (ρ:Env)|bk (ρ:Env)|ct (ρ:Env)|rt (a:A)
inductive XR where
 |ok (f:Fl) (S:Rm)|exc (c:Nat) (ρ:Env) (S:Rm)|bad
class Yl (α:Type) where
 bad:α
instance{α:Type}:Yl (Res α):=⟨.bad⟩
instance{α:Type}:Yl (Option α):=⟨none⟩
instance:Yl XR:=⟨.bad⟩
noncomputable def rO{α β:Type}[Yl β](o:Option α)(f:α->β):β:=match o with
 |some a=>f a
 |none=>Yl.bad
noncomputable def gB{β:Type}[Yl β](b:Bool)(r:β):β:=match b with
 |true=>r
 |false=>Yl.bad
noncomputable def Res.x{α:Type}(r:Res α)(d:Env)(f:α->Rm->XR):XR:=match r with
 | .ok a S=>f a S
 | .exc c S=>.exc c d S
 | .bad=>.bad
noncomputable def fl{α:Type}{β:Type}(l:List α)(k:List α->β):β:=k l
theorem aL(l:List α)(k:List α->β):fl l k=k l:=rfl
noncomputable def fn{β:Type}(n:Nat)(k:Nat->β):β:=k n
theorem uT(n:Nat)(k:Nat->β):fn n k=k n:=rfl
noncomputable def fi{β:Type}(i:Int)(k:Int->β):β:=k i
theorem yy(i:Int)(k:Int->β):fi i k=k i:=rfl
noncomputable def WO:Int->Int->Bool
 | .ofNat a,.ofNat b=>Nat.beq a b
 | .negSucc a,.negSucc b=>Nat.beq a b
 |_,_=>false
noncomputable def UG:Int->Int->Bool
 | .ofNat a,.ofNat b=>Nat.ble a b
 | .negSucc a,.negSucc b=>Nat.ble b a
 | .negSucc _,.ofNat _=>true
 | .ofNat _,.negSucc _=>false
noncomputable def b2n:Bool->Int
 |true=>.ofNat 1
 |false=>.ofNat 0
noncomputable def nb:Bool->Bool
 |true=>false
 |false=>true
noncomputable def Bz:Bool->Bool->Bool
 |true,b=>b
 |false,b=>nb b
mutual
noncomputable def SN:A->A->Bool
 | .Ro,.Ro=>true
 | .bl a,.bl b=>Bz a b
 | .int a,.int b=>WO a b
 | .bl a,.int b=>WO (b2n a) b
 | .int a,.bl b=>WO a (b2n b)
 | .str a,.str b=>Nat.beq a b
 | .tup a,.tup b=>Vj a b
 |_,_=>false
noncomputable def Vj:List A->List A->Bool
 |[],[]=>true
 |a::r,b::q=>match SN a b with
  |true=>Vj r q
  |false=>false
 |_,_=>false
end
mutual
noncomputable def Uj:Nat->A->Bool
 |_,.Ro=>true
 |_,.bl _=>true
 |_,.int _=>true
 |_,.str _=>true
 |n+1,.tup a=>R8 n a
 |_,_=>false
noncomputable def R8:Nat->List A->Bool
 |_,[]=>true
 |n,x::a=>match Uj n x with
  |true=>R8 n a
  |false=>false
end
noncomputable def few{α:Type}:Nat->List α->Bool
 |_,[]=>true
 |0,_::_=>false
 |n+1,_::a=>few n a
noncomputable def RL(S:Rm)(i:Nat):Option (List A):=match look i S.cs with
 |some (.lst a)=>↑a
 |some (.RK a)=>↑a
 |_=>none
noncomputable def SO(S:Rm):A->Option (List A)
 | .ref i=>RL S i
 | .cl a=>↑a
 | .tup a=>↑a
 |_=>none
noncomputable def Rv(S:Rm):A->Option (List A)
 | .ref i=>RL S i
 | .cl a=>↑a
 |_=>none
noncomputable def Xx:List A->Bool
 |[]=>false
 |_::_=>true
noncomputable def Ym:A->Option Unit
 | .Ro=>↑()
 |_=>none
noncomputable def UO:A->Option Bool
 | .bl b=>↑b
 |_=>none
noncomputable def SD:A->Option Int
 | .int i=>↑i
 |_=>none
noncomputable def Uk:A->Option Nat
 | .int (.ofNat n)=>↑n
 |_=>none
noncomputable def Yn:A->Option Nat
 | .int (.ofNat (n+1))=>↑n
 |_=>none
noncomputable def Ul:A->Option (List A)
 | .tup a=>↑a
 |_=>none
noncomputable def Um:A->Option Nat
 | .str n=>↑n
 |_=>none
noncomputable def Xj:A->Option Nat
 | .UY n=>↑n
 |_=>none
noncomputable def Xk:A->Option Nat
 | .U8 n=>↑n
 |_=>none
noncomputable def T3(S:Rm):A->Option (Nat×List A)
 | .ref i=>match look i S.cs with
  |some (.lst a)=>↑(Prod.mk (i) a)
  |_=>none
 |_=>none
noncomputable def WQ(S:Rm):A->Option (Nat×List (Nat×A))
 | .ref i=>match look i S.cs with
  |some (.SH ks)=>↑(Prod.mk (i) ks)
  |_=>none
 |_=>none
noncomputable def mapR{β:Type}(f:A->Option β):List A->Option (List β)
 |[]=>some []
 |x::r=>rO (f x) λy=>rO (mapR f r) λl=>↑(y::l)
noncomputable def Xl(S:Rm):A->Option Bool
 | .Ro=>↑false
 | .bl b=>↑b
 | .int i=>↑(nb (WO i (.ofNat 0)))
 |a=>match SO S a with
  |some d=>↑(Xx d)
  |none=>none
noncomputable def Xm{α:Type}(a:List α):Int->Option α
 | .ofNat n=>a[n]?
 | .negSucc n=>match Nat.ble (n+1) a.length with
  |true=>a[a.length - (n+1)]?
  |false=>none
noncomputable def lA(x:A):List A->Bool
 |[]=>false
 |y::r=>match SN y x with
  |true=>true
  |false=>lA x r
noncomputable def UH(x:A):List A->Nat->Option Nat
 |[],_=>none
 |y::r,k=>match SN y x with
  |true=>↑k
  |false=>UH x r (k+1)
noncomputable abbrev strsOf:List A->Option (List Nat):=mapR Um
noncomputable def aG(n:Nat):List Nat->Bool
 |[]=>false
 |k::r=>match Nat.beq k n with
  |true=>true
  |false=>aG n r
noncomputable def mr:List Nat->List Nat->List Nat
 |acc,[]=>acc
 |acc,n::r=>match aG n acc with
  |true=>mr acc r
  |false=>mr (acc++[n]) r
noncomputable def R4:Nat->Nat->List A
 |_,0=>[]
 |k,n+1=>.int (.ofNat k)::R4 (k+1) n
noncomputable def ob{α:Type}(o:Option α)(S:Rm):Res α:=rO o λa=>.ok a S
noncomputable def bA(o:Option Bool)(S:Rm):Res A:=rO o λb=>.ok (.bl b) S
noncomputable def mk(c:C)(S:Rm):Res A:=match S with
 |⟨n,a⟩=>fn n λn=>.ok ⇑n (n+1,(n,c)::a)
theorem b8(c:C)(S:Rm):mk c S=.ok ⇑S.nx (S.nx+1,(S.nx,c)::S.cs):=by cases S;rfl
noncomputable def new(a:List A)(S:Rm):Res A:=gB (few 900 a) (fl a λa=>mk (.lst a) S)
noncomputable def AX(a:List A)(S:Rm):Res A:=gB (few 900 a) (fl a λa=>.ok (.tup a) S)
noncomputable def fM(i:Int)(S:Rm):Res A:=fi i λi=>.ok (.int i) S
noncomputable def wr{α:Type}(i:Nat)(c:C)(S:Rm)(k:Rm->α):α:=match S with
 |⟨n,a⟩=>fl (put i c a) λa=>k (n,a)
theorem bW(i:Nat)(c:C)(S:Rm)(k:Rm->α):wr i c S k=k (S.nx,put i c S.cs):=by cases S;rfl
noncomputable def A7(a:A)(S:Rm):Res A:=match a with
 | .int i=>fM (-i) S
 |_=>.bad
noncomputable def aX(a:A)(S:Rm):Res A:=rO (SO S a) λd=>fM (.ofNat d.length) S
noncomputable def A5(a:A)(S:Rm):Res A:=rO (Xj a) λn=>gB (Nat.ble n 900) (fM (.ofNat n) S)
noncomputable def j8(a:A)(S:Rm):Res A:=rO (Rv S a) λd=>rO (mapR UO d) λbs=>.ok (.bl (bs.all id)) S
noncomputable def xA(a:A)(S:Rm):Res A:=rO (Rv S a) λd=>rO (mapR UO d) λbs=>.ok (.bl (bs.any id)) S
noncomputable def pT(a:A)(S:Rm):Res A:=rO (Rv S a) λd=>rO (mapR SD d) λl=>fM l.sum S
noncomputable def ir(a:A)(S:Rm):Res A:=rO (SO S a) λd=>.ok (.tup d) S
noncomputable def pS(a:A)(S:Rm):Res A:=rO (SO S a) λd=>new d S
noncomputable def si(a:A)(S:Rm):Res A:=rO (Xk a) λn=>new (R4 0 n) S
noncomputable def Hc(a:A)(S:Rm):Res A:=rO (Rv S a) λd=>gB (few 90 d) (rO (strsOf d) λl=>fn (mr [] l).length λn=>.ok (.UY n) S)
noncomputable def A8(a:A)(S:Rm):Res A:=rO (Uk a) λn=>gB (Nat.ble n 900) (.ok (.U8 n) S)
noncomputable def Zl(S:Rm):A->Option Nat
 | .Ro=>↑0
 | .bl _=>↑1
 | .int _=>↑2
 | .str _=>↑3
 | .tup _=>↑4
 | .cl _=>↑5
 | .ref i=>match RL S i with
  |some _=>↑5
  |none=>none
 |_=>none
noncomputable def Zm(t k:Nat):Bool:=match Nat.beq t k with
 |true=>true
 |false=>match k with
  |1=>Nat.beq t 2
  |_=>false
noncomputable def V9(t:Nat)(a:A)(S:Rm):Res A:=rO (Zl S a) λk=>.ok (.bl (Zm t k)) S
noncomputable def wj(f:Int->Int->Bool)(a b:A)(S:Rm):Res A:=rO (SD a) λi=>rO (SD b) λj=>.ok (.bl (f i j)) S
noncomputable def VF(S:Rm)(a b:A):Option Bool:=match Rv S a with
 |some d=>rO (Rv S b) λe=>gB (R8 20 d) (gB (R8 20 e) ↑(Vj d e))
 |none=>gB (Uj 20 a) (gB (Uj 20 b) ↑(SN a b))
noncomputable def YC(ks:List (Nat×A))(a:A):Option Bool:=rO (Um a) λn=>↑(look n ks).isSome
noncomputable def WT(S:Rm)(a b:A):Option Bool:=rO (SO S b) λd=>gB (Uj 20 a) (gB (R8 20 d) ↑(lA a d))
noncomputable def nO(o:Option Bool):Option Bool:=rO o λb=>↑(nb b)
noncomputable def bg(a b:A)(S:Rm):Res A:=match SD a with
 |some i=>rO (SD b) λj=>fM (i+j) S
 |none=>match Ul a with
  |some d=>rO (Ul b) λe=>AX (d++e) S
  |none=>rO (Rv S a) λd=>rO (Rv S b) λe=>new (d++e) S
noncomputable def ij(a b:A)(S:Rm):Res A:=rO (SD a) λi=>rO (SD b) λj=>fM (i - j) S
noncomputable def iV(a b:A)(S:Rm):Res A:=rO (SD a) λi=>rO (Yn b) λn=>fM (i%.ofNat (n+1)) S
noncomputable def zJ(a b:A)(S:Rm):Res A:=rO (SD a) λi=>rO (Yn b) λn=>gB (Nat.ble n 100000) (fM (i / .ofNat (n+1)) S)
noncomputable def oEq(a b:A)(S:Rm):Res A:=bA (VF S a b) S
noncomputable def R5(a b:A)(S:Rm):Res A:=bA (nO (VF S a b)) S
noncomputable def oLt(a b:A)(S:Rm):Res A:=wj (λi j=>nb (UG j i)) a b S
noncomputable def oLe(a b:A)(S:Rm):Res A:=wj UG a b S
noncomputable def Xn(a b:A)(S:Rm):Res A:=wj (λi j=>nb (UG i j)) a b S
noncomputable def YD(a b:A)(S:Rm):Res A:=wj (λi j=>UG j i) a b S
noncomputable def UP:A->Option Bool
 | .Ro=>↑true
 | .any=>none
 |_=>↑false
noncomputable def iq(a:A)(S:Rm):Res A:=bA (UP a) S
noncomputable def ja(a:A)(S:Rm):Res A:=bA (nO (UP a)) S
noncomputable def UQ(a b:A)(S:Rm):Res A:=bA (WT S a b) S
noncomputable def zK(a b:A)(S:Rm):Res A:=bA (nO (WT S a b)) S
noncomputable def Rp(a b:A)(S:Rm):Res A:=rO (SD b) λi=>rO (SO S a) λd=>ob (Xm d i) S
noncomputable def TU(n:Nat)(a:A):Option Nat:=rO (Uk a) λi=>↑(match Nat.ble i n with|true=>i|false=>n)
noncomputable def ux(a lo:A)(S:Rm):Res A:=rO (Ul a) λd=>rO (TU d.length lo) λl=>AX (d.drop l) S
noncomputable def Lp(a lo e:A)(S:Rm):Res A:=rO (Ul a) λd=>rO (TU d.length lo) λl=>rO (TU d.length e) λh=>AX ((d.drop l).take (h - l)) S
noncomputable def Dp(a lo e:A)(S:Rm):Res A:=rO (Rv S a) λd=>rO (TU d.length lo) λl=>rO (TU d.length e) λh=>new ((d.drop l).take (h - l)) S
noncomputable def dB(o a:A)(S:Rm):Res A:=rO (T3 S o) λp=>gB (few 900 p.2) (fl (p.2++[a]) λd=>wr p.1 (.lst d) S λS=>.ok .Ro S)
noncomputable def oU(o a:A)(S:Rm):Res A:=rO (T3 S o) λp=>rO (T3 S a) λq=>gB (few 900 (p.2++q.2)) (fl (p.2++q.2) λd=>wr p.1 (.lst d) S λS=>.ok .Ro S)
noncomputable def lg(o:A)(S:Rm):Res A:=rO (T3 S o) λp=>rO p.2[p.2.length - 1]? λy=>fl p.2.dropLast λa=>wr p.1 (.lst a) S λS=>.ok y S
noncomputable def zA(o a:A)(S:Rm):Res A:=rO (Rv S o) λd=>gB (few 900 d) (gB (Uj 20 a) (gB (R8 20 d) (rO (UH a d 0) λk=>fM (.ofNat k) S)))
noncomputable def zip2:List A->List A->List A
 |x::a,y::d=>.tup [x,y]::zip2 a d
 |_,_=>[]
noncomputable def cB{α:Type}(a:List A)(S:Rm)(k:Rm->α):α:=match a with
 | .ref i::_=>match look i S.cs with
  |some (.lst d)=>wr i (.RK d) S k
  |_=>k S
 |_=>k S
noncomputable def bJ{α:Type}(a:Rm)(d:List A)(S:Rm)(k:Rm->α):α:=match d with
 | .ref i::_=>match look i a.cs with
  |some (.lst e)=>wr i (.lst e) S k
  |_=>k S
 |_=>k S
noncomputable def XR.back(a:Rm)(d:List A):XR->XR
 | .ok f S=>bJ a d S λS=>.ok f S
 | .exc c e S=>bJ a d S λS=>.exc c e S
 | .bad=>.bad
noncomputable def Res.back{α:Type}(d:Rm)(e:List A):Res α->Res α
 | .ok a S=>bJ d e S λS=>.ok a S
 | .exc c S=>bJ d e S λS=>.exc c S
 | .bad=>.bad
noncomputable abbrev Ce:=Env->Rm->Res A
noncomputable abbrev Ct:=Env->Rm->Res Bool
noncomputable abbrev Ca:=Env->Rm->Res (List A)
noncomputable abbrev Ci:=Env->Rm->Res (List A×List A)
noncomputable abbrev Cs:=Env->Rm->XR
noncomputable abbrev TV:=A->Env->Option Env
noncomputable def cV(i:Nat):Ce:=λd S=>match d[i]? with
 |some ↑a=>.ok a S
 |_=>.bad
noncomputable def cC(a:A):Ce:=λ_ S=>.ok a S
noncomputable abbrev cI(n:Nat):Ce:=cC (.int (.ofNat n))
noncomputable abbrev cZ(n:Nat):Ce:=cC (.str n)
noncomputable def aN:Ca:=λ_ S=>.ok [] S
noncomputable def aC(e:Ce)(r:Ca):Ca:=λa S=>(e a S).b λx S=>(r a S).b λd S=>.ok (x::d) S
noncomputable def au(a:Ca):Ce:=λd S=>(a d S).b λe S=>AX e S
noncomputable def bf(a:Ca):Ce:=λd S=>(a d S).b λe S=>new e S
noncomputable def cU(u:A->Rm->Res A)(e:Ce):Ce:=λa S=>(e a S).b u
noncomputable def cO(o:A->A->Rm->Res A)(a b:Ce):Ce:=λd S=>(a d S).b λx S=>(b d S).b λy S=>o x y S
noncomputable def cNt(a:Ce):Ce:=λd S=>(a d S).b λx S=>rO (UO x) λk=>.ok (.bl (nb k)) S
noncomputable def UZ(a b:Ce):Ce:=λd S=>(a d S).b λx S=>rO (UO x) λk=>match k with
 |true=>b d S
 |false=>.ok (.bl false) S
noncomputable def Zn(a b:Ce):Ce:=λd S=>(a d S).b λx S=>rO (UO x) λk=>match k with
 |true=>.ok (.bl true) S
 |false=>b d S
noncomputable def T4(c:Ct)(a b:Ce):Ce:=λd S=>(c d S).b λk S=>match k with
 |true=>a d S
 |false=>b d S
noncomputable def WU(a b c:Ce):Ce:=λd S=>(a d S).b λx S=>(b d S).b λy S=>(oLe x y S).b λz S=>rO (UO z) λk=>match k with
 |true=>(c d S).b λw S=>oLe y w S
 |false=>.ok (.bl false) S
noncomputable def Zo(e lo d:Ce):Ce:=λa S=>(e a S).b λx S=>(lo a S).b λl S=>rO (Uk l) λi=>(d a S).b λh S=>match Ul x with
 |some f=>Lp (.tup f) (.int (.ofNat i)) h S
 |none=>Dp x (.int (.ofNat i)) h S
noncomputable def ae(f:RJ)(a:Ca):Ce:=λd S=>(a d S).b f
noncomputable def sO(ks:List (Nat×A))(a:Ce):Ce:=λd S=>(a d S).b λx S=>bA (YC ks x) S
noncomputable def uG(ks:List (Nat×A))(a:Ce):Ce:=λd S=>(a d S).b λx S=>bA (nO (YC ks x)) S
noncomputable def vZ(ks:List (Nat×A))(a:Ce):Ce:=λd S=>(a d S).b λx S=>rO (Um x) λn=>ob (look n ks) S
noncomputable def mP(ks:List (Nat×A))(a b:Ce):Ce:=λd S=>(a d S).b λx S=>rO (Um x) λn=>(b d S).b λy S=>rO (SD y) λi=>match look n ks with
 |some z=>rO (SD z) λj=>.ok (.int j) S
 |none=>.ok (.int i) S
noncomputable abbrev Hu(ks:List (Nat×A))(a:Ce)(i:Int):Ce:=mP ks a (cC (.int i))
noncomputable def cM(f:A->A->Rm->Res A)(o e:Ce):Ce:=λa S=>(o a S).b λx S=>rO (Rv S x) λ_=>(e a S).b λy S=>f x y S
noncomputable def Ex(ks:List Nat)(a:Ca):Ce:=λd S=>(a d S).b λe S=>fl (ks.zip e) λl=>mk (.dct l) S
noncomputable def Sy(a:Nat)(fr:List Nat)(d:Env):Env:=List.replicate a none++fr.map λj=>(d[j]?).getD none
noncomputable def Ti(f:TV)(g:Ct)(a:Ce):List A->Env->List A->Rm->Res (List A)
 |[],_,d,S=>.ok d S
 |x::i,e,d,S=>match f x e with
  |none=>.bad
  |some e=>(g e S).b λk S=>match k with
   |true=>(a e S).b λy S=>fl (d++[y]) λd=>Ti f g a i e d S
   |false=>Ti f g a i e d S
noncomputable def Res.UU{α:Type}:Res α->Res α
 | .exc _ _=>.bad
 |r=>r
noncomputable def ay(it:Ci)(a:Nat)(fr:List Nat)(f:TV)(g:Ct)(d:Ce):Ce:=λe S=>(it e S).b λp S=>gB (few 900 p.1) (fl (Sy a fr e) λi=>((cB p.2 S λL=>(Ti f g d p.1 i [] L).UU).back S p.2).b λj S=>new j S)
noncomputable def tV(e:Ce):Ct:=λa S=>(e a S).b λx S=>ob (Xl S x) S
noncomputable def tT:Ct:=λ_ S=>.ok true S
noncomputable def Sn(a:Ct):Ct:=λd S=>(a d S).b λk S=>.ok (nb k) S
noncomputable def Wj(a b:Ct):Ct:=λd S=>(a d S).b λk S=>match k with
 |true=>b d S
 |false=>.ok false S
noncomputable def Tf(a b:Ct):Ct:=λd S=>(a d S).b λk S=>match k with
 |true=>.ok true S
 |false=>b d S
noncomputable def iL(e:Ce):Ci:=λa S=>(e a S).b λx S=>rO (Rv S x) λd=>.ok (d,[x]) S
noncomputable def iT(e:Ce):Ci:=λa S=>(e a S).b λx S=>rO (Ul x) λd=>.ok (d,[]) S
noncomputable def qP(e:Ce):Ci:=λa S=>(e a S).b λx S=>rO (Rv S x) λd=>fl d.reverse λf=>.ok (f,[x]) S
noncomputable def wI(a b:Ce):Ci:=λd S=>(a d S).b λx S=>(b d S).b λy S=>rO (Ul x) λe=>rO (Ul y) λf=>gB (Nat.beq e.length f.length) (fl (zip2 e f) λg=>.ok (g,[]) S)
noncomputable def mx(e:Ce):Ci:=λa S=>(e a S).b λx S=>rO (Uk x) λn=>gB (Nat.ble n 1000) (fl (R4 0 n) λd=>.ok (d,[]) S)
noncomputable def Wx(ks:List (Nat×A)):Ci:=λ_ S=>.ok (ks.map (λp=>.str p.1),[]) S
noncomputable def gN(i:Nat):TV:=λa d=>fl (d.set i ↑a) some
noncomputable def XA:List TV->List A->Env->Option Env
 |[],[],a=>↑a
 |t::d,x::e,a=>rO (t x a) λa=>XA d e a
 |_,_,_=>none
noncomputable def gT(d:List TV):TV:=λa e=>rO (Ul a) λf=>XA d f e
noncomputable def aw(i:Nat)(e:Ce):Cs:=λa S=>(e a S).x a λx S=>fl (a.set i ↑x) λa=>.ok (.nx a) S
noncomputable def dJ(d:TV)(e:Ce):Cs:=λa S=>(e a S).x a λx S=>rO (d x a) λa=>.ok (.nx a) S
noncomputable def AK(d:List TV)(e:Ce):Cs:=λa S=>(e a S).x a λx S=>rO (Rv S x) λf=>rO (XA d f a) λa=>.ok (.nx a) S
noncomputable def mC(d:List TV)(e:Ca):Cs:=λa S=>(e a S).x a λf S=>rO (XA d f a) λa=>.ok (.nx a) S
noncomputable def Dk(i:Nat)(e:Ce):Cs:=λd S=>rO d[i]? λo=>rO o λx=>rO (SD x) λa=>(e d S).x d λx S=>rO (SD x) λb=>fi (a+b) λc=>fl (d.set i ↑(.int c)) λd=>.ok (.nx d) S
noncomputable def RX(e:Ce):Cs:=λa S=>(e a S).x a λ_ S=>.ok (.nx a) S
noncomputable def ah(e:Ce):Cs:=λa S=>(e a S).x a λx S=>.ok (.rt x) S
noncomputable def Dm:Cs:=λ_ S=>.ok (.rt .Ro) S
noncomputable def Rw(c:Ct)(a b:Cs):Cs:=λd S=>(c d S).x d λk S=>match k with
 |true=>a d S
 |false=>b d S
noncomputable def lp(d:TV)(b:Cs):List A->Env->Rm->XR
 |[],a,S=>.ok (.nx a) S
 |x::e,a,S=>match d x a with
  |none=>.bad
  |some a=>match b a S with
   | .ok (.nx a) S=>lp d b e a S
   | .ok (.ct a) S=>lp d b e a S
   | .ok (.bk a) S=>.ok (.nx a) S
   |x=>x
noncomputable def dI(it:Ci)(d:TV)(b:Cs):Cs:=λa S=>(it a S).x a λp S=>(cB p.2 S λL=>lp d b p.1 a L).back S p.2
noncomputable def wl(c:Ct)(b:Cs):Nat->Env->Rm->XR
 |0,_,_=>.bad
 |n+1,a,S=>(c a S).x a λk S=>match k with
  |false=>.ok (.nx a) S
  |true=>match b a S with
   | .ok (.nx a) S=>wl c b n a S
   | .ok (.ct a) S=>wl c b n a S
   | .ok (.bk a) S=>.ok (.nx a) S
   |x=>x
noncomputable def AL(c:Ct)(b:Cs):Cs:=wl c b 90
noncomputable def ef(c:Nat)(d:Ca):Cs:=λa S=>(d a S).x a λe S=>gB (few 9 e) (.exc c a S)
noncomputable def XR.UU:XR->XR
 | .exc _ _ _=>.bad
 |r=>r
noncomputable def lS(b:Cs)(d:List Nat)(h:Cs):Cs:=λa S=>match b a S with
 | .exc c a S=>match aG c d with
  |true=>(h a S).UU
  |false=>.bad
 |x=>x
noncomputable def sCt:Cs:=λa S=>.ok (.ct a) S
noncomputable def Ry:Cs:=λa S=>.ok (.nx a) S
noncomputable def sq(s l:Cs):Cs:=λa S=>match s a S with
 | .ok (.nx a) S=>l a S
 |x=>x
noncomputable def done:XR->Res A
 | .ok (.nx _) S=>.ok .Ro S
 | .ok (.rt a) S=>.ok a S
 | .exc c _ S=>.exc c S
 |_=>.bad
noncomputable def T7(S:Rm)(k:Nat):A->Option (Nat×List (Nat×A))
 | .ref i=>match look i S.cs with
  |some (.obj a fs)=>match Nat.beq a k with
   |true=>↑(Prod.mk (i) fs)
   |false=>none
  |_=>none
 |_=>none
noncomputable def Vb(S:Rm):A->Option (Nat×List (Nat×A))
 | .ref i=>match look i S.cs with
  |some (.dct ks)=>↑(Prod.mk (i) ks)
  |some (.SH ks)=>↑(Prod.mk (i) ks)
  |_=>none
 |_=>none
noncomputable def Vm(S:Rm):A->Option (Nat×List (Nat×A))
 | .ref i=>match look i S.cs with
  |some (.dct ks)=>↑(Prod.mk (i) ks)
  |_=>none
 |_=>none
noncomputable def bc(k n:Nat)(o:Ce):Ce:=λa S=>(o a S).b λx S=>rO (T7 S k x) λp=>ob (look n p.2) S
noncomputable def jN(n:Nat)(v:A):List (Nat×A)->List (Nat×A)
 |[]=>[]
 | (k,a)::r=>match Nat.beq k n with
  |true=>Prod.mk k v::jN n v r
  |false=>Prod.mk k a::jN n v r
noncomputable def iK(n:Nat)(v:A)(ks:List (Nat×A)):List (Nat×A):=match look n ks with
 |some _=>jN n v ks
 |none=>ks++[Prod.mk n v]
noncomputable def fI(k n:Nat)(o e:Ce):Cs:=λa S=>(e a S).x a λy S=>(o a S).x a λx S=>rO (T7 S k x) λp=>gB (few 90 p.2) (fl (iK n y p.2) λfs=>wr p.1 (.obj k fs) S λS=>.ok (.nx a) S)
noncomputable def aJ(k d:Nat)(f:RJ)(o:Ce)(e:Ca):Ce:=λa S=>(o a S).b λx S=>rO (T7 S k x) λp=>gB (look d p.2).isNone ((e a S).b λg S=>f (x::g) S)
noncomputable def gJ(k:Nat)(f:RJ)(a:List A)(d:Ca):Ce:=λe S=>(d e S).b λg S=>(mk (.obj k []) S).b λx S=>(f (x::(g++a)) S).b λr S=>rO (Ym r) λ_=>.ok x S
noncomputable def sM(f:RJ)(a:List A)(d:Ca):Ce:=λe S=>(d e S).b λg S=>f (g++a) S
noncomputable def jg(f:RJ)(d:List A->List A->List A)(e ks:Ca):Ce:=λa S=>(e a S).b λg S=>(ks a S).b λbs S=>f (d g bs) S
noncomputable def jh(k d:Nat)(f:RJ)(e:List A->List A->List A)(o:Ce)(g ks:Ca):Ce:=λa S=>(o a S).b λx S=>rO (T7 S k x) λp=>gB (look d p.2).isNone ((g a S).b λi S=>(ks a S).b λbs S=>f (e (x::i) bs) S)
noncomputable def qh:Ce:=λ_ S=>mk (.dct []) S
noncomputable def rq(a b:A)(S:Rm):Res A:=rO (Um a) λn=>rO (Vb S b) λp=>.ok (.bl (look n p.2).isNone) S
noncomputable def gk(a b:A)(S:Rm):Res A:=rO (Vb S a) λp=>rO (Um b) λn=>ob (look n p.2) S
noncomputable def l5(a:A)(S:Rm):Res A:=rO (Vm S a) λp=>fM (.ofNat p.2.length) S
noncomputable def i5(d k e:Ce):Cs:=λa S=>(e a S).x a λv S=>(d a S).x a λx S=>(k a S).x a λy S=>rO (Um y) λn=>rO (Vm S x) λp=>gB (few 90 p.2) (fl (iK n v p.2) λks=>wr p.1 (.dct ks) S λS=>.ok (.nx a) S)
noncomputable def tY(a b:A)(S:Rm):Res A:=rO (Uk a) λi=>rO (Uk b) λj=>gB (Nat.ble i 99999999) (gB (Nat.ble j 99999999) (fM (.ofNat (i*j)) S))
noncomputable def ER(e:Ce):Ci:=λa S=>(e a S).b λx S=>rO (Ul x) λd=>fl d.reverse λf=>.ok (f,[]) S
noncomputable def nV(d:Nat)(f:TV)(e:Ce):List A->Env->Rm->Res Env
 |[],a,S=>.ok a S
 |x::i,a,S=>match f x a with
  |none=>.bad
  |some a=>(e a S).b λy S=>match look d S.cs with
   |some (.lst g)=>match few 900 g with
    |true=>fl (g++[y]) λj=>wr d (.lst j) S λS=>nV d f e i a S
    |false=>.bad
   |_=>.bad
noncomputable def mm(d:Nat)(f:TV)(g:Ci)(i:TV)(e:Ce):List A->Env->Rm->Res Env
 |[],a,S=>.ok a S
 |x::j,a,S=>match f x a with
  |none=>.bad
  |some a=>(g a S).b λp S=>((cB p.2 S λL=>nV d i e p.1 a L).back S p.2).b λa S=>mm d f g i e j a S
noncomputable def sN(it:Ci)(a:Nat)(fr:List Nat)(f:TV)(g:Ci)(i:TV)(d:Ce):Ce:=λe S=>(it e S).b λp S =>
 fl (Sy a fr e) λj=>((cB p.2 S λL=>match L with
  |⟨n,k⟩=>fn n λn=>(mm n f g i d p.1 j (n+1,(n,.lst [])::k)).UU.b λ_ L=>(Res.ok (A.ref n) L:Res A)).back S p.2)
noncomputable def mQ(k:Nat)(F:RJ)(o:Ce):Ce:=λa S=>(o a S).b λx S=>rO (T7 S k x) λ_=>(F [x] S).UU.b λr S=>rO (Uk r) λn=>gB (Nat.ble n 900) (.ok (.int (.ofNat n)) S)
noncomputable abbrev intsOf:List A->Option (List Int):=mapR SD
noncomputable def tq(n:Nat):List Nat->List Nat
 |[]=>[n]
 |k::r=>match Nat.ble n k with
  |true=>n::k::r
  |false=>k::tq n r
noncomputable def e9:List Nat->List Nat
 |[]=>[]
 |n::r=>tq n (e9 r)
noncomputable def mI(a l:List Nat):Bool:=l.all λn=>aG n a
noncomputable def AQ(a l:List Nat)(S:Rm):Res A:=gB (mI a l) (gB (few 60 l) (fl ((e9 l).map A.str) λd=>mk (.lst d) S))
noncomputable def xB(d:List Nat)(a:A)(S:Rm):Res A:=rO (Rv S a) λe=>rO (strsOf e) λl=>AQ d l S
noncomputable def nE(d:List Nat)(a:A)(S:Rm):Res A:=rO (Vm S a) λp=>AQ d (p.2.map (·.1)) S
noncomputable def oV:List Int->Option Int
 |[]=>none
 |i::r=>match oV r with
  |some j=>↑(match UG i j with|true=>i|false=>j)
  |none=>↑i
noncomputable def A6(a:A)(S:Rm):Res A:=rO (Rv S a) λd=>rO (intsOf d) λl=>rO (oV l) λi=>fM i S
noncomputable def f9(e:Ce):Ci:=λa S=>(e a S).b λx S=>rO (WQ S x) λp=>fl (p.2.map λp=>A.str p.1) λd=>.ok (d,[]) S
noncomputable def kY(e:Ce):Ci:=λa S=>(e a S).b λx S=>rO (WQ S x) λp=>fl (p.2.map λp=>p.2) λd=>.ok (d,[]) S
noncomputable def kA(d c:Ce):Ce:=λf S=>match d f S with
 | .ok ⇑i _=>match look i S.cs with
  |some (.dct ks)=>wr i (.SH ks) S λL=>match c f L with
   | .ok a e=>wr i (.dct ks) e λe=>.ok a e
   |_=>.bad
  |_=>.bad
 |_=>.bad
noncomputable def AJ(o:Ce)(k:Nat)(j:Int):Cs:=λa S=>(o a S).x a λx S=>rO (T3 S x) λp=>rO p.2[k]? λz=>rO (SD z) λz=>fi (z - j) λz=>fl (p.2.set k (.int z)) λd=>wr p.1 (.lst d) S λS=>.ok (.nx a) S
noncomputable def eA:Cs:=λ_ _=>.bad
noncomputable def old(n:Nat):List (Nat×C)->List (Nat×C)
 |[]=>[]
 | (i,c)::r=>match Nat.ble n i with
  |true=>old n r
  |false=>Prod.mk i c::old n r
noncomputable def av(e a:Nat)(body:Cs)(d:List A)(S:Rm):Res A:=match Nat.beq d.length e with
 |true=>fl (d.map some++List.replicate (a - d.length) none) λf=>done (body f S)
 |false=>.bad
mutual
noncomputable def Vn(p:A->Bool):A->Bool
 | .tup d=>SQ p d
 |a=>p a
noncomputable def SQ(p:A->Bool):List A->Bool
 |[]=>true
 |x::a=>Vn p x&&SQ p a
end
noncomputable def Tg:A->Bool
 | .Ro=>true
 | .bl _=>true
 | .int _=>true
 | .str _=>true
 |_=>false
noncomputable abbrev aQ:A->Bool:=Vn Tg
noncomputable abbrev ba:List A->Bool:=SQ Tg
noncomputable def gG(i:Nat):List A->Bool
 |[]=>true
 | .ref j::r=>match Nat.beq i j with
  |true=>false
  |false=>gG i r
 |_::r=>gG i r
noncomputable def fG(S:Rm):List A->Nat->Option (List A×List (Nat×C))
 |[],_=>↑([],[])
 | .ref i::r,k=>rO (RL S i) λd=>gB (ba d) (gB (gG i r) (rO (fG S r (k+1)) λp=>↑(⇑k::p.1,(k,.RK d)::p.2)))
 |a::r,k=>gB (aQ a) (rO (fG S r k) λp=>↑(a::p.1,p.2))
noncomputable def YE(n:Nat)(S:Rm):Res A->Res A
 | .ok a d=>match aQ a with
  |true=>.ok a S
  |false=>rO (T3 d a) λp=>gB (Nat.ble n p.1) (gB (ba p.2) (mk (.lst p.2) S))
 | .exc c _=>.exc c S
 | .bad=>.bad
noncomputable def ax(F:RJ)(a:List A)(S:Rm):Res A:=rO (fG S a 0) λp=>fn p.2.length λn=>YE n S (F p.1 (n,p.2))
noncomputable def lowP(n:Nat):A->Bool
 | .ref i=>Nat.blt i n
 | .cl a=>ba a
 | .tup _=>false
 |_=>true
noncomputable abbrev oO(n:Nat):A->Bool:=Vn (lowP n)
noncomputable abbrev jQ(n:Nat):List A->Bool:=SQ (lowP n)
noncomputable def vj(n:Nat)(ks:List (Nat×A)):Bool:=jQ n (ks.map (·.2))
noncomputable def B8(n:Nat):C->Bool
 | .lst a=>jQ n a
 | .RK a=>jQ n a
 | .dct ks=>vj n ks
 | .SH ks=>vj n ks
 | .obj _ fs=>vj n fs
noncomputable def cP(n:Nat):List (Nat×C)->Bool
 |[]=>true
 | (i,c)::r=>(Nat.ble n i||B8 n c)&&cP n r
noncomputable def eW(n:Nat):Env->Bool
 |[]=>true
 |none::r=>eW n r
 |some a::r=>oO n a&&eW n r
noncomputable def jZ{α:Type}(n:Nat)(S:Rm)(k:Rm->α):α:=match cP n S.cs with
 |true=>fl (old n S.cs) λa=>k (n,a)
 |false=>k S
noncomputable def ie(n:Nat):Res A->Res A
 | .ok a S=>match oO n a with
  |true=>jZ n S λS=>.ok a S
  |false=>.ok a S
 | .exc c S=>jZ n S λS=>.exc c S
 | .bad=>.bad
noncomputable def aM(F:RJ)(a:List A)(S:Rm):Res A:=ie S.nx (F a S)
noncomputable def kill:List Nat->Env->Env
 |[],a=>a
 |i::r,a=>kill r (match a[i]? with|some ↑_=>a.set i (some .any)|_=>a)
noncomputable def YF(d:List Nat)(n:Nat):XR->XR
 | .ok (.nx a) S=>fl (kill d a) λa=>match eW n a with
  |true=>jZ n S λS=>.ok (.nx a) S
  |false=>.ok (.nx a) S
 | .ok (.ct a) S=>fl (kill d a) λa=>match eW n a with
  |true=>jZ n S λS=>.ok (.ct a) S
  |false=>.ok (.ct a) S
 |x=>x
noncomputable def sG(a:List Nat)(b:Cs):Cs:=λd S=>YF a S.nx (b d S)
noncomputable def Out{α:Type}(g:Gx)(m:zz)(S:Rm)(H:Hp)(r:Res α)(P:α->List Addr->Rm->Hp->Prop)(E:XK):Prop:=match r with
 | .ok a e=>∀f d,Ext m S H f e d->Rz g f e d->P a f e d
 | .exc c e=>∀f d i,Ext m S H f e d->Rz g f e d->E ⇑(g.cls c) i d
 | .bad=>False
section
theorem Out.ext{α:Type}{g:Gx}{m m1:zz}{S f:Rm}{r:Res α}{P:α->List Addr->Rm->Hp->Prop}{E:XK}(x:Ext m S H m1 f i)(h:Out g m S H r P E):Out g m1 f i r P E:=by
 cases r with
 |ok a j=>exactλd e y s=>h d e (x.trans y) s
 |exc c j=>exactλd e k y s=>h d e k (x.trans y) s
 |bad=>exact h
theorem Out.bind{α β:Type}{S:Rm}{r:Res α}{f:α->Rm->Res β}{P:β->List Addr->Rm->Hp->Prop}(h:Out g m S H (r.b f) P E):Out g m S H r (λa m1 d e=>Out g m1 d e (f a d) P E) E:=by
 cases r with
 |ok a i=>exactλj k y s=>Out.ext y h
 |exc c i=>exact h
 |bad=>exact h
theorem Out.mono{α:Type}{g:Gx}{m:zz}{S:Rm}{r:Res α}{P i:α->List Addr->Rm->Hp->Prop}{E:XK}(h:Out g m S H r P E)(k:∀a d e f,Ext m S H d e f->Rz g d e f->P a d e f->i a d e f):Out g m S H r i E:=by
 cases r with
 |ok a e=>exactλd f y s=>k a d e f y s (h d f y s)
 |exc c e=>exact h
 |bad=>exact h
theorem Out.ret{α:Type}{g:Gx}{m:zz}{S:Rm}{P:α->List Addr->Rm->Hp->Prop}{E:XK}{a:α}(h:Out g m S H (.ok a S) P E)(s:Rz g m S H):P a m S H:=h m H Ext.refl s
theorem rO.of{α β:Type}{o:Option α}{f:α->Option β}{y:β}(h:rO o f= ↑y):∃x,o= ↑x/\f x= ↑y:=by cases o with|some x=>exact(x,rfl,h)|none=>cases h
theorem gB.of{β:Type}{o:Option β}{y:β}(h:gB b o= ↑y):b=true/\o= ↑y:=by cases b with|true=>exact(rfl,h)|false=>cases h
theorem Out.rd{α β:Type}{g:Gx}{m:zz}{S:Rm}{P:α->List Addr->Rm->Hp->Prop}{E:XK}{o:Option β}{f:β->Res α}(h:Out g m S H (rO o f) P E):∃x,o= ↑x/\Out g m S H (f x) P E:=by cases o with|some x=>exact(x,rfl,h)|none=>exact(show False from h).elim
theorem Out.gd{α:Type}{g:Gx}{m:zz}{S:Rm}{P:α->List Addr->Rm->Hp->Prop}{E:XK}{r:Res α}(h:Out g m S H (gB b r) P E):b=true/\Out g m S H r P E:=by cases b with|true=>exact(rfl,h)|false=>exact(show False from h).elim
end
structure Re(g:Gx)(H:Hp)(m:zz)(ρ:Env)(σ:L2.St):Prop where
 len:ρ.length=σ.length
 get:∀(i:Nat)(a:A),ρ[i]?= ↑(some a)->∃v,σ[i]?= ↑(some v)/\R g H m a v
section
theorem Re.mono(e:Re g H m d f)(x:Ext m S H j l k)(s:Rz g m S H):Re g k j d f :=
 (e.len,λi a h=>let⟨v,q,r⟩:=e.get i a h;(v,q,R.mono x s a r))
theorem Re.set(e:Re g H m d f)(h:R g H m a v)(i:Nat):Re g H m (d.set i ↑a) (f.set i ↑v):=by
 refine(by simp[e.len],λj b q=>?_);have l:=e.len;rw[List.getElem?_set]at q ⊢;split at q
 ·split at q<;>cases q;rw[NL ‹_›,NL ⋯];exact(v,rfl,h)
 ·rw[NH ‹_›];exact e.get j b q
end
noncomputable def tE(g:Gx)(E:L2.St->XK)(c:Ce):TE:=λd H Q=>∃m e S,Rz g m S H/\Re g H m e d/\Out g m S H (c e S) (λa i _ f=>∀v,R g f i a v->Q v f) (E d)
noncomputable def tB(g:Gx)(E:L2.St->XK)(c:Ct):TT:=λa H Q=>∃m d S,Rz g m S H/\Re g H m d a/\Out g m S H (c d S) (λb _ _ e=>Q b e) (E a)
noncomputable def Vo(g:Gx)(E:L2.St->XK)(c:Ca):TA:=λa H Q=>∃m d S,Rz g m S H/\Re g H m d a/\Out g m S H (c d S) (λi j _ e=>∀f,Rs g e j i f->Q f e) (E a)
theorem SV(h:PE X e t)(k:∀a H Q,f a H Q->t a H Q):PE X e f:=λd s a H Q I g=>h d s a H Q I (k a H Q g)
theorem Zp(h:PC X f a b t)(k:∀d H Q,g d H Q->t d H Q):PC X f a b g:=λe s d H Q I i=>h e s d H Q I (k d H Q i)
theorem imT(h:PT X e t)(k:∀a H Q,f a H Q->t a H Q):PT X e f:=λd s a H Q I g=>h d s a H Q I (k a H Q g)
theorem imW(h:PW X e t)(k:∀a H Q,f a H Q->t a H Q):PW X e f:=λw d s a H Q I g=>h w d s a H Q I (k a H Q g)
theorem imA(h:PA X e t)(k:∀a H Q,f a H Q->t a H Q):PA X e f:=λp d s a H Q I g=>h p d s a H Q I (k a H Q g)
theorem U0{X:Cx}{st:Stmt}(h:PS X st t)(k:∀D a H,e D a H->t D a H):PS X st e:=λd s a H D I f=>h d s a H D I (k D a H f)
theorem ES{X:Cx}{st:List Stmt}(h:Su X st t)(k:∀D a H,e D a H->t D a H):Su X st e:=λd s a H D I f=>h d s a H D I (k D a H f)
noncomputable abbrev An(g:Gx)(Q:VK):A->List Addr->Rm->Hp->Prop:=λa e _ d=>∀v,R g d e a v->Q v d
noncomputable def Uo(g:Gx)(r:R2)(o:A->A->Rm->Res A):Prop:=∀m S H a b v w Q E,Rz g m S H->R g H m a v->R g H m b w->Out g m S H (o a b S) (An g Q) E->r v w H Q
noncomputable def TX(g:Gx)(r:V->Hp->VK->Prop)(u:A->Rm->Res A):Prop:=∀m S H a v Q E,Rz g m S H->R g H m a v->Out g m S H (u a S) (An g Q) E->r v H Q
section
theorem un{β:Type}{g:Gx}{e:L2.St}{X:XK}{c:Ce}{W:β->List Addr->Rm->Hp->Prop}{f:Env->A->Rm->Res β}{P:VK}(h:∃m d S,Rz g m S H/\Re g H m d e/\Out g m S H ((c d S).b (f d)) W X)(k:∀m d S H a v,Rz g m S H->Re g H m d e->R g H m a v->Out g m S H (f d a S) W X->P v H):∃m d S,Rz g m S H/\Re g H m d e/\Out g m S H (c d S) (An g P) X :=
 let⟨m,d,S,s,i,h⟩:=h;(m,d,S,s,i,h.bind.mono λ_ _ _ _ x j h _ r=>k _ _ _ _ _ _ j (i.mono x s) r h)
theorem Zq{β:Type}{g:Gx}{i:L2.St}{X:XK}{c:Ce}{W:β->List Addr->Rm->Hp->Prop}{e:Ce}{f:Env->A->A->Rm->Res β}{P:V->VK}(h:∃m d S,Rz g m S H/\Re g H m d i/\Out g m S H ((c d S).b λx S=>(e d S).b (f d x)) W X)(k:∀m d S H a v b w,Rz g m S H->Re g H m d i->R g H m a v->R g H m b w->Out g m S H (f d a b S) W X->P v w H):∃m d S,Rz g m S H/\Re g H m d i/\Out g m S H (c d S) (An g λv H=>∃m d S,Rz g m S H/\Re g H m d i/\Out g m S H (e d S) (An g (P v)) X) X :=
 let⟨m,d,S,s,j,h⟩:=h;(m,d,S,s,j,h.bind.mono λ_ _ _ _ x l h _ r=>(_,d,_,l,j.mono x s,h.bind.mono λ_ _ _ _ y p h _ q=>k _ _ _ _ _ _ _ _ p ((j.mono x s).mono y l) (R.mono y l _ r) q h))
theorem unT{β:Type}{g:Gx}{e:L2.St}{X:XK}{d:Ct}{W:β->List Addr->Rm->Hp->Prop}{f:Env->Bool->Rm->Res β}{P:Bool->Hp->Prop}(h:∃m a S,Rz g m S H/\Re g H m a e/\Out g m S H ((d a S).b (f a)) W X)(k:∀m a S H b,Rz g m S H->Re g H m a e->Out g m S H (f a b S) W X->P b H):∃m a S,Rz g m S H/\Re g H m a e/\Out g m S H (d a S) (λb _ _ H=>P b H) X :=
 let⟨m,a,S,s,i,h⟩:=h;(m,a,S,s,i,h.bind.mono λ_ _ _ _ x j h=>k _ _ _ _ _ j (i.mono x s) h)
theorem Ym.of(r:R g H m a v)(e:Ym a= ↑u):v=.Ro:=by cases a<;>cases e;exact r
theorem UO.of(r:R g H m a v)(e:UO a= ↑b):v=.bl b:=by cases a<;>cases e;exact r
theorem SD.of(r:R g H m a v)(e:SD a= ↑i):v=.int i:=by cases a<;>cases e;exact r
theorem Uk.of(r:R g H m a v)(e:Uk a= ↑n):v=.int n:=by unfold Uk at e;split at e<;>cases e;exact r
theorem Yn.of(r:R g H m a v)(e:Yn a= ↑n):v=.int (n+1:Nat):=by unfold Yn at e;split at e<;>cases e;exact r
theorem Um.of(r:R g H m a v)(e:Um a= ↑n):∃x,g.ST[n]?= ↑x/\v=.str x:=by cases a<;>cases e;exact r
theorem Ul.of(r:R g H m a v)(e:Ul a= ↑f):∃p d,v= ⇑p/\RW g.K H p d/\Rs g H m f d:=by cases a<;>cases e;exact r
theorem Xj.of(r:R g H m a v)(e:Xj a= ↑n):∃p,v= ⇑p/\H p= ↑(.ext (pK p n)):=by cases a<;>cases e;exact r
theorem Xk.of(r:R g H m a v)(e:Xk a= ↑n):∃p,v= ⇑p/\H p= ↑(.U8 0 n):=by cases a<;>cases e;exact r
theorem mapR.of{f:A->Option γ}{T:γ->V->Prop}(k:∀{a v y},R g H m a v->f a= ↑y->T y v):∀{d:List A}{i:List V}{l:List γ},Rs g H m d i->mapR f d= ↑l->Paired T l i
 |[],_,_,r,h=>by cases h;rw[r.SE];exact .nil
 |_::_,_,_,⟨_,_,e,j,p⟩,h=>by let(y,h1,h):=rO.of h;let(l,q,h):=rO.of h;cases h;rw[e];exact .cons (k j h1) (mapR.of k p q)
theorem pE(f:γ->V)(p:Paired (λy v=>v=f y) l a):a=l.map f:=by induction p with|nil=>rfl|cons e _ d=>rw[e,d];rfl
end
section
variable{b e:Expr}
theorem q_v{X:Cx}(d:X.N[i]?= ↑x)(f:W6 X.env.scope x)(j:(x==("__debug__":Str))=false)(a:(x==("__classdict__":Str))=false):PE X (.Name x k) (tE g E (cV i)) :=
 SV (Ad d f j a) λp H Q ⟨m,q,S,s,l,h⟩=>by
  unfold cV at h;split at h
  ·let(v,e,r):=l.get _ _ ‹_›;exact(v,e,h.ret s v r)
  ·exact h.elim
theorem AV(a:∀H m,R g H m x v)(h:tE g E (cC x) d H Q):Q v H:=by let(m,f,S,s,i,h):=h;exact h.ret s v (a H m)
theorem IW:PE X (.Constant (.int i) j a) (tE g E (cC (.int i))):=SV a9 λ_ _ _ h=>AV (λ_ _=>R.int i) h
theorem K1:PE X (.Constant (.bool i) j a) (tE g E (cC (.bl i))):=SV vz λ_ _ _ h=>AV (λ_ _=>R.bl i) h
theorem Je:PE X (.Constant .none j a) (tE g E (cC .Ro)):=SV uc λ_ _ _ h=>AV (λ_ _=>R.Ro) h
theorem Ji{g:Gx}(h:g.ST[n]?= ↑x):PE X (.Constant (.str x) j a) (tE g E (cC (.str n))):=SV jw λ_ _ _ q=>AV (λ_ _=>R.str h) q
theorem K7(a:Gl X x)(d:X.mg x= ↑u)(r:RelV v u)(hy:∀H m,R g H m y v)(f:(x==("__debug__":Str))=false):PE X (.Name x i) (tE g E (cC y)) :=
 SV (eI a d r f) λ_ _ _ h=>AV hy h
theorem Jd:PA X [] (Vo g E aN):=imA aZ λ_ _ _ ⟨m,a,S,s,d,h⟩=>h.ret s [] .nil
theorem Gm(j:PE X a (tE g E ca))(k:PA X l (Vo g E p))(hs:dY a=true):PA X (a::l) (Vo g E (aC ca p)) :=
 imA (bH j k hs) λB H Q ⟨m,d,S,s,f,h⟩=>⟨m,d,S,s,f,h.bind.mono λx m1 q G r i h1 v t=>⟨m1,d,q,i,f.mono r s,h1.bind.mono λI m2 J L u w y z rs =>
  y.ret w (v::z) (.cons (R.mono u i _ t) rs)⟩⟩
theorem da:∀{n:Nat}{xs:List α},few n xs=true->xs.length<=n
 |_,[],_=>Om _
 |0,_::_,h=>nomatch h
 |n+1,_::xs,h=>Nat.succ_le_succ (da (n:=n) (xs:=xs) h)
theorem Ig{α:Type}:∀{l:List α},l.length=2->∃a b,l=[a,b]
 |[a,b],_=>(a,b,rfl)
theorem KP{α:Type}:∀{l:List α},l.length=3->∃a b c,l=[a,b,c]
 |[a,b,c],_=>(a,b,c,rfl)
theorem iM(h:n<=1000):n<=sizeLine:=N4 h (by rw[Ol];decide)
theorem Out.new(h:Out g m S H (new d S) (An g Q) k)(s:Rz g m S H)(r:Rs g H m d a):a.length<=900/\∀p,H p=none->Q ⇑p (upd H p (.lst a)):=by
 let(q,h):=Out.gd h;refine(r.length▸da q,λp f=>?_);rw[aL,b8]at h;let(i,j):=s.alloc (c:=.lst d) (o:=.lst a) f λx=>(a,ak,Rs.mono x s d r)
 exact h _ _ j i _ (R.ref (by rw[<- s.len];simp))
theorem Out.tup(h:Out g m S H (AX f S) (An g Q) j)(s:Rz g m S H)(r:Rs g H m f i):i.length<=900/\(∀p,H p=none->Q ⇑p (upd H p (.tup i)))/\∀p,RW g.K H p i->Q ⇑p H :=
 let⟨q,h⟩:=Out.gd h;(r.length▸da q,λp d=>h _ _ (Ext.new d _) (s.new d _) _ (R.tup (RW.of ak) (Rs.mono (Ext.new d _) s f r)),λp d=>Out.ret (a:=A.tup f) h s _ (R.tup d r))
theorem Out.int(h:Out g m S H (fM i S) (An g Q) a)(s:Rz g m S H):Q (.int i) H:=by unfold fM at h;rw[yy]at h;exact h.ret s _ (R.int i)
theorem Out.bA(h:Out g m S H (bA o S) (An g Q) a)(s:Rz g m S H):∃b,o= ↑b/\Q (.bl b) H:=let⟨b,e,h⟩:=h.rd;(b,e,h.ret s _ (R.bl b))
theorem Jk{a}(h:PA X d (Vo g E f)):PE X (.Tuple d a i) (tE g E (au f)) :=
 SV (ud h) λp H Q ⟨m,j,S,s,k,h⟩=>(m,j,S,s,k,h.bind.mono λr m1 t u a l h1 v rs=>let q:=Out.tup h1 l rs;(iM (by have:=q.1;lia),q.2.1))
theorem Jc(h:PA X a (Vo g E d)):PE X (.List a f) (tE g E (bf d)) :=
 SV (jv h) λl H Q ⟨m,i,S,s,j,h⟩=>(m,i,S,s,j,h.bind.mono λp m1 r t u k h1 v rs=>let q:=Out.new h1 k rs;(iM (by have:=q.1;lia),q.2))
theorem W7.of(ok:Uo g r o)(h:tE g E (cO o ca a) d H Q):W7 r (tE g E ca) (tE g E a) d H Q:=Zq h λ_ _ _ _ _ _ _ _ s _ r q h=>ok _ _ _ _ _ _ _ _ _ s r q h
theorem Le(d:Sh X (binaryOp f) r)(ok:Uo g r o)(i:PE X a (tE g E ca))(j:PE X b (tE g E k)):PE X (.BinOp a f b l) (tE g E (cO o ca k)) :=
 SV (cf d i j) λm H Q h=>W7.of ok h
theorem IM(d:Sh X (compareOp f) r)(ok:Uo g r o)(i:PE X a (tE g E ca))(j:PE X b (tE g E k)):PC X f a b (tE g E (cO o ca k)) :=
 Zp (nr d i j) λl H Q h=>W7.of ok h
theorem IZ(d:V5 X r)(ok:Uo g r o)(f:PE X a (tE g E ca))(i:PE X b (tE g E j))(hs:ka b):PE X (.Subscript a b k) (tE g E (cO o ca j)) :=
 SV (gP d f i hs) λl H Q h=>W7.of ok h
theorem Xy.of(ok:TX g r u)(h:tE g E (cU u ca) a H Q):Xy r (tE g E ca) a H Q:=un h λ_ _ _ _ _ _ s _ r h=>ok _ _ _ _ _ _ _ s r h
theorem Lk(d:ZT X (unaryOp f) r)(ok:TX g r u)(i:PE X a (tE g E ca)):PE X (.UnaryOp f a j) (tE g E (cU u ca)) :=
 SV (DR d i) λk H Q h=>Xy.of ok h
theorem K0{X:Cx}{id:String}(f:bE X (.builtin id) r)(ok:TX g (λv H Q=>r [v] H Q) u)(i:Gl X x)(j:X.mg x=none)(k:bootBuiltins x= ↑(.builtin id))(l:PE X a (tE g E ca))
  (hs:dY a=true) (m:x≠"__name__") (d:(x==("__debug__":Str))=false) (q:starEach [a] X.env=(false,eval a X.env)::starEach [] X.env):PE X (.Call (.Name x p) [a] [] t) (tE g E (cU u ca)) :=
 SV (b9 f i j k (bH l aZ hs) m d q) λw H Q h=>Xy.of ok h
theorem Lh(f:bE X (.type T) r)(ok:TX g (λv H Q=>r [v] H Q) u)(i:Gl X x)(j:X.mg x=none)(k:bootBuiltins x= ↑(.type T))(l:PE X a (tE g E ca))
  (hs:dY a=true) (m:x≠"__name__") (d:(x==("__debug__":Str))=false) (q:starEach [a] X.env=(false,eval a X.env)::starEach [] X.env):PE X (.Call (.Name x p) [a] [] t) (tE g E (cU u ca)) :=
 SV (w8 f i j k (bH l aZ hs) m d q) λw H Q h=>Xy.of ok h
noncomputable def Rq(e:Ce):Ct:=λa S=>(e a S).b λx S=>rO (UO x) λk=>.ok k S
theorem Ue.of(k:∀a H Q,tE g E ca a H Q->t a H Q)(h:tB g E (Rq ca) a H Q):Ue t a H Q:=k a H _ (un h λ_ _ _ _ _ _ s _ r h=>let⟨b,e,h⟩:=h.rd;(b,UO.of r e,h.ret s))
theorem RP.look(s:Rz g m S H)(h:RL S i= ↑f):∃a d,m[i]?= ↑a/\H a= ↑(.lst d)/\Rs g H m f d:=by unfold RL at h;split at h<;>cases h<;>(let(a,e,d,e1,e2):=s.cell i _ ‹_›;exact(a,d,e,e1,e2))
theorem Rv.of(s:Rz g m S H)(r:R g H m x v)(h:Rv S x= ↑f):∃a d,v= ⇑a/\Ui g.K H a d/\Rs g H m f d:=by
 cases x with
 |ref i =>let(a,e,rfl):=r;let(b,d,e1,e2,e3):=RP.look s h;rw[e]at e1;cases e1;exact(a,d,rfl,.inl e2,e3)
 |cl k=>cases h;let(a,d,e,q,j):=r;exact(a,d,e,.inr q,j)
 |_=>cases h
theorem SO.of(s:Rz g m S H)(r:R g H m x v)(h:SO S x= ↑i):∃a d,v= ⇑a/\(RP g.K H a d\/RW g.K H a d)/\Rs g H m i d:=by
 cases x with
 |tup j=>cases h;let(a,d,e,q,f):=r;exact(a,d,e,.inr q,f)
 |_=>first|cases h;done | (let(a,d,e,q,f):=Rv.of s r h;exact(a,d,e,.inl q.Uh,f))
theorem yt(i j:Int):WO i j=decide (i=j):=by
 refine QX.mpr ?_;rw[Rb]
 cases i with
 |ofNat a =>
  cases j with
  |ofNat b=>exact(λh=>NZ _ (NJ h),λh=>by cases h;exact N2 a)
  |negSucc b=>exact((λh=>nomatch h),(λh=>nomatch h))
 |negSucc a =>
  cases j with
  |ofNat b=>exact((λh=>nomatch h),(λh=>nomatch h))
  |negSucc b=>exact(λh=>NZ _ (NJ h),λh=>by cases h;exact N2 a)
theorem zF(r:Rs g H m a d):Xx a=!d.isEmpty:=by
 cases a with
 |nil=>rw[r.SE];rfl
 |cons x a=>let(v,t,rfl,_):=r;rfl
theorem pR(s:Rz g m S H)(r:R g H m x v)(h:(match SO S x with|some i=>↑(Xx i)|none=>none)= ↑k):Bu g.K v H k:=by split at h<;>cases h;let(a,d,rfl,w,f):=SO.of s r ‹_›;exact w.elim (λw=>.inl (d,w,zF f)) λw=>.inr (.inl (d,w,zF f))
theorem Xl.of(s:Rz g m S H)(r:R g H m x v)(h:Xl S x= ↑k):Bu g.K v H k:=by
 cases x with
 |Ro=>cases h;rw[r.Ye];exact rfl
 |bl b=>cases h;rw[r.Z2];exact rfl
 |int i =>
  have a: ↑(nb (WO i (.ofNat 0)))= ↑k:=h;cases a;rw[r.Wv,yt];show _=(i != 0)
  by_cases z:i=0
  ·subst z;rfl
  ·rw[OY (show ¬ i=Int.ofNat 0 from z)];simp[nb,z]
 |tup d=>exact pR s r h
 |ref i=>exact pR s r h
 |cl d=>exact pR s r h
 |_=>cases h
theorem Lj{X:Cx}{g:Gx}(f:X.K=g.K)(i:PE X a (tE g E ca))(j:∀d,isTrue a X.env d=(do let v <- d;standAt a.pos;holding [v] (truthy v))):PT X a (tB g E (tV ca)) :=
 imT (lM i j) λl H Q h=>un h λ_ _ _ _ _ _ s _ r h=>let⟨k,e,h⟩:=h.rd;(k,f▸Xl.of s r e,h.ret s)
theorem vw(b:Bool):nb b=!b:=by cases b<;>rfl
theorem GK(d:PT X a (tB g E ct)):PT X (.UnaryOp .Not a f) (tB g E (Sn ct)):=imT (pG d) λi H Q h=>unT h λ_ _ _ _ b s _ h=>vw b▸h.ret s
theorem gc{p q:Prop}{b:Bool}(t:b=true->p)(f:b=false->q):if b=true then p else q:=by cases b with|true=>exact t rfl|false=>exact f rfl
theorem IK(i:PT X a (tB g E ct))(j:PW X (.BoolOp .And (b::d) f) (tB g E k)):PW X (.BoolOp .And (a::b::d) f) (tB g E (Wj ct k)) :=
 imW (Av i j) λq H Q h=>unT h λm l S _ b s p h=>gc (λe=>by subst e;exact(m,l,S,s,p,h)) λe=>by subst e;exact h.ret s
theorem Lf(i:PT X a (tB g E ct))(j:PW X (.BoolOp .Or (b::d) f) (tB g E k)):PW X (.BoolOp .Or (a::b::d) f) (tB g E (Tf ct k)) :=
 imW (Aw i j) λq H Q h=>unT h λm l S _ b s p h=>gc (λe=>by subst e;exact h.ret s) λe=>by subst e;exact(m,l,S,s,p,h)
theorem GN(d:PE X a (tE g E ca)):PE X (.UnaryOp .Not a f) (tE g E (cNt ca)):=SV (F2 d) λi H Q h=>un h λ_ _ _ _ _ _ s _ r h=>let⟨k,e,h⟩:=h.rd;(k,UO.of r e,vw k▸h.ret s _ (R.bl _))
theorem GM(i:PE X a (tE g E ca))(j:PE X (.BoolOp .And (b::d) f) (tE g E l)):PE X (.BoolOp .And (a::b::d) f) (tE g E (UZ ca l)) :=
 SV (FW i j) λt H Q h=>un h λm p S _ _ _ s q r h=>let⟨k,e,h⟩:=h.rd;(k,UO.of r e,gc (λe=>by subst e;exact(m,p,S,s,q,h)) λe=>by subst e;exact h.ret s _ (R.bl _))
theorem Jn(i:PE X a (tE g E ca))(j:PE X (.BoolOp .Or (b::d) f) (tE g E l)):PE X (.BoolOp .Or (a::b::d) f) (tE g E (Zn ca l)) :=
 SV (IH i j) λt H Q h=>un h λm p S _ _ _ s q r h=>let⟨k,e,h⟩:=h.rd;(k,UO.of r e,gc (λe=>by subst e;exact h.ret s _ (R.bl _)) λe=>by subst e;exact(m,p,S,s,q,h))
theorem La(i:PT X c (tB g E ct))(j:PE X a (tE g E ca))(l:PE X b (tE g E p)):PE X (.IfExp c a b q) (tE g E (T4 ct ca p)) :=
 SV (Ab i j l) λr H Q h=>unT h λm d S _ k s f h=>gc (λe=>by subst e;exact(m,d,S,s,f,h)) λe=>by subst e;exact(m,d,S,s,f,h)
theorem oN(i j:Int):UG i j=decide (i<=j):=by
 refine QX.mpr ?_;rw[Rb]
 cases i with
 |ofNat a =>
  cases j with
  |ofNat b=>exact(λh=>Int.ofNat_le.mpr (NF h),λh=>NP (Int.ofNat_le.mp h))
  |negSucc b=>exact((λh=>nomatch h),λh=>absurd h (by have:Int.negSucc b<0:=Q3 b;have:(0:Int)<=Int.ofNat a:=Int.natCast_nonneg a;lia))
 |negSucc a =>
  cases j with
  |ofNat b=>exact(λ_=>by have:Int.negSucc a<0:=Q3 a;have:(0:Int)<=Int.ofNat b:=Int.natCast_nonneg b;lia,λ_=>rfl)
  |negSucc b=>exact(λh=>by have:=NF h;lia,λh=>NP ⋯)
theorem pb{f:Int->Int->Bool}{p:Int->Int->Bool}(e:∀i j,f i j=p i j):Uo g (U9 λi j=>.bl (p i j)) (wj f):=λm S H a b v w Q E s d k h =>
 let⟨i,l,h⟩:=h.rd;let⟨j,q,h⟩:=h.rd;(i,j,SD.of d l,SD.of k q,(e i j▸h.ret s _ (R.bl (f i j)):Q (.bl (p i j)) H))
theorem zQ:Uo g (U9 λi j=>.bl (decide (i<=j))) oLe:=pb oN
theorem TQ.of(h:tE g E (WU ca f l) p H Q):TQ (U9 λi j=>.bl (decide (i<=j))) (U9 λi j=>.bl (decide (i<=j))) (tE g E ca) (tE g E f) (tE g E l) p H Q :=
 Zq h λm t S H x v y w s B r q h=>zQ _ _ _ x y v w _ _ s r q (h.bind.mono λz m3 N O a d h u G =>
  let⟨k,e,h⟩:=h.rd;(k,UO.of G e,gc (λe=>by subst e;exact(_,t,_,d,B.mono a s,h.bind.mono λ_ _ _ _ I J L _ M=>zQ _ _ _ y _ _ _ Q _ J (R.mono (a.trans I) s _ q) M L)) λe=>by subst e;exact h.ret d _ (R.bl _)))
end
mutual
noncomputable def toD(g:Gx):A->D
 | .Ro=>.Ro
 | .bl b=>.bl b
 | .int i=>.int i
 | .str n=>.str (g.ST.getD n "")
 | .tup a=>.tup (SR g a)
 |_=>.lst
noncomputable def SR(g:Gx):List A->List D
 |[]=>[]
 |x::a=>toD g x::SR g a
end
section
theorem oB{g:Gx}(h:g.ST[n]?= ↑x):g.ST.getD n ""=x:=by rw[Of,h];rfl
mutual
theorem kL:∀{n:Nat}(a:A){v:V},Uj n a=true->R g H m a v->Dat g.K H (toD g a) v/\Tu (toD g a)=true/\eU (toD g a)<=n
 |_,.Ro,_,_,r|_,.bl _,_,_,r|_,.int _,_,_,r=>(r,rfl,Om _)
 |n,.str k,v,_,⟨x,e,q⟩=>(q.trans (by rw[<- oB e]),rfl,Om _)
 |n+1,.tup i,v,h,⟨a,j,e,q,rs⟩ =>
  let⟨d,l,f⟩:=Tj (n:=n) i h rs
  ((a,j,e,q,d),l,Nat.succ_le_succ f)
theorem Tj:∀{n:Nat}(a:List A){d:List V},R8 n a=true->Rs g H m a d->RH g.K H (SR g a) d/\RS (SR g a)=true/\RO (SR g a)<=n
 |n,[],d,_,r=>(r,rfl,Om _)
 |n,x::a,d,h,⟨v,t,e,f,i⟩=>by
  unfold R8 at h;split at h
  ·let(d1,e1,j):=kL x ‹_› f;let(d2,e2,k):=Tj a h i;exact((v,t,e,d1,d2),by show(_&&_)=_;rw[e1,e2];rfl,Nat.max_le.mpr (j,k))
  ·cases h
end
theorem AU{g:Gx}(h:g.ST[n]?= ↑x)(a:g.ST[k]?= ↑y):(x==y)=Nat.beq n k:=by
 refine QX.mpr (λe=>?_,λe=>?_)
 ·have e:=eq_of_beq e;subst e;have e2:n=k:=(Ql (LD.mp h).1 g.nd).mp (h.trans a.symm);rw[e2];exact N2 k
 ·have e:=NJ e;subst e;rw[h]at a;cases a;exact Pw x
theorem BA(a b:Bool):Bz a b=(a==b):=by cases a<;>cases b<;>rfl
theorem oq(a b:Int):WO a b=(a==b):=by rw[yt];rfl
theorem xM(a:Bool):b2n a=if a then 1 else 0:=by cases a<;>rfl
mutual
theorem om:∀(a b:A){v w:V},R g H m a v->R g H m b w->SA (toD g a) (toD g b)=SN a b
 | .str x,b,_,_,⟨_,e,_⟩,r=>by
  cases b with
  |str y=>let(_,d,_):=r;unfold toD SA SN;rw[oB e,oB d];exact AU e d
  |_=>rfl
 | .tup x,b,_,_,⟨_,_,_,_,r⟩,q=>by
  cases b with
  |tup y=>let(_,_,_,_,f):=q;exact U1 x y r f
  |_=>rfl
 | .bl x,b,_,_,_,_=>by
  cases b with
  |bl y=>exact(BA x y).symm
  |int j=>show(_==j)=WO _ j;rw[oq,xM]
  |_=>rfl
 | .int x,b,_,_,_,_=>by
  cases b with
  |bl y=>show(x==_)=WO x _;rw[oq,xM]
  |int j=>exact(oq x j).symm
  |_=>rfl
 | .Ro,b,_,_,_,_ | .ref _,b,_,_,_,_ | .cl _,b,_,_,_,_ | .tab _,b,_,_,_,_ | .UY _,b,_,_,_,_ | .U8 _,b,_,_,_,_ | .any,b,_,_,_,_ | .SM,b,_,_,_,_=>by cases b<;>rfl
theorem U1:∀(a b:List A){v w:List V},Rs g H m a v->Rs g H m b w->RZ (SR g a) (SR g b)=Vj a b
 |[],[],_,_,_,_ |[],_::_,_,_,_,_|_::_,[],_,_,_,_=>rfl
 |x::d,y::e,_,_,⟨_,_,_,f,i⟩,⟨_,_,_,j,k⟩=>by
  show(SA _ _&&RZ _ _)=match SN x y with|true=>Vj d e|false=>false
  rw[om x y f j,U1 d e i k];cases SN x y<;>rfl
end
theorem Fg:Uo g (λx y H Q=>U9 (λi j=>.int (i+j)) x y H Q\/DU g.K x y H Q\/DV g.K x y H Q) bg:=λm S H a b v w Q E s t u h=>by
 unfold bg at h;split at h
 ·let(j,B,h):=h.rd;exact .inl (_,j,SD.of t ‹_›,SD.of u B,Out.int h s)
 ·split at h
  ·let(L,B,h):=h.rd;let(p,G,rfl,q,r):=Ul.of t ‹_›;let(f,d,rfl,l,I):=Ul.of u B;let(z,k,J):=Out.tup h s (r.append I);exact .inr (.inr (p,f,G,d,rfl,rfl,q,l,iM (by rw[NK]at z;lia),λe=>by subst e;exact J f l,λe=>by subst e;exact J p (by rw[N9];exact q),k))
  ·let(O,M,h):=h.rd;let(L,N,h):=h.rd;let(p,G,rfl,q,r):=Rv.of s t M;let(f,d,rfl,l,I):=Rv.of s u N;let(z,k):=Out.new h s (r.append I);exact .inr (.inl (p,f,G,d,rfl,rfl,q,l,by rw[NK]at z;lia,k))
theorem FJ:Uo g (U9 λi j=>.int (i - j)) ij:=λm S H a b v w Q E s d e h =>
 let⟨i,f,h⟩:=h.rd;let⟨j,k,h⟩:=h.rd;(i,j,SD.of d f,SD.of e k,Out.int h s)
theorem Fz:Uo g (rI (λ_ j=>0<j) λi j=>.int (i%j)) iV:=λm S H a b v w Q E s d e h =>
 let⟨i,f,h⟩:=h.rd;let⟨j,k,h⟩:=h.rd;(i,_,SD.of d f,Yn.of e k,Int.natCast_pos.mpr (Nat.succ_pos j),Out.int h s)
theorem Fk:Uo g (rI Hl λi j=>.int (i / j)) zJ:=λm S H a b v w Q E s d e h =>
 let⟨i,f,h⟩:=h.rd;let⟨j,k,h⟩:=h.rd;let⟨q,h⟩:=h.gd;(i,_,SD.of d f,Yn.of e k,(Int.natCast_pos.mpr (Nat.succ_pos j),by have:=NF q;lia),Out.int h s)
theorem nle(i j:Int):nb (UG i j)=decide (j<i):=by rw[oN,vw,<- decide_not];exact decide_eq_decide.mpr Int.not_le
theorem IB:Uo g (U9 λi j=>.bl (decide (i<j))) oLt:=pb λi j=>nle j i
theorem Iw:Uo g (U9 λi j=>.bl (decide (j<i))) Xn:=pb λi j=>nle i j
theorem Iv:Uo g (U9 λi j=>.bl (decide (j<=i))) YD:=pb λi j=>oN j i
theorem VF.of(s:Rz g m S H)(l:R g H m a v)(t:R g H m b w)(h:VF S a b= ↑k) :
  (∃d e,Dat g.K H d v/\Dat g.K H e w/\Tu d=true/\Tu e=true/\eU d<=20/\SA d e=k) \/
  ∃p q G i j u,v= ⇑p/\w= ⇑q/\RP g.K H p G/\RP g.K H q i/\RH g.K H j G/\RH g.K H u i/\RS j=true/\RS u=true/\RO j<=20/\RZ j u=k:=by
 unfold VF at h;split at h
 ·let(i,J,h):=rO.of h;let(y,h):=gB.of h;let(ob,h):=gB.of h;cases h;let(p,L,rfl,q,r):=Rv.of s l ‹_›;let(M,z,rfl,N,I):=Rv.of s t J;let(d,e,f):=Tj _ y r;let(B,E,O):=Tj i ob I;exact .inr (p,M,L,z,_,_,rfl,rfl,q.Uh,N.Uh,d,B,e,E,f,U1 _ i r I)
 ·let(y,h):=gB.of h;let(ob,h):=gB.of h;cases h;let(d,e,f):=kL a y l;let(B,E,O):=kL b ob t;exact .inl (_,_,d,B,e,E,f,om a b l t)
theorem Iu:Uo g (λx y H Q=>C9 g.K false x y H Q\/Da g.K false x y H Q) oEq:=λm S H a b v w Q E s l r h =>
 let⟨_,e,q⟩:=Out.bA h s
 (VF.of s l r e).imp (λ⟨d,e,h1,f,i,j,h5,k⟩=>(d,e,h1,f,i,j,h5,k▸q)) λ⟨p,t,u,z,B,G,e1,e2,h1,f,i,j,h5,k,h7,I⟩=>(p,t,u,z,B,G,e1,e2,h1,f,i,j,h5,k,h7,I▸q)
theorem nO.of(h:nO o= ↑k):∃b,o= ↑b/\k=!b:=let⟨b,e,h⟩:=rO.of h;(b,e,by cases h;exact vw b)
theorem IC:Uo g (λx y H Q=>C9 g.K true x y H Q\/Da g.K true x y H Q) R5:=λm S H a b v w Q E s l r h =>
 let⟨_,e,q⟩:=Out.bA h s;let⟨_,e,z⟩:=nO.of e
 (VF.of s l r e).imp (λ⟨d,e,h1,f,i,j,h5,k⟩=>(d,e,h1,f,i,j,h5,by subst z k;exact q)) λ⟨p,t,u,B,G,I,e1,e2,h1,f,i,j,h5,k,h7,J⟩=>(p,t,u,B,G,I,e1,e2,h1,f,i,j,h5,k,h7,by subst z J;exact q)
theorem vm(r:R g H m x v):∀(a:List A){d:List V},Rs g H m a d->((SR g a).any λe=>SA e (toD g x))=lA x a
 |[],_,_=>rfl
 |y::f,_,⟨_,_,_,i,j⟩=>by unfold SR lA;rw[Pk,om y x i r,vm r f j];cases SN y x<;>rfl
theorem WT.of(s:Rz g m S H)(t:R g H m a v)(y:R g H m b w)(h:WT S a b= ↑k) :
  ∃l j i d,w= ⇑l/\(RP g.K H l j\/RW g.K H l j)/\RH g.K H i j/\Dat g.K H d v/\RS i=true/\Tu d=true/\RO i<=20/\(i.any λe=>SA e d)=k:=by
 let(u,z,h):=rO.of h;let(B,h):=gB.of h;let(ob,h):=gB.of h;cases h;let(p,E,rfl,q,r):=SO.of s y z;let(d,e,f):=kL a B t;let(G,I,J):=Tj u ob r;exact(p,E,_,_,rfl,q,G,d,I,e,J,vm t u r)
theorem Iy:Uo g (Dc g.K false) UQ:=λm S H a b v w Q E s f i h =>
 let⟨_,e,q⟩:=Out.bA h s;let⟨l,j,k,d,h1,p,r,t,h5,u,h7,y⟩:=WT.of s f i e;(l,j,k,d,h1,p,r,t,h5,u,h7,y▸q)
theorem FD:Uo g (Dc g.K true) zK:=λm S H a b v w Q E s f i h =>
 let⟨_,e,q⟩:=Out.bA h s;let⟨_,e,z⟩:=nO.of e;let⟨l,j,k,d,h1,p,r,t,h5,u,h7,y⟩:=WT.of s f i e;(l,j,k,d,h1,p,r,t,h5,u,h7,by subst z y;exact q)
theorem Gc{g:Gx}(p:Paired (λ(n:Nat) v=>∃x,g.ST[n]?= ↑x/\v=V.str x) l d):∃a:List Str,d=a.map V.str/\Paired (λ(n:Nat)(x:Str)=>g.ST[n]?= ↑x) l a:=by
 induction p with
 |nil=>exact([],rfl,.nil)
 |cons e _ f=>let(x,e,rfl):=e;let(a,rfl,p):=f;exact(x::a,rfl,.cons e p)
theorem strsOf.of(r:Rs g H m d f)(h:strsOf d= ↑l):∃a:List Str,f=a.map V.str/\Paired (λ(n:Nat)(x:Str)=>g.ST[n]?= ↑x) l a:=Gc (mapR.of (λr e=>Um.of r e) r h)
theorem Xm.of(r:Rs g H m a d)(h:Xm a i= ↑x):∃v,V4 d i= ↑v/\R g H m x v:=by
 cases i with
 |ofNat n =>let(v,e,q):=r.get (show a[n]?= ↑x from h);exact(v,kb e,q)
 |negSucc n =>
  unfold Xm at h;dsimp only at h
  cases z:Nat.ble (n+1) a.length with
  |false=>rw[z]at h;cases h
  |true =>
   rw[z]at h;dsimp only at h;let(v,e,q):=r.get h;refine(v,?_,q);have hl:=r.length;have k:=NF z
   have e1:Vz d.length (Int.negSucc n)= ↑(a.length - (n+1)):=by
    unfold Vz;have f:¬ (0:Int)<=Int.negSucc n:=by have:=Q3 n;lia
    have j:-(d.length:Int)<=Int.negSucc n:=by rw[hl,Int.negSucc_eq];lia
    rw[NH f,NL j];congr 1;rw[hl,Int.negSucc_eq];lia
   unfold V4;rw[e1];exact e
theorem Iz:Uo g (rIx g.K) Rp:=λm S H a b v w Q E s k d h =>
 let⟨i,f,h⟩:=h.rd;let⟨_,q,h⟩:=h.rd;let⟨_,l,h⟩:=h.rd;let⟨p,j,e1,sq,r⟩:=SO.of s k q;let⟨u,e,t⟩:=Xm.of r l;have fin:=h.ret s u t;sq.elim (λsq=>.inl (p,j,i,u,e1,SD.of d f,sq,e,fin)) λsq=>.inr (.inl (p,j,i,u,e1,SD.of d f,sq,e,fin))
theorem FC:TX g (rU λi=>.int (-i)) A7:=λm S H a v Q E s d h=>by
 cases a with
 |int i=>exact(i,d.Wv,Out.int h s)
 |_=>exact h.elim
theorem UP.of(r:R g H m a v)(e:UP a= ↑k):decide (v=.Ro)=k:=by cases a<;>cases e<;>first | (cases r;rfl) | (let(_,rfl,_):=r;rfl) | (let(_,_,rfl):=r;rfl) | (let(_,_,rfl,_):=r;rfl)
theorem FE:TX g (λx H Q=>V.Ro=.Ro/\Q (.bl (decide (x=.Ro))) H) iq:=λm S H a v Q E s d h =>
 let⟨_,e,q⟩:=Out.bA h s;(rfl,by rw[UP.of d e];exact q)
theorem Cu:TX g (λx H Q=>V.Ro=.Ro/\Q (.bl (!decide (x=.Ro))) H) ja:=λm S H a v Q E s d h =>
 let⟨_,e,q⟩:=Out.bA h s;let⟨_,e,z⟩:=nO.of e;(rfl,by rw[UP.of d e,<- z];exact q)
theorem Fv:TX g (λv H Q=>∃p d,[v]=[V.ref p]/\(RP g.K H p d\/RW g.K H p d)/\Q (.int d.length) H) aX:=λm S H a v Q E s f h =>
 let⟨_,q,h⟩:=h.rd;let⟨p,i,e,sq,r⟩:=SO.of s f q;(p,i,e▸rfl,sq,r.length▸Out.int h s)
theorem Co:TX g (λv H Q=>∃(p:Addr)(n:Nat),[v]=[V.ref p]/\H p= ↑(.ext (pK p n))/\n<=1000/\Q (.int n) H) A5:=λm S H a v Q E s d h =>
 let⟨n,q,h⟩:=h.rd;let⟨z,h⟩:=h.gd;let⟨p,e,q⟩:=Xj.of d q;(p,n,e▸rfl,q,by have:=NF z;lia,Out.int h s)
theorem Fh:TX g (λv H Q=>∃(l:Addr)(bs:List Bool),[v]=[V.ref l]/\RP g.K H l (bs.map V.bl)/\Q (.bl (bs.all id)) H) j8:=λm S H a v Q E s d h =>
 let⟨_,q,h⟩:=h.rd;let⟨bs,e,h⟩:=h.rd;let⟨p,_,e1,sq,r⟩:=Rv.of s d q;(p,bs,e1▸rfl,pE V.bl (mapR.of (λr e=>UO.of r e) r e)▸sq.Uh,h.ret s _ (R.bl _))
theorem Fi:TX g (λv H Q=>∃(l:Addr)(bs:List Bool),[v]=[V.ref l]/\RP g.K H l (bs.map V.bl)/\Q (.bl (bs.any id)) H) xA:=λm S H a v Q E s d h =>
 let⟨_,q,h⟩:=h.rd;let⟨bs,e,h⟩:=h.rd;let⟨p,_,e1,sq,r⟩:=Rv.of s d q;(p,bs,e1▸rfl,pE V.bl (mapR.of (λr e=>UO.of r e) r e)▸sq.Uh,h.ret s _ (R.bl _))
theorem FK:TX g (λv H Q=>∃(l:Addr)(d:zb),[v]=[V.ref l]/\RP g.K H l (d.map V.int)/\Q (.int d.sum) H) pT:=λm S H a v Q E s f h =>
 let⟨_,q,h⟩:=h.rd;let⟨bs,e,h⟩:=h.rd;let⟨p,_,e1,sq,r⟩:=Rv.of s f q;(p,bs,e1▸rfl,pE V.int (mapR.of (λr e=>SD.of r e) r e)▸sq.Uh,Out.int h s)
theorem FL:TX g (λv H Q=>∃p d,[v]=[V.ref p]/\((RP g.K H p d/\∀l,H l=none->Q ⇑l (upd H l (.tup d)))\/(RW g.K H p d/\Q ⇑p H))) ir:=λm S H a v Q E s f h =>
 let⟨_,q,h⟩:=h.rd;let⟨p,i,e,sq,r⟩:=SO.of s f q;(p,i,e▸rfl,sq.imp (λsq=>(sq,λl hl=>h _ _ (Ext.new hl _) (s.new hl _) _ (R.tup (RW.of ak) (Rs.mono (Ext.new hl _) s _ r)))) λsq=>(sq,h.ret s _ (R.tup sq r)))
theorem Fw:TX g (λv H Q=>∃p d,[v]=[V.ref p]/\(RP g.K H p d\/RW g.K H p d)/\∀l,H l=none->Q ⇑l (upd H l (.lst d))) pS:=λm S H a v Q E s f h =>
 let⟨_,q,h⟩:=h.rd;let⟨p,i,e,sq,r⟩:=SO.of s f q;(p,i,e▸rfl,sq,(Out.new h s r).2)
theorem R4.of:∀(n k:Nat),Rs g H m (R4 k n) ((List.range' k n).map λi:Nat=>V.int i)
 |0,k=>.nil
 |n+1,k=>by unfold R4;rw[List.range'_succ,NR];exact .cons (R.int _) (R4.of n (k+1))
theorem yR(n:Nat):Rs g H m (R4 0 n) ((List.range n).map λi:Nat=>V.int i):=by have:=R4.of (g:=g) (H:=H) (m:=m) n 0;rw[<- List.range_eq_range']at this;exact this
theorem Cp:TX g (λv H Q=>∃(p:Addr)(n:Nat),[v]=[V.ref p]/\H p= ↑(.U8 0 n)/\n<=1000/\∀l,H l=none->Q ⇑l (upd H l (.lst ((List.range n).map λi:Nat=>V.int i)))) si:=λm S H a v Q E s d h =>
 let⟨n,q,h⟩:=h.rd;let⟨p,e,q⟩:=Xk.of d q;let⟨z,k⟩:=Out.new h s (yR n);(p,n,e▸rfl,q,by rw[NC,Ri]at z;lia,k)
theorem FG:TX g (λv H Q=>∃n:Nat,[v]=[V.int n]/\∀p,H p=none->Q ⇑p (upd H p (.U8 0 n))) A8:=λm S H a v Q E s e h =>
 let⟨n,q,h⟩:=h.rd;let⟨_,h⟩:=h.gd;(n,by rw[Uk.of e q],λp d=>h _ _ (Ext.new d _) (s.new d _) _ (p,rfl,ak))
end
section
variable{g:Gx}
noncomputable abbrev Sd(g:Gx):List Nat->List Str->Prop:=Paired (λ(n:Nat)(x:Str)=>g.ST[n]?= ↑x)
theorem zD(h:g.ST[n]?= ↑x)(p:Sd g l a):(a.any λy=>y==x)=aG n l:=by
 induction p with
 |nil=>rfl
 |cons e _ d=>unfold aG;rw[Pk,d,AU e h];split<;>rename_i q<;>rw[q]<;>rfl
theorem kM:∀{l:List Nat}{i:zl}{d:List Nat}{f:zl},Sd g l i->Sd g d f->(i.foldl step_dedup f).length=(mr d l).length
 |_,_,d,f,.nil,h=>h.length.symm
 |_,_,d,f,.cons (a:=n) (b:=x) e p,h=>by
  rw[O4,step_dedup,zD e h];unfold mr
  cases aG n d with
  |true=>rw[NL rfl];exact kM p h
  |false=>rw[NH PF];exact kM p (h.snoc e)
theorem zC(a:zl):(List.range a.length).map (λi=>a.getD i "")=a:=by refine List.ext_getElem (by simp) λi h1 d=>?_;rw[List.getElem_map,List.getElem_range,Of,Nz d];rfl
theorem FH:TX g (λv H Q=>∃(l:Addr)(d:zl),[v]=[V.ref l]/\RP g.K H l (d.map V.str)/\d.length<=100/\∀p,H p=none->Q ⇑p (upd H p (.ext (pK p (wu d))))) Hc:=λm S H a v Q E s f h=>by let(_,q,h):=h.rd;let(i,h):=h.gd;let(l,j,h):=h.rd;let(p,t,rfl,sq,r):=Rv.of s f q;let(d,rfl,k):=strsOf.of r j;have hl:=r.length;rw[NC]at hl;exact(p,d,rfl,sq.Uh,by have:=da i;lia,λb e=>h _ _ (Ext.new e _) (s.new e _) _ (b,rfl,by rw[ak,<- kM k .nil];unfold wu met;rw[zC]))
end
noncomputable def TyA(K:qs)(H:Hp)(k:Nat)(v:V):Prop:=match k with
 |0=>v=.Ro
 |1=>∃b,v=.bl b
 |2=>∃b,v=.int b
 |3=>∃b,v=.str b
 |4=>∃a d,v= ⇑a/\RW K H a d
 |5=>∃a d,v= ⇑a/\RP K H a d
 |_=>False
noncomputable def WA:Nat->String
 |0=>"NoneType"
 |1=>"bool"
 |2=>"int"
 |3=>"str"
 |4=>"tuple"
 |_=>"list"
theorem xY{X:Cx}(t:Nat)(hk:∀k,k<=5->W.kitOne X.K (.type (WA k)) (.type (WA t))= ↑(Zm t k)) :
  bE X (.builtin "isinstance") (λm H Q=>∃x k,m=[x,.ty (WA t)]/\TyA X.K H k x/\Q (.bl (Zm t k)) H):=by
 rintro d s p H m E Q I r ⟨x,k,rfl,q,h⟩;let(u,c,rfl,e,v):=D2 r;cases (show c=Value.type (WA t) from v);have fin:∀i,EP X d p Q (.bool (Zm t k)) {s with toks:=i}:=λi=>(.bl _,H,I.tok i,rfl,h)
 have y:k<=5:=Nat.le_of_not_lt λz=>by
  obtain⟨j,rfl⟩:∃j,k=j+6:=(k - 6,⋯)
  exact q
 have g:∀{φ},W.KitX X.K u (.type (WA k)) φ->φ s.heap->u≠.builtin "__main__.__loader__#opaque"->wpAny (model X.prog X.w) X.A (call (.builtin "isinstance") [u,.type (WA t)]) (EP X d p Q) X.xe s:=λK f n=>Qv K I.Se f (hk k y) n fin
 match k with
 |0=>cases q;cases e;exact g W.kitx_none True.intro (λz=>nomatch z)
 |1=>let(b,rfl):=q;cases e;exact g W.kitx_bool True.intro (λz=>nomatch z)
 |2=>let(b,rfl):=q;let(t,rfl):=e;exact g W.kitx_int True.intro (λz=>nomatch z)
 |3=>let(b,rfl):=q;let(t,rfl):=e;exact g W.kitx_str True.intro (λz=>nomatch z)
 |4 =>let(a,B,rfl,sq):=q;cases e;let(l,_,(o,e1,e2,_),_):=I.tuple sq;exact g W.kitx_tuple (o,e1,e2) (λz=>nomatch z)
 |5 =>let(a,B,rfl,sq):=q;cases e;let(l,_,(o,_,e1,e2,_),_):=I.list sq;exact g W.kitx_list (o,e1,e2) (λz=>nomatch z)
 |k+6=>exact q.elim
theorem B7{K:qs}:∀{t:Nat},1<=t->t<=5->∀k,k<=5->W.kitOne K (.type (WA k)) (.type (WA t))= ↑(Zm t k)
 |1,_,_,k,h|2,_,_,k,h|3,_,_,k,h|4,_,_,k,h|5,_,_,k,h=>by rcases(by lia:k=0\/k=1\/k=2\/k=3\/k=4\/k=5)with rfl|rfl|rfl|rfl|rfl|rfl<;>rfl
section
theorem Zl.of(s:Rz g m S H)(r:R g H m a v)(h:Zl S a= ↑k):TyA g.K H k v:=by
 cases a with
 |Ro=>cases h;exact r
 |bl b|int b=>cases h;exact(b,r)
 |str b=>cases h;let(x,_,e):=r;exact(x,e)
 |tup b=>cases h;let(p,d,e,q,_):=r;exact(p,d,e,q)
 |cl b=>cases h;let(p,d,e,q,_):=r;exact(p,d,e,Ui.Uh (.inr q))
 |ref i =>unfold Zl at h;dsimp only at h;split at h<;>cases h;let(p,d,e,q,_):=Rv.of (x:= ⇑i) s r ‹_›;exact(p,d,e,q.Uh)
 |_=>cases h
end
section
variable{X:Cx}{g:Gx}{E:L2.St->XK}{c:Expr}{pos:Pos}
theorem IY(h1:1<=t)(h5:t<=5)(i:X.K=g.K)(j:X.mg "isinstance"=none)(l:Gl X "isinstance")(m:bootBuiltins "isinstance"= ↑(.builtin "isinstance"))(q:PE X a (tE g E ca))(w:PE X u (L2.tC (.ty (WA t))))
  (hs:dY a=true) (d:dY u=true) (y:starEach [a,u] X.env=(false,eval a X.env)::starEach [u] X.env) (f:(backTo pos (starEach [u] X.env)).any (·.1)=false) :
  PE X (.Call (.Name "isinstance" p) [a,u] [] pos) (tE g E (cU (V9 t) ca)) :=
 SV (b9 (xY t λk z=>B7 h1 h5 k z) l j m (bH q (bH w aZ d) hs) ⋯ ⋯ y f) λB H Q h=>un h λ_ _ _ _ _ v s _ r h=>let⟨k,e,h⟩:=h.rd;(v,k,rfl,i▸Zl.of s r e,h.ret s _ (R.bl _))
structure fg(g:Gx)(T:List (Str×KTD.Dat))(ks:List (Nat×A)):Prop where
 mem:∀(n:Nat)(x:Str),g.ST[n]?= ↑x->KTD.inKeys x T=(look n ks).isSome
 plain:(T.all λp=>KTD.plain p.2)=true
 int:∀(n:Nat)(x:Str)(i:Int),g.ST[n]?= ↑x->look n ks= ↑(.int i)->KTD.datumAt x T= ↑(.flat (.int i))
 str:∀(n:Nat)(x:Str)(k:Nat),g.ST[n]?= ↑x->look n ks= ↑(.str k)->∃z,g.ST[k]?= ↑z/\KTD.datumAt x T= ↑(.flat (.str z))
 flat:∀(n:Nat)(x:A),look n ks= ↑x->(∃i,x=.int i)\/∃k,x=.str k
theorem YC.of(a:fg g T ks)(r:R g H m x v)(h:YC ks x= ↑k):∃y,v=.str y/\KTD.inKeys y T=k :=
 let⟨n,en,h⟩:=rO.of h;let⟨y,e,d⟩:=Um.of r en;(y,d,by cases h;exact a.mem n y e)
theorem IU(d:fg g T ks)(f:X.K=g.K)(i:eL g.K t T)(j:PE X a (tE g E ca))(k:PE X b (L2.tC ⇑t)):PC X .In a b (tE g E (sO ks ca)) :=
 Zp (nr zU j k) λm H Q h=>un h λ_ _ _ _ _ _ s _ r h=>let⟨_,e,q⟩:=Out.bA h s;let⟨y,l,e2⟩:=YC.of d r e;(y,t,T,l,rfl,f▸i,e2▸q)
theorem GD(d:fg g T ks)(f:X.K=g.K)(i:eL g.K t T)(j:PE X a (tE g E ca))(k:PE X b (L2.tC ⇑t)):PC X .NotIn a b (tE g E (uG ks ca)) :=
 Zp (nr rC j k) λm H Q h=>un h λ_ _ _ _ _ _ s _ r h=>let⟨_,e,q⟩:=Out.bA h s;let⟨_,e,z⟩:=nO.of e;let⟨y,l,e2⟩:=YC.of d r e;(y,t,T,l,rfl,f▸i,by subst z e2;exact q)
theorem Ja(d:fg g T ks)(f:X.K=g.K)(j:eL g.K t T)(l:PE X b (L2.tC ⇑t))(m:PE X a (tE g E ca))(hs:ka a):PE X (.Subscript b a pos) (tE g E (vZ ks ca)) :=
 SV (gP (Yh.or B4) l m hs) λp H Q h=>un h λ_ _ _ _ _ _ s _ r h=>by
  let(n,en,h):=h.rd;let(z,q,h):=h.rd;let(y,e,rfl):=Um.of r en;rcases d.flat n z q with⟨i,rfl⟩|⟨k,rfl⟩
  ·exact .inl (t,y,T,i,rfl,rfl,f▸j,d.plain,d.int n y i e q,h.ret s _ (R.int i))
  ·let(z,e1,e2):=d.str n y k e q;exact .inr (t,y,T,z,rfl,rfl,f▸j,d.plain,e2,h.ret s _ (R.str e1))
theorem Gq(k:fg g T ks)(l:∀p∈T,∃j,p.2=.flat (.int j))(u:X.K=g.K)(v:eL g.K t T)(w:PE X b (L2.tC ⇑t))(B:PE X a (tE g E ca))(G:PE X c (tE g E I))(m2:M2 X b "get" d a c pos) :
  PE X (.Call (.Attribute b "get" d) [a,c] [] pos) (tE g E (mP ks ca I)) :=
 SV (xb w B G m2) λO H Q h=>⟨t,T,rfl,u▸v,un h λm J S H _ _ s L r h=>by
  let(n,en,h):=h.rd;let(y,e,rfl):=Um.of r en;refine(m,J,S,s,L,h.bind.mono λ_ _ _ _ _ s h _ r=>?_);let(i,M,h):=h.rd;refine(y,i,rfl,SD.of r M,l,?_);have f:=k.mem n y e;rw[<- Ra]at f;split at h
  ·rename_i z q;let(j,N,h):=h.rd;cases z<;>cases N;rw[k.int n y _ e q];exact h.ret s _ (R.int j)
  ·rename_i q;rw[q,Option.isSome_none,Option.isSome_eq_false_iff,Option.isNone_iff_eq_none]at f;rw[f];exact h.ret s _ (R.int i)⟩
theorem Out.Zr{α β:Type}{m:zz}{S:Rm}{r:Res α}{f:α->Rm->Res β}{P:β->List Addr->Rm->Hp->Prop}{E:XK}(h:Out g m S H (r.b f) P E):Out g m S H r (λa _ d _=>Out g m S H (f a d) P E) E:=by
 cases r with
 |ok a e=>exactλi j y s=>h
 |exc c e=>exact h
 |bad=>exact h
noncomputable def PQ(X:Cx)(g:Gx)(E:L2.St->XK)(pos:Pos)(keys:List (Option Expr))(a:zp)(d:zl)(c:Ca):Prop :=
 ∃e,Za X pos keys a e/\∀f H Q,Vo g E c f H (λi j=>i.length=d.length->Q ((d.map V.str).zip i) j)->pQ e f H Q
theorem Gb:PQ X g E pos [] [] [] aN:=([],CO,λa H Q ⟨m,d,S,s,e,h⟩=>h.ret s [] .nil rfl)
theorem CP(l:PE X a (tE g E ca))(q:PQ X g E pos ks r t u):PQ X g E pos (↑(.Constant (.str x) j p)::ks) (a::r) (x::t) (aC ca u):=by let(T,w,k):=q;refine(_,Al jw l w,λz H Q ⟨m,e,S,s,f,h⟩=>(m,e,S,s,f,h.bind.mono λy m1 B G I i h1 v J=>k z G _ (m1,e,B,i,f.mono I s,h1.bind.mono λU m2 Y H2 L M N O d hl=>?_)));have:=N.ret M (v::O) (.cons (R.mono L i _ J) d) (by simp[hl]);exact this
theorem jR:∀(d a:List (Str×V)),(d.map (·.1)).Nodup->(∀p∈a,p.1∉d.map (·.1))->gi a d=a++d
 |[],a,_,_=>by show a=a++[];rw[N9]
 |p::r,a,f,i=>by
  rw[NR,Oe]at f
  have e:dZ a p.1 p.2=a++[p]:=by unfold dZ;rw[NH];intro z;let(q,hq,e):=List.any_eq_true.mp z;exact i q hq (by rw[NT e];exact OP)
  show gi (dZ a p.1 p.2) r=_;rw[e,jR r (a++[p]) f.2 λq hq=>?_,Ow]
  ·rfl
  ·rcases NS.mp hq with hq|hq
   ·exactλz=>i q hq (Oi _ z)
   ·rw[NI.mp hq];exact f.1
theorem Bm:∀{a:zl}{d:List V},d.length=a.length->(a.map V.str).zip d=(a.zip d).map λe=>(.str e.1,e.2)
 |[],_,_=>rfl
 |x::a,[],h=>nomatch h
 |x::a,v::d,h=>by simp only[NR,List.zip_cons_cons];rw[Bm (by simpa using h)]
theorem Rf.zip:∀{ks:List Nat}{i:zl}{f:List A}{d:List V},Sd g ks i->Rs g H m f d->Rf g H m (ks.zip f) (i.zip d)
 |_,_,_,_,.nil,_=>by simp;exact .nil
 |_,_,[],d,.cons e p,r=>by rw[r.SE];simp;exact .nil
 |_,_,a::f,d,.cons e p,r=>by let(v,t,rfl,j,k):=r;exact .cons (e,j) (Rf.zip p k)
theorem Sd.keys(h:Sd g ks k)(f:ks.Nodup):k.Nodup:=by
 induction h with
 |nil=>exact List.nodup_nil
 | @cons a b l m e p i =>
  rw[Oe]at f ⊢;refine(λj=>f.1 ?_,i f.2);clear i f
  induction p with
  |nil=>exact absurd j (by simp)
  | @cons c d l m q p i =>
   rcases NB.mp j with z|z
   ·rw[z]at e;have:a=c:=(Ql (LD.mp e).1 g.nd).mp (e.trans q.symm);rw[this];exact OP
   ·exact Oi _ (i z)
theorem Rz.adopt{m:zz}{S:Rm}{c:C}(s:Rz g m S H)(k:p∉m)(j:Vl g H (m++[p]) c p):Rz g (m++[p]) (S.nx+1,(S.nx,c)::S.cs) H:=by
 refine(by simp[s.len],?_,λa f=>?_,λi d e=>?_)
 ·rw[Rk];exact(s.nd,by simp,λa f b l z=>k (by rw[<- NI.mp l,<- z];exact f))
 ·rcases NS.mp f with w|w
  ·exact s.up a w
  ·rw[NI.mp w];let(o,q,_):=j.has;rw[q];exactλz=>nomatch z
 ·rw[aB]at e;split at e
  ·cases e;subst i;exact(p,by rw[<- s.len];simp,j)
  ·let(a,q,ok):=s.cell i d e;exact(a,cq q,ok.stay (.more _) λ_ h=>h)
theorem IP(hq:PQ X g E pos keys f j cs)(N:Sd g ks j)(nd:ks.Nodup)(hx:j.length<=15)(q:keys.all (·.isSome)=true)(hl:keys.length=f.length)(h0:keys≠[])
  (I:keys.length<=15):PE X (.Dict keys f pos) (tE g E (Ex ks cs)):=by
 let(Wh,hp,k):=hq;refine SV (CD hp q hl h0 I) λσ H Q ⟨m,ρ,S,s,re,h⟩ p d=>k σ _ _ (m,ρ,S,s.new d _,re.mono (Ext.new d _) s,((Out.Zr h).ext (Ext.new d (.dK []))).mono λas m2 O H2 l B T r rs t=>?_);have u:p∉m:=λz=>s.up p z d;have v:¬ VE m S p:=λ⟨i,c,e,_⟩=>u (Oq e);refine(l.keep p _ v ak,j.zip r,Bm t,by rw[List.length_zip];lia,?_);have J:(j.zip r).map (·.1)=j:=List.map_fst_zip ⋯
 have hm:gi [] (j.zip r)=j.zip r:=by rw[jR _ [] (by rw[J];exact N.keys nd) (λ_ z=>nomatch z)];rfl
 rw[hm];rw[aL,b8]at T;let(k2,e2,w):=l.pre
 have L:p∉m2:=by
  rw[e2];intro z;rcases NS.mp z with z|z
  ·exact u z
  ·have:=w p z;rw[ak]at this;cases this
 have M:H2 p= ↑(.dK []):=l.keep p _ v ak;have U:=B.adopt (c:=.dct []) L ([],M,.nil);let(Y,_):=U.write (a:=p) (i:=O.nx) (c:=.dct (ks.zip as)) (o:=.dK (j.zip r)) (by rw[<- B.len];simp) (by rw[aB,NL rfl]) rfl λx=>(_,ak,Rf.mono x U (Rf.zip N (Rs.stay (.more _) _ rs)))
 rw[lN,NL rfl]at Y;refine T (m2++[p]) _ ((k2++[p],by rw[e2,Ow],λa G=>?_),λa z=>?_,λa o hn G=>?_,λi c hi e oo=>?_) Y _ (R.ref ?_)
 ·rcases NS.mp G with z|z
  ·exact(Ext.new (m:=m) (S:=S) d (.dK [])).low a (w a z)
  ·rw[NI.mp z];exact d
 ·by_cases y:a=p
  ·rw[y];exact d
  ·rw[ao y]at z;exact(Ext.new (m:=m) (S:=S) d (.dK [])).low a (l.low a z)
 ·have y:a≠p:=bo G d;rw[ao y];exact l.keep a o hn (by rw[ao y];exact G)
 ·rw[aB]at e;by_cases z:O.nx=i
  ·have:=B.len;rw[e2,NK]at this;lia
  ·rw[NH z]at e;exact l.bk i c hi e oo
 ·rw[<- B.len];simp
end
noncomputable def Zs(g:Gx)(r:V->List V->Hp->VK->Prop)(f:A->A->Rm->Res A):Prop:=∀m S H a b v w Q E,Rz g m S H->R g H m a v->R g H m b w->Out g m S H (f a b S) (An g Q) E->r v [w] H Q
section
theorem vM{g:Gx}{n k:Nat}{x:Str}(h:g.ST[n]?= ↑x)(a:g.ST[k]?= ↑x):n=k:=(Ql (LD.mp h).1 g.nd).mp (h.trans a.symm)
theorem iO{g:Gx}(e:g.ST[n]?= ↑x):∀{ks:List (Nat×A)}{d:List (Str×V)}{a:A},Rf g H m ks d->look n ks= ↑a->∃v,cw d x= ↑v/\R g H m a v
 | (k,b)::_,(_,v)::_,a,.cons ⟨f,r⟩ t,h=>by
  rw[aB]at h;unfold cw;rw[O2];split at h
  ·subst k;cases h;cases f.symm.trans e;exact(v,by rw[Oz rfl];rfl,r)
  ·let(u,e1,e2):=iO e t h;rw[OY λw=>‹¬ k=n› (vM f (by rw[w];exact e))];exact(u,e1,e2)
theorem Vb.of(s:Rz g m S H)(r:R g H m x v)(h:Vb S x= ↑(Prod.mk (i) ks)):∃a d,v= ⇑a/\Rd H a (.dK d)/\Rf g H m ks d:=by
 unfold Vb at h;split at h
 ·let(l,f,rfl):=r;split at h<;>cases h
  ·let(a,e,gs,j,k):=s.cell _ _ ‹_›;rw[e]at f;cases f;exact(l,gs,rfl,.inl j,k)
  ·let(a,e,o,gs,j,k):=s.cell _ _ ‹_›;rw[e]at f;cases f;exact(l,gs,rfl,.inr (o,j),k)
 ·cases h
theorem T3.of(s:Rz g m S H)(r:R g H m a v)(h:T3 S a= ↑(Prod.mk (i) f)):∃p d,v= ⇑p/\m[i]?= ↑p/\look i S.cs= ↑(.lst f)/\H p= ↑(.lst d)/\Rs g H m f d:=by
 unfold T3 at h;split at h
 ·split at h<;>cases h;let(a,e,d,q,k):=s.cell i _ ‹_›;let(l,j,rfl):=r;rw[e]at j;cases j;exact(a,d,rfl,e,‹_›,q,k)
 ·cases h
theorem Fj:Zs g vG dB:=λm S H a b v w Q E s j k h=>by
 let((i,d),q,h):=h.rd;let(t,h):=h.gd;rw[aL,bW]at h;let(p,f,rfl,e,l,u,r):=T3.of s j q;let(y,z):=s.write (c:=.lst (d++[b])) (o:=.lst (f++[w])) e l rfl λx=>(_,ak,(Rs.mono x s d r).append (.cons (R.mono x s b k) .nil))
 have hl:=r.length;have B:=da t;exact(p,f,w,rfl,rfl,u,by rw[Ol];lia,h _ _ z y _ R.Ro)
theorem Fm:Zs g pH oU:=λm S H a b v w Q E s y z h=>by
 let((i,d),q,h):=h.rd;let((j,f),B,h):=h.rd;let(G,h):=h.gd;rw[aL,bW]at h;let(p,k,rfl,e,l,I,r):=T3.of s y q;let(J,t,rfl,_,_,L,u):=T3.of s z B;let(M,N):=s.write (c:=.lst (d++f)) (o:=.lst (k++t)) e l rfl λx=>(_,ak,(Rs.mono x s d r).append (Rs.mono x s f u))
 have hl:=r.length;have O:=u.length;have T:=da G;rw[NK]at T;exact(p,J,k,t,rfl,rfl,I,L,by rw[Ol];lia,h _ _ N M _ R.Ro)
theorem Rs.dropLast(r:Rs g H m a d):Rs g H m a.dropLast d.dropLast:=by rw[List.dropLast_eq_take,List.dropLast_eq_take,r.length];exact r.take _
theorem FF:TX g (λv H Q=>Jv v [] H Q) lg:=λm S H a v Q E s j h=>by
 let((i,k),q,h):=h.rd;let(y,t,h):=h.rd;rw[aL,bW]at h;let(p,d,rfl,e,l,w,r):=T3.of s j q;let(u,z,B):=r.get t;let(G,f):=s.write (c:=.lst k.dropLast) (o:=.lst d.dropLast) e l rfl λx=>(_,ak,Rs.mono x s _ r.dropLast)
 exact(p,d,u,rfl,rfl,w,by rw[r.length];exact z,h _ _ f G _ (R.mono f s y B))
theorem UH.of(r:R g H m x v):∀{a:List A}{p:List V}{k j:Nat},Rs g H m a p->UH x a k= ↑j->∃i,j=k+i/\(∃e,(SR g a)[i]?= ↑e/\SA e (toD g x)=true)/\∀(n:Nat) e,n<i->(SR g a)[n]?= ↑e->SA e (toD g x)=false
 |[],_,k,j,_,h=>nomatch h
 |y::G,_,k,j,rs,h=>by
  let(u,t,rfl,w,B):=rs.RN;unfold UH at h;have f:=om y x w r
  cases q:SN y x with
  |true =>rw[q]at h;cases h;exact(0,rfl,(toD g y,by unfold SR;rfl,by rw[f,q]),λn e z=>absurd z (Nat.not_lt_zero n))
  |false =>
   rw[q]at h;let(i,e1,(e,e2,e3),E):=UH.of r B h;refine(i+1,⋯,(e,by unfold SR;exact e2,e3),λn l I d=>?_);unfold SR at d
   cases n with
   |zero =>
    have:toD g y=l:=by simpa using d
    rw[<- this,f,q]
   |succ n=>exact E n l ⋯ (by simpa using d)
theorem Fo:Zs g (vH g.K) zA:=λm S H a b v w Q E s l j h=>by let(t,q,h):=h.rd;let(u,h):=h.gd;let(y,h):=h.gd;let(z,h):=h.gd;let(k,B,h):=h.rd;let(p,G,rfl,sq,r):=Rv.of s l q;let(d,e,f):=kL b y j;let(I,J,L):=Tj t z r;let(i,e1,e2,e3):=UH.of j r B;have hl:=r.length;have M:=da u;rw[QO]at e1;subst e1;exact(p,G,w,_,_,k,rfl,rfl,sq,I,d,J,e,L,⋯,e2,e3,Out.int h s)
theorem TU.of(r:R g H m x v)(h:TU n x= ↑l):∃i:Nat,Uk x= ↑i/\v=.int i/\l=min i n:=by
 let(i,e,h):=rO.of h;refine(i,e,Uk.of r e,?_);have h:=Oa h;split at h<;>rename_i q<;>subst h
 ·exact(Nat.min_eq_left (NF q)).symm
 ·exact(Nat.min_eq_right (O9 (Nat.lt_of_not_le λz=>by rw[NP z]at q;cases q))).symm
end
section
variable{g:Gx}{E:L2.St->XK}
theorem yj(r:Rs g H m d a)(i:Nat):Rs g H m (d.drop (min i d.length)) (j0 a ↑i none):=by unfold j0;show Rs g H m _ ((a.drop (min i a.length)).take (a.length - min i a.length));rw[r.length];have e:(a.drop (min i d.length)).take (d.length - min i d.length)=a.drop (min i d.length):=Qn (by rw[List.length_drop,r.length];exact Nu _);rw[e];exact r.drop _
theorem mR{K:qs}{d:List V}(e:HT.Tt d.length 0 a=0)(f:HT.Tt d.length d.length b=d.length)(sq:RW K H p d):RW K H p (j0 d a b):=by unfold j0;rw[e,f,List.drop_zero,Nat.sub_zero,List.take_length];exact sq
theorem GI{X:Cx}{lo:Expr}(d:X.K=g.K)(e:PE X a (tE g E ca))(hl:PE X lo (tE g E cl)):PE X (.Subscript a (.Slice ↑lo none none w) f) (tE g E (cO ux ca cl)) :=
 SV (rF (d▸AO) e (pD hl) CN) λy H Q h=>Zq h λ_ _ _ _ _ _ _ _ s _ r q h=>by let(B,ex,h):=h.rd;let(l,j,h):=h.rd;let(i,_,rfl,rfl):=TU.of q j;let(p,m,rfl,sq,r):=Ul.of r ex;let(z,k,t):=Out.tup h s (yj r i);exact(_,rfl,p,m,rfl,sq,λ⟨u,v⟩=>t p (mR u v sq),k)
theorem uM(r:Rs g H m d a)(i j:Nat):Rs g H m ((d.drop (min i d.length)).take (min j d.length - min i d.length)) (j0 a ↑i ↑j):=by unfold j0;show Rs g H m _ ((a.drop (min i a.length)).take (min j a.length - min i a.length));rw[r.length];exact(r.drop _).take _
theorem GJ{X:Cx}{lo:Expr}(t:X.K=g.K)(B:PE X a (tE g E ca))(hl:PE X lo (tE g E cl))(G:PE X I (tE g E J)):PE X (.Subscript a (.Slice ↑lo ↑I none p2) L) (tE g E (Zo ca cl J)) :=
 SV (rF ((t▸AO).or (t▸Dq)) B (pD hl) (pD G)) λσ H Q h=>Zq h λm M S _ x _ y _ s N r q h=>by
  let(i,O,h):=h.rd;refine(_,Uk.of q O,m,M,S,s,N,h.bind.mono λz _ _ _ T s h u v=>?_);have w:=R.mono T ‹Rz g m S _› _ r;split at h
  ·let(U,ex,h):=h.rd;let(l,e,h):=h.rd;let(Y,d,h):=h.rd;cases ex;let(i',e1,_,rfl):=TU.of (R.int (g:=g) (H:=H) (m:=m) _) e;cases e1;let(j,_,rfl,rfl):=TU.of v d;let(p,f,rfl,sq,r):=Ul.of w ‹_›;let(z,k,k'):=Out.tup h s (uM r i j);exact(_,rfl,.inl (p,f,rfl,sq,λ⟨z1,z2⟩=>k' p (mR z1 z2 sq),k))
  ·let(U,ex,h):=h.rd;let(l,e,h):=h.rd;let(Y,d,h):=h.rd;let(i',e1,_,rfl):=TU.of (R.int (g:=g) (H:=H) (m:=m) _) e;cases e1;let(j,_,rfl,rfl):=TU.of v d;let(p,f,rfl,sq,r):=Rv.of s w ex;exact(_,rfl,.inr (p,f,rfl,sq.Uh,(Out.new h s (uM r i j)).2))
theorem Fp:Uo g Jq gk:=λm S H a b v w Q E s r q h=>by let((i,ks),e1,h):=h.rd;let(n,e2,h):=h.rd;let(y,e3,h):=h.rd;let(p,d,rfl,e,rk):=Vb.of s r e1;let(y,f,rfl):=Um.of q e2;let(u,e1,e2):=iO f rk e3;exact(p,u,rfl,(d,y,e,rfl,e1.symm),h.ret s _ e2)
theorem rZ(s:Rz g m S H)(r:R g H m x v)(h:Rv S x= ↑d):ZW g.K "list" v H:=by let(p,a,rfl,q,_):=Rv.of s r h;exact .inl (rfl,a,q.Uh)
variable{id:String}
theorem Lc{X:Cx}{d:Pos}(slot:Slot "list" name id)(l:typeOf (.builtin id)=pure (.type "method_descriptor"))(t:Wt X id r)(ok:Zs g r f)(u:X.K=g.K)(z:PE X a (tE g E ca))(B:PE X b (tE g E G))
  (m:dY b=true) (e:attributeBase a name X.env (eval a X.env)=eval a X.env)
  (k:((backTo i (starEach [b] X.env)).all (λx=>!x.1)&&(backToKw i (keywordEach [] X.env)).all (λx=>x.1.isSome)
   && decide ([b].length+([]:List Keyword).length+(if ([]:List Keyword).isEmpty then 0 else 1)<30))=true:=by rfl)
  (j:(d.endLine==i.line)=true) (hs:starEach [b] X.env=(false,eval b X.env)::starEach [] X.env):PE X (.Call (.Attribute a name d) [b] [] i) (tE g E (cM f ca G)) :=
 SV (nt O5 slot l t z (bH B aZ m) e k j hs) λO H Q h=>un h λ_ I _ _ x v s J p h =>
  let⟨_,q,h⟩:=h.rd;(u▸rZ s p q,_,I,_,s,J,h.bind.mono λy _ _ _ L M N w rw=>ok _ _ _ x y v w Q _ M (R.mono L s _ p) rw N)
theorem Lb{X:Cx}{j d:Pos}(slot:Slot "list" name id)(k:typeOf (.builtin id)=pure (.type "method_descriptor"))(l:Wt X id r)(ok:TX g (λv H Q=>r v [] H Q) f)(hl:∀x S Q E m H,Out g m S H (f x S) (An g Q) E->∃p,Rv S x= ↑p)(t:X.K=g.K)(u:PE X a (tE g E ca))
  (e:attributeBase a name X.env (eval a X.env)=eval a X.env) (i:(d.endLine==j.line)=true):PE X (.Call (.Attribute a name d) [] [] j) (tE g E (cU f ca)) :=
 SV (FY O5 slot k l u e i) λw H Q h=>un h λ_ _ _ _ _ _ s _ r h=>let⟨_,q⟩:=hl _ _ _ _ _ _ h;(t▸rZ s r q,ok _ _ _ _ _ _ _ s r h)
theorem Ak(x:A)(S:Rm)(Q:VK)(E:XK)(m:zz)(H:Hp)(h:Out g m S H (lg x S) (An g Q) E):∃a,Rv S x= ↑a:=by
 let(p,e,_):=h.rd;unfold T3 at e;split at e
 ·split at e<;>cases e;exact(_,by show RL S _=_;unfold RL;rw[‹look _ _=_›])
 ·cases e
noncomputable def R9(g:Gx)(f:RJ):Sp:=λd H Q E=>∃m S a,Rz g m S H/\Rs g H m a d/\Out g m S H (f a S) (An g Q) E
theorem Gj{X:Cx}(ok:Rt X.prog X.w X.K X.mg X.base l k f q r (R9 g F))(t:RE k X.A)(u:Gl X x)(v:X.mg x= ↑⇑f)(hk:W.keepIn X.K ⇑f=true)(y:Binds X.K q r [])(z:aY l X E)
  (B:PA X (a::d) (Vo g E G)) (e:(x==("__debug__":Str))=false) (I:starEach (a::d) X.env=(false,eval a X.env)::starEach d X.env) (i:(backTo j (starEach d X.env)).any (·.1)=false) :
  PE X (.Call (.Name x p) (a::d) [] j) (tE g E (ae F G)) :=
 SV (rD (R1:=[]) ok t u v hk y .nil z B e I i) λT H Q ⟨m,J,S,s,L,h⟩=>(m,J,S,s,L,h.bind.mono λM m1 N U Y O h1 vs rs=>(m1,N,M,O,by rw[N9];exact rs,h1))
end
noncomputable def UA(a:List A)(S:Rm):Rm:=match a with
 | .ref i::_=>match look i S.cs with
  |some (.lst d)=>(S.nx,put i (.RK d) S.cs)
  |_=>S
 |_=>S
noncomputable def Xo(a:Rm)(d:List A)(S:Rm):Rm:=match d with
 | .ref i::_=>match look i a.cs with
  |some (.lst e)=>(S.nx,put i (.lst e) S.cs)
  |_=>S
 |_=>S
theorem gA(d:List A)(S:Rm)(k:Rm->α):cB d S k=k (UA d S):=by
 cases d with
 |nil=>rfl
 |cons a r=>cases a<;>first|rfl | (unfold cB UA;dsimp only;cases look _ S.cs with|none=>rfl|some c=>cases c<;>first|exact bW .. |rfl)
theorem dN(d:Rm)(e:List A)(S:Rm)(k:Rm->α):bJ d e S k=k (Xo d e S):=by
 cases e with
 |nil=>rfl
 |cons a r=>cases a<;>first|rfl | (unfold bJ Xo;dsimp only;cases look _ d.cs with|none=>rfl|some c=>cases c<;>first|exact bW .. |rfl)
theorem jP{α:Type}{n:Nat}{x:α}{l:List (Nat×α)}:look j (put n x l)=if j=n then (look j l).map λ_=>x else look j l:=by
 induction l with
 |nil=>split<;>rfl
 |cons p r d =>
  let(k,a):=p;rw[lN,aB];split
  ·rw[aB];subst k;by_cases h:j=n
   ·simp[h]
   ·rw[NH h,NH (OB h),NH (OB h)]
  ·rw[aB,d];by_cases h:k=j
   ·subst h;rename_i hk;simp[hk]
   ·rw[NH h,NH h]
theorem aq{α:Type}{x c0:α}{l:List (Nat×α)}(h:look n l= ↑c0):look n (put n x l)= ↑x:=by rw[jP,NL rfl,h];rfl
theorem Ru{α:Type}{x:α}(a:j≠n){l:List (Nat×α)}:look j (put n x l)=look j l:=by rw[jP,NH a]
section
theorem k8(h:look i (UA d S).cs= ↑c):look i S.cs= ↑c\/∃a,c=.RK a/\look i S.cs= ↑(.lst a):=by
 unfold UA at h;split at h
 ·split at h
  ·rcases cD h with⟨rfl,rfl,_⟩|⟨_,h⟩
   ·exact .inr (_,rfl,‹_›)
   ·exact .inl h
  ·exact .inl h
 ·exact .inl h
theorem p9(h:look i (Xo d e S).cs= ↑c):look i S.cs= ↑c\/∃a,c=.lst a/\look i d.cs= ↑(.lst a)/\e.head?= ↑⇑i:=by
 unfold Xo at h;split at h
 ·split at h
  ·rcases cD h with⟨rfl,rfl,_⟩|⟨_,h⟩
   ·exact .inr (_,rfl,‹_›,rfl)
   ·exact .inl h
  ·exact .inl h
 ·exact .inl h
theorem Rz.lock(s:Rz g m S H):Rz g m (UA ls S) H:=by
 refine(s.len.trans (by unfold UA;split<;>(try split)<;>rfl),s.nd,s.up,λi c h=>?_);rcases k8 h with d|⟨f,e,d⟩
 ·exact s.cell i c d
 ·rw[e];let(a,q,ok):=s.cell i _ d;exact(a,q,ok)
theorem VE.unlock(h:VE m (UA d S) a):VE m S a:=by
 let(i,c,e,e2,o):=h;rcases k8 e2 with h|⟨f,rfl,h⟩
 ·exact(i,c,e,h,o)
 ·exact nomatch o
theorem Rz.locked{d:List A}(s:Rz g m S H)(hl:d.head?= ↑⇑i)(f:m[i]?= ↑a)(h:RL S i= ↑k):¬ VE m (UA d S) a:=λ⟨j,c,e,e2,o⟩=>by
 cases s.uniq f e
 cases d with
 |nil=>cases hl
 |cons b r =>
  cases hl;unfold UA at e2;dsimp only at e2;split at e2
  ·rw[show look i (put i _ S.cs)=_ from aq ‹_›]at e2;cases e2;cases o
  ·rename_i n;unfold RL at h;split at h
   ·exact n _ ‹_›
   ·rw[‹look i S.cs=_›]at e2;cases e2;cases o
   ·cases h
theorem Ext.unlock(x:Ext m (UA t S) H f j l)(s:Rz g m S H)(d:Rz g f j l):Ext m S H f (Xo S t j) l/\Rz g f (Xo S t j) l:=by
 refine((x.pre,x.low,λa o v h=>x.keep a o (λz=>v z.unlock) h,λi c w h o=>?_),(d.len.trans (by unfold Xo;split<;>(try split)<;>rfl),d.nd,d.up,λi c h=>?_))
 ·rcases p9 h with h|⟨p,rfl,h,_⟩
  ·let(c0,h0,u):=x.bk i c w h o;rcases k8 h0 with h|⟨p,rfl,h⟩
   ·exact(c0,h,u)
   ·exact nomatch u
  ·exact(_,h,rfl)
 ·rcases p9 h with h|⟨p,rfl,h,y⟩
  ·exact d.cell i c h
  ·let(a,e,B,q,r):=s.cell i _ h;let(k,rfl,_):=x.pre;exact(a,cq e,B,x.keep a _ (s.locked y e (by unfold RL;rw[h])) q,Rs.mono x s.lock p r)
end
noncomputable def tG(g:Gx)(c:TV):TG:=λv i H Q=>∃m f S a d,Rz g m S H/\Re g H m f i/\R g H m a v/\c a f= ↑d/\∀e,Re g H m d e->Q e H
noncomputable def YG(g:Gx)(i:List TV):XX:=λj k H Q=>∃m e S f a,Rz g m S H/\Re g H m e k/\Rs g H m f j/\XA i f e= ↑a/\∀d,Re g H m a d->Q d H
noncomputable def RU(g:Gx)(m:zz)(S:Rm)(H:Hp)(r:XR)(D:Ends)(E:L2.St->XK):Prop:=match r with
 | .ok (.nx j) i=>∀f d e,Ext m S H f i d->Rz g f i d->Re g d f j e->D.nx e d
 | .ok (.bk j) i=>∀f d e,Ext m S H f i d->Rz g f i d->Re g d f j e->D.bk e d
 | .ok (.ct j) i=>∀f d e,Ext m S H f i d->Rz g f i d->Re g d f j e->D.ct e d
 | .ok (.rt a) i=>∀f d v,Ext m S H f i d->Rz g f i d->R g d f a v->D.rt v d
 | .exc c j i=>∀f d e k,Ext m S H f i d->Rz g f i d->Re g d f j e->E e ⇑(g.cls c) k d
 | .bad=>False
noncomputable def tS(g:Gx)(E:L2.St->XK)(c:Cs):TS:=λD d H=>∃m a S,Rz g m S H/\Re g H m a d/\RU g m S H (c a S) D E
section
theorem RU.ext{m1:zz}{S:Rm}{D:Ends}(x:Ext m S H m1 e i)(h:RU g m S H r D E):RU g m1 e i r D E:=by
 cases r with
 |ok f j=>cases f<;>exactλa d z y s=>h a d z (x.trans y) s
 |exc c l j=>exactλa d z k y s=>h a d z k (x.trans y) s
 |bad=>exact h
theorem RU.x{S:Rm}{D:Ends}{α:Type}{r:Res α}{f:α->Rm->XR}(h:RU g m S H (r.x k f) D E)(s:Rz g m S H)(l:Re g H m k d):Out g m S H r (λa m1 e p=>RU g m1 e p (f a e) D E) (E d):=by
 cases r with
 |ok a q=>exactλi j y s=>RU.ext y h
 |exc c q=>exactλi j t y u=>h i j d t y u (l.mono y s)
 |bad=>exact h
theorem RU.rd{g:Gx}{m:zz}{S:Rm}{D:Ends}{E:L2.St->XK}{β:Type}{o:Option β}{f:β->XR}(h:RU g m S H (rO o f) D E):∃x,o= ↑x/\RU g m S H (f x) D E:=by cases o with|some x=>exact(x,rfl,h)|none=>exact(show False from h).elim
theorem RU.gd{S:Rm}{D:Ends}(h:RU g m S H (gB b r) D E):b=true/\RU g m S H r D E:=by cases b with|true=>exact(rfl,h)|false=>exact(show False from h).elim
theorem YH{g:Gx}{D:Ends}{E:L2.St->XK}{e:L2.St}{c:Ce}{f:Env->A->Rm->XR}{P:VK}(h:∃m d S,Rz g m S H/\Re g H m d e/\RU g m S H ((c d S).x d (f d)) D E)(k:∀m d S H a v,Rz g m S H->Re g H m d e->R g H m a v->RU g m S H (f d a S) D E->P v H):∃m d S,Rz g m S H/\Re g H m d e/\Out g m S H (c d S) (An g P) (E e) :=
 let⟨m,d,S,s,i,h⟩:=h;(m,d,S,s,i,(h.x s i).mono λ_ _ _ _ x j h _ r=>k _ _ _ _ _ _ j (i.mono x s) r h)
end
section
variable{WC:List TV}
theorem K5{X:Cx}(f:X.N.Nodup)(j:X.N[i]?= ↑x)(k:Loc X.env.scope x)(l:X.fn x=true\/X.env.scope.names.lookup x=some .local):PG X (.Name x p) (tG g (gN i)):=by intro d s t H v u Q I r ⟨m,B,S,a,w,sm,y,z,e,q⟩;unfold gN at e;rw[aL]at e;cases e;exact vB f j k l d s t H v u Q I r (q _ (y.set z i))
theorem Gs:Wr X [] (YG g []):=by
 intro a s d H f i Q I r ⟨m,t,S,j,k,sm,l,p,e,q⟩;refine CG a s d H f i Q I r ?_
 cases j with
 |nil=>cases e;exact(p.SE,q d l)
 |cons _ _=>cases e
theorem C1(k:PG X a (tG g l))(p:Wr X i (YG g WC))(h1:(assignEach (a::i) X.env).map (·.2)=assign a X.env::(assignEach i X.env).map (·.2)):Wr X (a::i) (YG g (l::WC)):=by
 intro d s u H w y Q I r ⟨m,z,S,B,j,sm,E,G,e,q⟩;refine Af k p h1 d s u H w y Q I r ?_
 cases B with
 |nil=>cases e
 |cons x J =>let(v,t,rfl,L,M):=G;let(f,N,e):=rO.of e;exact(v,t,rfl,m,z,S,x,f,sm,E,L,N,λO T=>(m,f,S,J,j,sm,T,M,e,q))
theorem kc:∀{WC:List TV}{d:List A}{e a:Env},XA WC d e= ↑a->d.length=WC.length
 |[],[],_,_,_=>rfl
 |t::f,x::d,e,a,h=>let⟨_,_,h⟩:=rO.of h;NZ (·+1) (kc h)
theorem K6{X:Cx}{g:Gx}(l:X.K=g.K)(t:X.calm=true)(h:Wr X f (YG g WC))(w:(assignEach f X.env).length=WC.length)(i:(assignEach f X.env).findIdx? (·.1)=none):PG X (.Tuple f k y) (tG g (gT WC)):=by intro d s z H v u Q I r ⟨m,B,S,a,j,sm,E,G,e,q⟩;refine F4 t h w i d s z H v u Q I r ?_;let(J,ex,e):=rO.of e;let(p,L,rfl,sq,rs):=Ul.of G ex;exact(p,L,rfl,l▸sq,by rw[rs.length];exact kc e,m,B,S,J,j,sm,E,rs,e,q)
theorem Ld:Su X [] (tS g E Ry):=ES fH λD a H ⟨m,e,S,s,d,h⟩=>h m H a Ext.refl s d
theorem DT{X:Cx}{st:Stmt}(h:PS X st (tS g E a)):Su X [st] (tS g E a):=dk h
theorem Lg{X:Cx}{st:Stmt}(h:PS X st (tS g E a))(i:Su X d (tS g E j)):Su X (st::d) (tS g E (sq a j)) :=
 ES (bq h i) λD u H ⟨m,e,S,s,k,h⟩=>⟨m,e,S,s,k,by
  unfold sq at h;split at h
  ·rw[‹a e S=_›];exactλm1 v l p r t=>(m1,_,_,r,t,RU.ext p h)
  ·rename_i z
   cases q:a e S with
   |ok f w=>rw[q]at h;cases f<;>first|exact h|exact absurd q (z _ _)
   |_=>rw[q]at h;exact h⟩
theorem K3:PS X (.Continue a) (tS g E sCt):=U0 rG λD d H ⟨m,f,S,s,e,h⟩=>h m H d Ext.refl s e
theorem Jg(d:PE X a (tE g E ca)):PS X (.Return ↑a e) (tS g E (ah ca)):=U0 (eS d) λD f H h=>YH h λm _ _ H _ v s _ r h=>h m H v Ext.refl s r
theorem GF:PS X (.Return none a) (tS g E Dm):=U0 CS λD d H ⟨m,e,S,s,f,h⟩=>h m H .Ro Ext.refl s R.Ro
theorem K4{d:Pos}(e:PE X a (tE g E ca))(hs:swapsWith a none d.line X.env=pure false):PS X (.Expr a d) (tS g E (RX ca)):=U0 (ki e hs) λD f H h=>YH h λm _ _ H _ _ s i _ h=>h m H f Ext.refl s i
theorem IT(q:PT X c (tB g E ct))(r:Su X d (tS g E t))(u:Su X f (tS g E v)):PS X (.If c d f w) (tS g E (Rw ct t v)) :=
 U0 (nu q r u) λD y H ⟨m,i,S,s,a,h⟩=>(m,i,S,s,a,(h.x s a).mono λk m1 j z l p h1=>gc (λe=>by subst e;exact(m1,i,j,p,a.mono l s,h1)) λe=>by subst e;exact(m1,i,j,p,a.mono l s,h1))
theorem Vu.of{D:Ends}(h:tS g E (aw i ca) D a H):Vu (tE g E ca) (qL i) D a H:=YH h λm _ _ H _ _ s d r h=>h m H _ Ext.refl s (d.set r i)
theorem Jh{X:Cx}{d:Pos}(f:X.N.Nodup)(j:X.N[i]?= ↑x)(k:Loc X.env.scope x)(l:PE X a (tE g E ca))(hs:swapsWith a ↑(.Name x e) d.line X.env=pure false)(m:X.fn x=true\/X.env.scope.names.lookup x=some .local) :
  PS X (.Assign [.Name x e] a d) (tS g E (aw i ca)):=U0 (lK f j k l hs m) λD p H h=>Vu.of h
theorem Jm{d:Pos}(i:PE X a (tE g E ca))(j:PG X b (tG g k))(hs:swapsWithSole [b] a d.line X.env=pure false)(l:swappedStores [b] a X.env=pure none)
  (h1:(assignEach [b] X.env).map (·.2)=[assign b X.env]):PS X (.Assign [b] a d) (tS g E (dJ k ca)) :=
 U0 (pF i j hs l h1) λD v H h=>YH h λm p S H x _ s t r h=>let⟨e,q,h⟩:=h.rd;(m,p,S,x,e,s,t,r,q,λf u=>h m H f Ext.refl s u)
theorem Jl{X:Cx}{g:Gx}{f:Pos}(u:X.K=g.K)(v:X.calm=true)(w:PE X a (tE g E ca))(y:Wr X d (YG g WC))(z:(assignEach d X.env).length=WC.length)(i:(assignEach d X.env).findIdx? (·.1)=none)
  (hs:swapsWithSole [.Tuple d k pt] a f.line X.env=pure false) (B:swappedStores [.Tuple d k pt] a X.env=pure none)
  (h1:(assignEach [.Tuple d k pt] X.env).map (·.2)=[assign (.Tuple d k pt) X.env]):PS X (.Assign [.Tuple d k pt] a f) (tS g E (AK WC ca)) :=
 U0 (pF w (CF v y z i) hs B h1) λD N H h=>YH h λm G S H _ _ s I r h=>let⟨J,q,h⟩:=h.rd;let⟨j,t,h⟩:=h.rd;let⟨p,L,e,sq,rs⟩:=Rv.of s r q
  (p,L,e,u▸sq.Uh,by rw[rs.length];exact kc t,m,G,S,J,j,s,I,rs,t,λl M=>h m H l Ext.refl s M)
theorem Zt:gN i a d= ↑(d.set i (some a)):=aL _ _
theorem ny:∀{is:List Nat}{a:List V}{d:L2.St},i∉is->rT is a (d.set i o)=(rT is a d).set i o
 |[],_,_,_=>rfl
 |_::_,[],_,_=>rfl
 |j::is,v::a,d,h=>by unfold rT;rw[ny λz=>h (.tail _ z),List.set_comm _ _ λz=>h (by rw[z];exact .head _)]
theorem qM:∀{is:List Nat}{f:List A}{j:List V}{k d:Env}{l:L2.St},XA (is.map gN) f k= ↑d->is.Nodup->Re g H m k l->Rs g H m f j->Re g H m d (rT is j l)
 |[],[],_,_,_,_,e,_,p,rfl=>by cases e;exact p
 |i::is,a::f,_,k,d,l,e,q,p,⟨v,j,rfl,r,rs⟩=>by let(_,e1,e):=rO.of e;cases (Zt.symm.trans e1);let(n1,n2):=Oe.mp q;unfold rT;rw[<- ny n1];exact qM e n2 (p.set r i) rs
theorem Jf{X:Cx}{d:Pos}{f i j}(r:X.calm=true)(t:X.N.Nodup)(a:ZS X is p)(u:is.length<=9)(v:is.Nodup)(w:PA X k (Vo g E y))(z:swappedStores [Expr.Tuple q f pt] (Expr.Tuple k i j) X.env=pure ↑p)
  (hs:swapsWithSole [Expr.Tuple q f pt] (Expr.Tuple k i j) d.line X.env=pure false):PS X (.Assign [Expr.Tuple q f pt] (Expr.Tuple k i j) d) (tS g E (mC (is.map gN) y)) :=
 U0 (Gg r t a u w z hs) λD M H ⟨m,B,S,s,l,h⟩=>⟨m,B,S,s,l,(h.x s l).mono λp m1 O G I J h1 Q rs=>by
  let(L,e,h1):=h1.rd;exact(by rw[rs.length,kc e,NC],h1 m1 G _ Ext.refl J (qM e v (l.mono I s) rs))⟩
theorem IV{X:Cx}(l:X.N.Nodup)(p:X.N[i]?= ↑x)(t:Loc X.env.scope x)(u:PE X a (tE g E ca))(w:X.fn x=true\/X.env.scope.names.lookup x=some .local) :
  PS X (.AugAssign (.Name x f) .Add a z) (tS g E (Dk i ca)) :=
 U0 (Gd l p t u yS w) λD Q H ⟨m,B,S,s,d,h⟩=>by let(o,q,h):=h.rd;let(y,e1,h):=h.rd;let(k,G,h):=h.rd;let(v,e,r):=d.get i _ (e1▸q);cases SD.of r G;exact(_,e,m,B,S,s,d,(h.x s d).mono λ_ m1 T I J L h1 v M=>let⟨j,O,h1⟩:=h1.rd;(k,j,rfl,SD.of M O,h1 m1 I _ Ext.refl L ((d.mono J s).set (R.int _) i)))
end
noncomputable def Yo(g:Gx)(m:zz)(S:Rm)(H:Hp)(p:List A×List A)(J:It):Prop:=∀m1 d a,Ext m (UA p.2 S) H m1 d a->Rz g m1 d a ->
 (∀(i:Nat)(x:A),p.1[i]?= ↑x->J.go i a/\∀v e,J.Y3 i a v e->Ext m1 d a m1 d e/\Rz g m1 d e/\R g e m1 x v)/\J.stop p.1.length a
noncomputable def tI(g:Gx)(E:L2.St->XK)(c:Ci):TI:=λa H f=>∃m d S,Rz g m S H/\Re g H m d a/\Out g m S H (c d S) (λp i j e=>∀J,Yo g i j e p J->f J e) (E a)
theorem Xp(h:PI X f iter t)(k:∀a H d,g a H d->t a H d):PI X f iter g:=λe s a H d I i=>h e s a H d I (k a H d i)
section
theorem DX{ls:List A}(s:Rz g m S H)(r:R g H m x v)(h:Rv S x= ↑j)(hl:ls.head?= ↑x):∃a d,v= ⇑a/\Ui g.K H a d/\Rs g H m j d/\∀m1 k f,Ext m (UA ls S) H m1 k f->Ui g.K f a d/\Rs g f m1 j d:=by
 cases x with
 |ref i =>let(a,e,rfl):=r;let(b,d,e1,e2,e3):=RP.look s h;rw[e]at e1;cases e1;exact(a,d,rfl,.inl e2,e3,λm1 k f x=>(.inl (x.keep a _ (s.locked hl e h) e2),Rs.mono x s.lock j e3))
 |cl p=>cases h;let(a,d,e,q,l):=r;exact(a,d,e,.inr q,l,λm1 k f x=>(.inr q,Rs.mono x s.lock _ l))
 |_=>cases h
theorem Rs.at{g:Gx}{m:zz}{a:List A}{d:List V}{i:Nat}{x:A}(r:Rs g H m a d)(h:a[i]?= ↑x)(f:d[i]?= ↑v):R g H m x v:=by let(u,e,q):=r.get h;rw[f]at e;cases e;exact q
theorem K8{X:Cx}{g:Gx}(d:X.K=g.K)(m:PE X a (tE g E ca)):PI X p a (tI g E (iL ca)) :=
 Xp (CI m) λI H J h=>un h λ_ _ _ _ x _ s _ r h=>by let(L,q,h):=h.rd;let(a,e,rfl,al,r,st):=DX (ls:=[x]) s r q rfl;refine(a,rfl,(e,d▸al.Uh),h.ret s _ λm2 t w z B=>?_);let(f,j):=st m2 t w z;refine(λi y hy=>?_,(e,d▸f.Uh,Pr j.length));let(u,l,G):=j.get hy;refine((e,u,d▸f.Uh,l),λv M ⟨e3,k⟩=>?_);subst e3;cases l.symm.trans (k e (d▸f.Uh));exact(Ext.refl,B,G)
theorem K9{X:Cx}{g:Gx}(d:X.K=g.K)(p:PE X a (tE g E ca)):PI X t a (tI g E (iT ca)) :=
 Xp (F8 p) λG H I h=>un h λ_ _ _ _ _ _ s _ r h=>by let(w,q,h):=h.rd;let(a,e,rfl,sq,r):=Ul.of r q;refine(a,rfl,(e,d▸sq),h.ret s _ λm2 J L j z=>?_);have f:=j.Yk s sq;have l:=Rs.mono j s w r;refine(λi y hy=>?_,(e,d▸f,Pr l.length));let(u,m,B):=l.get hy;refine((e,u,d▸f,m),λv M ⟨e3,k⟩=>?_);subst e3;cases m.symm.trans (k e (d▸f));exact(Ext.refl,z,B)
theorem Gv(j:Gl X "range")(k:X.mg "range"=none)(l:PE X a (tE g E ca))(d:dY a=true)(hs:starEach [a] X.env=[(false,eval a X.env)]):PI X m (.Call (.Name "range" p) [a] [] t) (tI g E (mx ca)) :=
 Xp (xc j k (bH l aZ d) hs) λB H G h=>un h λ_ _ _ _ _ _ s _ r h=>by
  let(n,en,h):=h.rd;let(q,h):=h.gd;have I:=NF q;refine(_,by rw[Uk.of r en],⋯,⋯,Out.ret (a:=Prod.mk (R4 0 n) []) h s _ λm2 J u L w=>?_);have e:Rs g u m2 (R4 0 n) _:=yR n;have hl:=e.length;rw[NC,Ri]at hl;refine(λi y hy=>?_,Pr hl);have f:i<n:=by rw[hl];exact(LD.mp hy).1
  refine(f,λv M ⟨e3,z⟩=>?_);subst e3;refine(Ext.refl,w,e.at hy ?_);rw[NQ,List.getElem?_range f,z];show ↑(V.int (i:Int))=_;rw[Int.zero_add]
theorem Gu{X:Cx}{g:Gx}(f:X.K=g.K)(m:Gl X "reversed")(t:X.mg "reversed"=none)(u:PE X a (tE g E ca))(d:dY a=true)(hs:starEach [a] X.env=[(false,eval a X.env)]):PI X w (.Call (.Name "reversed" p) [a] [] z) (tI g E (qP ca)) :=
 Xp (F5 m t (bH u aZ d) hs) λN H O h=>un h λ_ _ _ _ x _ s _ r h=>by
  let(e,q,h):=h.rd;let(a,j,rfl,al,r,st):=DX (ls:=[x]) s r q rfl;refine(a,j,rfl,f▸al.Uh,Out.ret (a:=Prod.mk e.reverse [x]) h s _ λm2 B G I J=>?_);let(L,k):=st m2 B G I;have hl:=k.length;refine(λi y hy=>?_,by show e.reverse.length=j.length;rw[Q4,hl]);have l:i<e.length:=by have:=(LD.mp hy).1;rwa [Q4]at this
  refine((by rw[hl];exact l,f▸L.Uh),λv Q ⟨e3,M⟩=>?_);subst e3;refine(Ext.refl,J,k.rev.at hy ?_);rw[List.getElem?_reverse (by rw[hl];exact l)];exact M
theorem zip2.get:∀{xs ys:List A}{i:Nat}{z:A},(zip2 xs ys)[i]?= ↑z->∃x y,xs[i]?= ↑x/\ys[i]?= ↑y/\z=.tup [x,y]
 |x::xs,y::ys,0,z,h=>by cases h;exact(x,y,rfl,rfl,rfl)
 |_::xs,_::ys,i+1,z,h=>zip2.get (xs:=xs) (ys:=ys) (i:=i) h
theorem sy:∀{xs ys:List A},xs.length=ys.length->(zip2 xs ys).length=xs.length
 |[],[],_=>rfl
 |x::xs,y::ys,h=>by unfold zip2;simp[sy (xs:=xs) (ys:=ys) (by simpa using h)]
theorem Gz{X:Cx}{g:Gx}(e:X.K=g.K)(U:Gl X "zip")(Y:X.mg "zip"=none)(ha:PE X a (tE g E ca))(d:PE X b (tE g E cb))(t:dY a=true)(B:dY b=true)(hs:starEach [a,b] X.env=(false,eval a X.env)::starEach [b] X.env)(G:(backTo I (starEach [b] X.env)).any (·.1)=false) :
  PI X (.Tuple O c1 ps) (.Call (.Name "zip" p) [a,b] [] I) (tI g E (wI ca cb)) :=
 Xp (F9 U Y (bH ha (bH d aZ B) t) hs G) λσ H R' h=>Zq h λ_ _ _ _ _ _ _ _ s _ r q h=>by let(J,ex,h):=h.rd;let(Q,L,h):=h.rd;let(z,h):=h.gd;have M:=NJ z;let(a,vs,rfl,sq,r):=Ul.of r ex;let(b,ws,rfl,f,r'):=Ul.of q L;refine(a,b,vs,ws,rfl,e▸sq,e▸f,Out.ret (a:=Prod.mk (zip2 J Q) []) h s _ λm3 S3 H3 m N=>?_);have j:=m.Yk s sq;have k:=m.Yk s f;have T:=Rs.mono m s J r;have l:=Rs.mono m s Q r';have hl:=T.length;have hl':=l.length;refine(λi z hz=>?_,(by rw[sy M];exact hl.symm,e▸j));let(x,y,ex,L,rfl):=zip2.get hz;have hi:i<J.length:=(LD.mp ex).1;refine((⋯,⋯,e▸j,e▸k),λv H4 ⟨b,u,w,d,ev,eu,ew,e3⟩=>?_);subst e3 ev;exact(Ext.new d _,N.new d _,R.tup (RW.of ak) (.cons (R.mono (Ext.new d _) N _ (T.at ex eu)) (.cons (R.mono (Ext.new d _) N _ (l.at L ew)) .nil)))
theorem Gy{X:Cx}{ks:List (Nat×A)}(d:mH X.prog X.w X.K t a)(f:Sd g (ks.map (·.1)) a)(j:PE X b (L2.tC ⇑t)):PI X p b (tI g E (Wx ks)) :=
 Xp (F7 j) λJ H L ⟨m,M,S,s,N,h⟩=>⟨t,a,rfl,d,h.ret s _ λm2 O q Q u=>by
  have r:∀{l:List Nat}{a:zl},Sd g l a->Rs g q m2 (l.map A.str) (a.map V.str):=λ{l a} h=>by
   induction h with
   |nil=>exact .nil
   |cons e _ z=>exact .cons (R.str e) z
  have r:=r f;rw[PY]at r;have hl:=r.length;rw[NC]at hl;refine(λi y hy=>?_,hl.symm);have B:=(LD.mp hy).1;refine(by show i<a.length;rw[hl];exact B,λv T ⟨e3,k,G,I⟩=>?_);subst e3 I;exact(Ext.refl,u,r.at hy (by rw[NQ,G];rfl))⟩
theorem B9{f:TV}{b:Cs}{d:List A}{x:A}{a:Env}{S:Rm}(h:d[i]?= ↑x):lp f b (d.drop i) a S=match f x a with
  |none=>.bad
  |some a=>match b a S with
   | .ok (.nx a) S=>lp f b (d.drop (i+1)) a S
   | .ok (.ct a) S=>lp f b (d.drop (i+1)) a S
   | .ok (.bk a) S=>.ok (.nx a) S
   |x=>x:=by
 have e:d.drop i=x::d.drop (i+1):=by have g:=(LD.mp h).1;rw[Po g];congr 1;exact(LD.mp h).2
 rw[e];rfl
theorem Yo.loop{M:TV}{I:Nat->List Addr->Env->Rm->Hp->Prop}(it:Yo g m1 r t p J)(h0:∃m d S,Ext m1 (UA p.2 r) t m S w/\Rz g m S w/\Re g w m d σ/\I 0 m d S w)
  (stop:∀{m d S e a},Ext m1 (UA p.2 r) t m S a->Rz g m S a->Re g a m d e->I p.1.length m d S a->Q e a)
  (step:∀{i x m d S a},p.1[i]?= ↑x->Ext m1 (UA p.2 r) t m S a->I i m d S a->∃f,M x d= ↑f/\∀{l j},Ext m S a m S l->Rz g m S l->Rz g m S a->Re g l m f j->tb j l λB y=>∃m5 u E,Ext m1 (UA p.2 r) t m5 E y/\Rz g m5 E y/\Re g y m5 u B/\I (i+1) m5 u E y):Bp J (tG g M) tb σ w Q:=by
 refine(λi n e a=>n=p.1.length - i/\i<=p.1.length/\∃m d S,Ext m1 (UA p.2 r) t m S a/\Rz g m S a/\Re g a m d e/\I i m d S a,(_,rfl,Om _,h0),?_);rintro i n σ2 H2 ⟨hn,hil,m2,G,N,H,z,O,T⟩;let(go,st):=it m2 N H2 H z
 cases q:p.1[i]? with
 |none =>
  have hle:=List.getElem?_eq_none_iff.mp q;obtain rfl:i=p.1.length:=by lia
  exact .inl (st,stop H z O T)
 |some x =>let(g1,yl):=go i x q;let(f,qt,k):=step q H T;have L:=(LD.mp q).1;refine .inr (g1,_,λe a h3=>(p.1.length - (i+1),⋯,rfl,L,h3),λv l yd=>?_);let(U,Y,rv):=yl v l yd;exact(m2,G,N,x,f,Y,O.mono U z,rv,qt,λj Xq=>k U Y z Xq)
theorem IR{X:Cx}(hp:PassesOwn (model X.prog X.w) X.A X.env X.xe)(hc:X.calm=true)(hi:PI X G e (tI g E ci))(hg:PG X G (tG g tg))(hb:Su X sts (tS g E U))(hs:∀x,foldedSetIterable e X.env x=pure x):PS X (.For G e sts [] pos) (tS g E (dI ci tg U)) :=
 U0 (Gf hp hc hi hg hb hs) λD σ H ⟨m,ρ,S,s,re,h⟩=>⟨m,ρ,S,s,re,(h.x s re).mono λp m1 l Y x1 L h1 J it=>by
  rw[gA]at h1
  refine it.loop (tb:=λσ2 H2 N=>tS g E U {D with nx:=N,ct:=N,bk:=D.nx} σ2 H2) (Q:=D.nx) (I:=λi m2 u S2 H'=>RU g m1 l Y ((lp tg U (p.1.drop i) u S2).back l p.2) D E)
   (m1,ρ,UA p.2 l,Ext.refl,L.lock,re.mono x1 s,h1) (λx2 s2 U3 d=>?_) λ{i x m2 u S2 H2} q x2 d=>?_
  ·rw[Qs]at d;have d:RU g m1 l Y (bJ l p.2 _ λS=>.ok (.nx _) S) D E:=d;rw[dN]at d;let(x3,s3):=x2.unlock L s2;exact d _ _ _ x3 s3 U3
  ·rw[B9 q]at d
   cases qt:tg x u with
   |none=>rw[qt]at d;exact d.elim
   |some v =>
    rw[qt]at d;dsimp only at d;refine(v,rfl,λ{H3 σ4} x3 s3 _ Xq=>(m2,v,S2,s3,Xq,?_));have M:=x2.trans x3;have un:∀{f:Rm->XR}{B:Rm},RU g m1 l Y (bJ l p.2 B f) D E->RU g m1 l Y (f (Xo l p.2 B)) D E:=λh=>by rw[dN]at h;exact h
    cases qb:U v S2 with
    |bad=>rw[qb]at d;exact d.elim
    |exc c j B =>rw[qb]at d;intro m5 y k dx r t z;let(O,T):=(M.trans r).unlock L t;exact un (f:=λS=>.exc c j S) d m5 y k dx O T z
    |ok f B =>
     rw[qb]at d
     cases f with
     |nx j=>exactλm5 y k r t z=>(m5,j,B,M.trans r,t,z,d)
     |ct j=>exactλm5 y k r t z=>(m5,j,B,M.trans r,t,z,d)
     |bk j =>intro m5 y k r t z;let(O,T):=(M.trans r).unlock L t;exact un (f:=λS=>.ok (.nx j) S) d m5 y k O T z
     |rt a =>intro m5 y v5 r t r5;let(O,T):=(M.trans r).unlock L t;exact un (f:=λS=>.ok (.rt a) S) d m5 y v5 O T r5⟩
theorem Jo{X:Cx}(Q:PassesOwn (model X.prog X.w) X.A X.env X.xe)(T:PT X c (tB g E ct))(U:Su X u (tS g E q)):PS X (.While c u [] Y) (tS g E (AL ct q)) :=
 U0 (Aq Q T U) λD σ H ⟨m,ρ,S,s,re,h⟩=>by
  refine(λn j p=>∃m2 d l,Rz g m2 l p/\Re g p m2 d j/\RU g m2 l p (wl ct q n d l) D E,(90,m,ρ,S,s,re,h),?_);rintro n v H2 ⟨m2,d,l,r,t,L⟩
  cases n with
  |zero=>exact L.elim
  |succ n =>
   refine(m2,d,l,r,t,(RU.x L r t).mono λk m3 M H3 N O e=>?_)
   cases k with
   |false=>rw[NH PF];exact e m3 H3 v Ext.refl O (t.mono N r)
   |true =>
    rw[NL rfl];refine(λj p=>∃m2 d l,Rz g m2 l p/\Re g p m2 d j/\RU g m2 l p (wl ct q n d l) D E,λj p h=>(n,Pu n,h),m3,d,M,O,t.mono N r,?_);dsimp only at e
    cases y:q d M with
    |bad=>rw[y]at e;exact e.elim
    |exc c i z=>rw[y]at e;exact e
    |ok f z =>
     rw[y]at e
     cases f with
     |nx i=>exactλm5 H5 B G I J=>(m5,i,z,I,J,RU.ext G e)
     |ct i=>exactλm5 H5 B G I J=>(m5,i,z,I,J,RU.ext G e)
     |bk i=>exact e
     |rt a=>exact e
theorem Rz.Wb(s:Rz g m S H)(d:p∉m)(h:H p= ↑(.lst j)):Rz g m S (upd H p (.lst k)) :=
 (s.len,s.nd,λa f z=>by rw[ao λ(w:a=p)=>d (w▸f)]at z;exact s.up a f z,λi c e=>let⟨a,q,ok⟩:=s.cell i c e;(a,q,ok.stay (.upd h rfl) λo e=>by rw[ao λ(w:a=p)=>d (w▸Oq q)];exact e))
theorem Re.Wb(e:Re g H m d f)(h:H p= ↑(.lst j)):Re g (upd H p (.lst k)) m d f:=(e.len,λi a q=>let⟨v,e1,r⟩:=e.get i a q;(v,e1,R.stay (.upd h rfl) a r))
theorem Ext.Wb(x:Ext m S H d f g)(h0:H p=none):Ext m S H d f (upd g p (.lst j)) :=
 ⟨x.pre,λa z=>by
  by_cases e:a=p
  ·rw[e];exact h0
  ·rw[ao e]at z;exact x.low a z,λa o i h=>by rw[ao (bo h h0)];exact x.keep a o i h,x.bk⟩
theorem Ext.XC(x:Ext m S H m2 f d)(a:p∉m)(h:H p= ↑o):p∉m2/\d p= ↑o:=by
 let(k,rfl,hk):=x.pre;refine(λz=>?_,x.keep p o (λ⟨i,c,e,_⟩=>a (Oq e)) h);rcases NS.mp z with z|z
 ·exact a z
 ·rw[hk p z]at h;cases h
end
theorem yf{g:TV}{j:Ct}{a:Ce}{f:List A}{x:A}{d:Env}{l:List A}{S:Rm}(h:f[i]?= ↑x):Ti g j a (f.drop i) d l S=match g x d with
  |none=>.bad
  |some d=>(j d S).b λk S=>match k with
   |true=>(a d S).b λy S=>Ti g j a (f.drop (i+1)) d (l++[y]) S
   |false=>Ti g j a (f.drop (i+1)) d l S:=by
 have e:f.drop i=x::f.drop (i+1):=by have m:=(LD.mp h).1;rw[Po m];congr 1;exact(LD.mp h).2
 rw[e]
 show(match g x d with|none=>Res.bad|some d=>(j d S).b λk S=>match k with
   |true=>(a d S).b λy S=>fl (l++[y]) λl=>Ti g j a (f.drop (i+1)) d l S
   |false=>Ti g j a (f.drop (i+1)) d l S)=_
 simp only[aL]
section
theorem AA(p:Re g H m f k)(d:zl)(fr:List Nat):Re g H m (Sy d.length fr f) (VA d fr k):=by
 unfold Sy VA;refine(by simp,λi a h=>?_);by_cases l:i<d.length
 ·rw[N7 (by simp;exact l),Qe,NL l]at h;cases h
 ·rw[N5 (by simp;lia),List.length_replicate,NQ]at h;rw[N5 (by simp;lia),NC,NQ];let(j,q,h):=N1.mp h
  cases z:f[j]? with
  |none=>rw[z]at h;cases h
  |some o=>rw[z]at h;cases h;let(v,e,r):=p.get j a z;exact(v,by rw[q];show ↑((k[j]?).getD none)=_;rw[e];rfl,r)
noncomputable abbrev E0:L2.St->XK:=λ_ _ _ _=>False
theorem Ck{α:Type}{S:Rm}{r:Res α}{P:α->List Addr->Rm->Hp->Prop}(h:Out g m S H r.UU P E):Out g m S H r P d:=by
 cases r with
 |ok a S=>exact h
 |exc c S=>exact h.elim
 |bad=>exact h
theorem Wu.of{t:zl}(h:tE g E (ay ci t.length fr M ct v) σ H Q):Wu (tI g E ci) (VA t fr) (tG g M) (tB g E0 ct) (tE g E0 v) σ H Q:=by
 let(m,ρ,S,s,re,h):=h;refine(m,ρ,S,s,re,h.bind.mono λp m1 B H1 x1 s1 h1 J it D Y=>?_);have T8:=re.mono x1 s;let(q9,h1):=h1.gd;have h9:=da q9;rw[aL,gA]at h1;have hDm:D∉m1:=λz=>s1.up D z Y;let fin (r:Res (List A)):Prop:=Out g m1 B H1 ((r.UU.back B p.2).b λl S=>new l S) (An g Q) (E σ);have h1:fin (Ti M ct v p.1 (Sy t.length fr ρ) [] (UA p.2 B)):=h1
 refine it.loop (tb:=X8 (tB g E0 ct) (tE g E0 v) D) (Q:=λ_ H'=>Q ⇑D H') (I:=λi m2 G L H'=>∃l w,D∉m2/\H' D= ↑(.lst w)/\Rs g H' m2 l w/\w.length<=i/\fin (Ti M ct v (p.1.drop i) G l L))
  (m1,Sy t.length fr ρ,UA p.2 B,Ext.refl.Wb Y,s1.lock.new Y _,(AA T8 t fr).mono (Ext.new (S:=B) Y _) s1,[],[],hDm,ak,.nil,Om _,h1) (λ{m2 G L σ2 H2} x2 s2 _ f=>?_) λ{i x m2 G L H2} q x2 f=>?_
 ·let(l,w,N,O,T,hvl,f):=f;rw[Qs]at f;have f:Out g m1 B H1 ((bJ B p.2 L λS=>Res.ok l S).b λl S=>new l S) (An g Q) (E σ):=f;rw[dN]at f;let(x3,s3):=x2.unlock s1 s2;let(_,h3):=Out.gd (show Out g m1 B H1 (new l (Xo B p.2 L)) (An g Q) (E σ) from f);rw[aL,b8]at h3;have s4:=s3.adopt (c:=.lst l) N (w,O,Rs.stay (.more _) _ T);let(k,ek,hk):=x3.pre;refine h3 (m2++[D]) H2 ((k++[D],by rw[ek,Ow],λa ha=>?_),x3.low,x3.keep,λj c hj e o=>?_) s4 _ (R.ref (by rw[<- s3.len];simp))
  ·exact(NS.mp ha).elim (hk a) λz=>by rw[NI.mp z];exact Y
  ·rw[aB,NH (by have:=s3.len;rw[ek,NK]at this;lia)]at e;exact x3.bk j c hj e o
 ·let(l,w,N,O,T,hvl,f):=f;have h9':=(LD.mp q).1;rw[yf q]at f
  cases qt:M x G with
  |none=>rw[qt]at f;exact f.elim
  |some d =>
   rw[qt]at f;refine(d,rfl,λ{H3 σ4} x3 s3 s2 Xq=>(m2,d,L,s3,Xq,?_));have f:fin ((ct d L).b λk S=>match k with|true=>(v d S).b λy S=>Ti M ct v (p.1.drop (i+1)) d (l++[y]) S|false=>Ti M ct v (p.1.drop (i+1)) d l S):=f
   cases qc:ct d L with
   |ok b S5 =>
    rw[qc]at f;intro m5 H5 x5 s5;have U:=x3.trans x5;let(hD5,h5D):=U.XC N O;have VG:=Xq.mono x5 s3;have rs5:=Rs.mono U s2 l T;have xx:=x2.trans U;refine gc (λe=>?_) λe=>?_<;>subst e
    ·refine(m5,d,S5,s5,VG,?_);have f:fin ((v d S5).b λy S=>Ti M ct v (p.1.drop (i+1)) d (l++[y]) S):=f
     cases qe:v d S5 with
     |ok y S6 =>rw[qe]at f;intro m6 H6 x6 s6 u ru;let(hD6,Zw):=x6.XC hD5 h5D;exact(w,Zw,by rw[Ol];lia,m6,d,S6,(xx.trans x6).Wb Y,s6.Wb hD6 Zw,(VG.mono x6 s5).Wb Zw,l++[y],w++[u],hD6,ak,(Rs.stay (.upd Zw rfl) _ (Rs.mono x6 s5 l rs5)).append (.cons (R.stay (.upd Zw rfl) _ ru) .nil),by rw[NK];show w.length+1<=i+1;lia,f)
     |_=>rw[qe]at f;exact(show False from f).elim
    ·exact(m5,d,S5,xx,s5,VG,l,w,hD5,h5D,rs5,⋯,f)
   |_=>rw[qc]at f;exact(show False from f).elim
theorem Gk{d:Scope}(m:PI X a iter (tI g E p))(hk:d.kind=.function)(q:dP X.N X.env.kindOf d.names f fr r=true)(t:X.calm=true)(b:pW X (.ListComp i ((a,iter,j,0)::e) d k) a iter.pos d r G u)
  (hs:∀x,foldedSetIterable iter X.env x=pure x) (of:∀{l H Q},tE g E c l H Q->gq (tI g E p) (VA f fr) G u l H Q):PE X (.ListComp i ((a,iter,j,0)::e) d k) (tE g E c) :=
 SV (vA m hk q t b hs) λ_ _ _ h=>of h
theorem xi{f:Scope}{d:Pos}(r:PI X a iter (tI g E t))(hk:f.kind=.function)(u:dP X.N X.env.kindOf f.names m fr v=true)(w:X.calm=true)(b:pW X (.ListComp j ((a,iter,k,0)::e) f l) a iter.pos f v G z)
  (hs:∀x,foldedSetIterable iter X.env x=pure x) (of:∀{q H Q},tE g E c q H Q->gq (tI g E t) (VA m fr) G z q H Q) (B:X.N.Nodup) (hy:X.N[i]?= ↑y) (I:X.env.scope.names.lookup y=some .local)
  (p:swapsWith (.ListComp j ((a,iter,k,0)::e) f l) ↑(.Name y J) d.line X.env=pure true):PS X (.Assign [.Name y J] (.ListComp j ((a,iter,k,0)::e) f l) d) (tS g E (aw i c)) :=
 U0 (uf r hk u w b B hy I p hs) λ_ _ _ h=>of (Vu.of h)
theorem Li:vV X [] (tB g E tT):=λa s d H Q I ⟨m,e,S,sm,f,h⟩=>lJ a s d H Q I (h.ret sm)
theorem C7{X:Cx}{g:Gx}{C:Addr}{Bn:String}{e:qw}
  (k:ExcBaseFacts Bn f t u) (v:e.contains (.type Bn)=true) (y:ExcBaseFacts B z j e) (l:gL X.K C e f none=true) (G:Passes (Zg X.prog X.w) X E) (I:Gl X x) (J:X.mg x= ↑⇑C) (L:g.cls n=C)
  (M:PA X (d::a) (Vo g (λ_=>E) N)) (O:X.calm=true) (Q:starEach (d::a) X.env=(false,eval d X.env)::starEach a X.env) (p:((backTo i (starEach a X.env)).any λx=>x.fst)=false) (T:(x==("__debug__":Str))=false) :
  PS X (.Raise ↑(.Call (.Name x np) (d::a) [] i) none U) (tS g (λ_=>E) (ef n N)) :=
 U0 (xh k v y l G I J M O Q p T) λD Y H ⟨m,ρ,S,s,r,h⟩=>(m,ρ,S,s,r,(h.x s r).mono λxs m1 S1 H1 x1 s1 h1 vs rs=>let⟨q,h1⟩:=h1.gd;(iM (by rw[rs.length];have:=da q;lia),L▸h1 m1 H1 Y none Ext.refl s1 (r.mono x1 s)))
theorem CC:aY (RT P w) X E0:=λd f H s e g I x=>by let(a,T,cls,i,j,_,_,_,_,_,_,_,z):=x;exact z.elim
end
theorem iX:∀{cs:List (Nat×C)}{i:Nat}{c:C},look i (old n cs)= ↑c->look i cs= ↑c/\i<n
 | (k,d)::r,i,c,h=>by
  unfold old at h;rw[aB];split at h
  ·have:=NF ‹_›;let(h1,a):=iX (cs:=r) h;exact(by rw[NH ⋯];exact h1,a)
  ·rw[aB]at h;split at h
   ·subst k;rw[NL rfl];exact(h,Nat.lt_of_not_le λw=>by rw[NP w]at *;contradiction)
   ·rw[NH ‹_›];exact iX (cs:=r) h
section
theorem AB{N:zl}(r:Rs g H m d j)(l:j.length<=N.length):Re g H m (d.map some++List.replicate (N.length - d.length) none) (L2.start N j):=by
 unfold L2.start;refine(by simp[r.length],λi a h=>?_);by_cases f:i<d.length
 ·rw[N7 (by simpa using f),NQ]at h;rw[N7 (by rw[NC,r.length];exact f),NQ];let(b,q,h):=N1.mp h;cases h;let(v,e,k):=r.get q;exact(v,by rw[e];rfl,k)
 ·rw[N5 (by simpa using f),Qe]at h;split at h<;>cases h
end
noncomputable def Zy(K:qs)(L:List (Addr×Nat))(C:zz):Bool:=L.all λp=>(W.kitOne K ⇑p.1 (.type "ValueError")== ↑true)&&(List.range C.length).all λi=>match C[i]? with
 |some c=>W.kitOne K ⇑p.1 ⇑c== ↑(Nat.beq i p.2)
 |none=>true
theorem Xr{K:qs}{C:zz}(h:Zy K L C=true)(a:p∈L):W.kitOne K ⇑p.1 (.type "ValueError")= ↑true/\∀i c,C[i]?= ↑c->W.kitOne K ⇑p.1 ⇑c= ↑(Nat.beq i p.2):=by have h:=NX.mp h p a;rw[Nt]at h;refine(eq_of_beq h.1,λi c e=>?_);have:=NX.mp h.2 i (Q6.mpr (LD.mp e).1);rw[e]at this;exact eq_of_beq this
section
theorem IX(d:PE X a (tE g E ca)):PC X .Is a (.Constant .none j p) (tE g E (cU iq ca)):=Zp (nr FP d uc) λe H Q h=>Xy.of FE h
theorem GE(d:PE X a (tE g E ca)):PC X .IsNot a (.Constant .none j p) (tE g E (cU ja ca)):=Zp (nr CA d uc) λe H Q h=>Xy.of Cu h
theorem K2(d:PE X a (tE g E ca))(e:PE X b (tE g E f))(i:PE X c (tE g E j))(k:lastMarks [CmpOp.LtE,CmpOp.LtE] [b,c]=false):PE X (.Compare a [.LtE,.LtE] [b,c] l) (tE g E (WU ca f j)):=SV (rE lG lG d e i k) λm H Q h=>TQ.of h
theorem Jj(d:PE X a (tE g E ca))(e:PE X b (tE g E f))(i:PE X c (tE g E j))(k:lastMarks [CmpOp.LtE,CmpOp.LtE] [b,c]=false):PT X (.Compare a [.LtE,.LtE] [b,c] l) (tB g E (Rq (WU ca f j))):=imT (rJ lG lG d e i k) λm H Q h=>Ue.of (λ_ _ _ z=>TQ.of z) h
end
mutual
noncomputable def knA(g:Gx):A->Bool
 | .Ro=>true
 | .bl _=>true
 | .int _=>true
 | .str n=>decide (n<g.ST.length)
 | .tup a=>Wc g a
 |_=>false
noncomputable def Wc(g:Gx):List A->Bool
 |[]=>true
 |x::a=>knA g x&&Wc g a
end
section
mutual
theorem R.XD:∀(a:A){v:V},knA g a=true->Dat g.K H (toD g a) v->R g H m a v
 | .Ro,_,_,h | .bl _,_,_,h | .int _,_,_,h=>h
 | .str _,v,k,h=>(_,Nz (NT k),h.trans (by rw[Of,Nz (NT k)];rfl))
 | .tup d,_,k,⟨a,f,e,q,r⟩=>(a,f,e,q,Rs.VH d k r)
theorem Rs.VH:∀(a:List A){d:List V},Wc g a=true->RH g.K H (SR g a) d->Rs g H m a d
 |[],_,_,h=>h
 |x::a,_,k,⟨v,r,e,h1,f⟩=>have k:=(Nt _ _).mp k;(v,r,e,R.XD x k.1 h1,Rs.VH a k.2 f)
end
theorem Hz{g:Gx}(h:dW g.K (.tup f) ⇑a=true)(k:Wc g d=true)(e:SR g d=f)(H:Hp)(m:zz):R g H m (.tup d) ⇑a:=R.XD (.tup d) k (by subst e;exact Kz h H)
theorem Hy{g:Gx}(h:oQ g.K f a=true)(k:Wc g d=true)(e:SR g d=f)(H:Hp)(m:zz):R g H m (.cl d) ⇑a:=let⟨i,q,r⟩:=oR h H;(a,i,rfl,q,Rs.VH d k (e▸r))
end
noncomputable def lX(ST:zl)(T:List (Str×KTD.Dat))(ks:List (Nat×A)):Bool:=(T.all λp=>KTD.plain p.2)&&(List.range ST.length).all λn=>match ST[n]? with
 |none=>true
 |some x=>(KTD.inKeys x T==(look n ks).isSome)&&match look n ks with
  |none=>true
  |some (.int i)=>(match KTD.datumAt x T with|some (.flat (.int j))=>decide (i=j)|_=>false)
  |some (.str k)=>(match KTD.datumAt x T,ST[k]? with|some (.flat (.str z)),↑y=>decide (y=z)|_,_=>false)
  |some _=>false
noncomputable def jO(ks:List (Nat×A))(n:Nat):Bool:=ks.all λp=>decide (p.1<n)
theorem vf:∀{ks:List (Nat×A)}{n i:Nat}{a:A},jO ks n=true->look i ks= ↑a->i<n
 |[],_,_,_,_,h=>nomatch h
 | (k,b)::r,n,i,a,c,h=>by
  unfold jO at c;rw[Og,Nt]at c;rw[aB]at h;by_cases z:k=i
  ·rw[<- z];exact NT c.1
  ·rw[NH z]at h;exact vf (ks:=r) c.2 h
theorem rY{g:Gx}(h:lX g.ST T ks=true)(hk:jO ks g.ST.length=true):fg g T ks:=by
 unfold lX at h;rw[Nt]at h;let(h0,h1):=h
 have d:=λ(n:Nat)(x:Str)(e:g.ST[n]?= ↑x)=>by have:=NX.mp h1 n (Q6.mpr (LD.mp e).1);rw[e]at this;exact(Nt _ _).mp this
 refine(λn x e=>eq_of_beq (d n x e).1,h0,λn x i e q=>?_,λn x k e q=>?_,λn x q=>?_)
 ·have a:=(d n x e).2;rw[q]at a;dsimp only at a;split at a
  ·rename_i j w;rw[w,NT a]
  ·cases a
 ·have a:=(d n x e).2;rw[q]at a;dsimp only at a;split at a
  ·rename_i z y f l;exact(y,l,by rw[f,NT a])
  ·cases a
 ·have a:=(d n _ (Nz (vf hk q))).2;rw[q]at a
  cases x with
  |int i=>exact .inl (i,rfl)
  |str k=>exact .inr (k,rfl)
  |_=>cases a
theorem Rz.same(s:Rz g m S H)(e:Sk H H'):Rz g m S H'/\Ext m S H m S H':=by
 have x:Ext m S H m S H':=(([],by simp),λa z=>e.free z,λa o _ h=>e a o h,λ_ c _ h o=>(c,h,o))
 refine((s.len,s.nd,λa d z=>s.up a d (e.free z),λi c h=>?_),x);let(a,q,ok):=s.cell i c h;exact(a,q,ok.mono x s λo q=>e a o q)
theorem kr{K:qs}:Rt P w K mg base e k f i j (R9 g λ_ _=>.bad) :=
 (λa H Q E ⟨m,S,d,s,r,h⟩=>h.elim,λA outer s H args l a Q E p q t u ⟨m,S,d,sm,r,h⟩=>h.elim)
section
end
noncomputable def jT(b:Cs)(i r:Nat)(d:List Nat):Cs:=λa S=>match b a S with
 | .exc c a S=>match aG c d with
  |true=>match a[i]? with
   |some _=>.ok (.rt (.tup [.str r,.int (.ofNat (c - 1))])) S
   |none=>.bad
  |false=>.bad
 |x=>x
theorem Re.any(d:Re g H m f l)(i:Nat)(h:f[i]?= ↑(some a)):Re g H m (f.set i (some .any)) l:=by
 refine(by simp[d.len],λj b q=>?_);by_cases k:i=j
 ·subst k;let(v,e,_):=d.get i a h;rw[PV (LD.mp h).1]at q;cases q;exact(v,e,R.any)
 ·rw[Qx k]at q;exact d.get j b q
end EV
namespace L2
open PySem PySem.Spec PySem.Calls PyProof.Rows PySem.W PySem.Builtin PySem.Builtin.ObjectAttr
section
end
end L2
namespace L2
open PySem PySem.Spec PyProof.Rows
section
end
end L2
namespace EV
open PySem PySem.Spec PyProof.Rows L2
section
theorem tH{g:Gx}{n k:Nat}{x y:Str}(h:g.ST[n]?= ↑x)(a:g.ST[k]?= ↑y):k=n↔y=x:=(λe=>by subst e;exact Oa (a.symm.trans h),λe=>by subst e;exact vM a h)
theorem Rf.length:∀{fs:List (Nat×A)}{gs:List (Str×V)},Rf g H m fs gs->gs.length=fs.length
 |_,_,.nil=>rfl
 |_,_,.cons _ t=>by simp[Rf.length t]
theorem Rf.no{g:Gx}(e:g.ST[n]?= ↑x):∀{ks:List (Nat×A)}{a:List (Str×V)},Rf g H m ks a->EV.look n ks=none->cw a x=none
 |_,_,.nil,h=>rfl
 | (k,b)::_,(_,v)::_,.cons ⟨d,r⟩ t,h=>by
  rw[aB]at h;split at h
  ·cases h
  ·unfold cw;rw[O2,OY λw=>‹¬ k=n› ((tH e d).mpr w)];exact Rf.no e t h
theorem Rf.append:∀{ks a:List (Nat×A)}{d e:List (Str×V)},Rf g H m ks d->Rf g H m a e->Rf g H m (ks++a) (d++e)
 |_,_,_,_,.nil,r=>r
 |_,_,_,_,.cons h t,r=>.cons h (Rf.append t r)
theorem T7.of(s:Rz g m S H)(r:R g H m x v)(h:T7 S k x= ↑(Prod.mk (i) fs)):∃a d gs,v= ⇑a/\m[i]?= ↑a/\EV.look i S.cs= ↑(.obj k fs)/\H a= ↑(.ins (g.tb k) d gs)/\Rf g H m fs gs:=by
 unfold T7 at h;split at h
 ·split at h
  ·split at h<;>cases h;cases NJ ‹_›;let(a,e,d,gs,j,l):=s.cell _ _ ‹_›;let(p,f,rfl):=r;rw[e]at f;cases f;exact(a,d,gs,rfl,e,‹_›,j,l)
  ·cases h
 ·cases h
theorem Vm.of(s:Rz g m S H)(r:R g H m x v)(h:Vm S x= ↑(Prod.mk (i) ks)):∃a d,v= ⇑a/\m[i]?= ↑a/\EV.look i S.cs= ↑(.dct ks)/\H a= ↑(.dK d)/\Rf g H m ks d:=by
 unfold Vm at h;split at h
 ·split at h<;>cases h;let(a,e,gs,j,k):=s.cell _ _ ‹_›;let(l,f,rfl):=r;rw[e]at f;cases f;exact(a,gs,rfl,e,‹_›,j,k)
 ·cases h
theorem Rf.Yp{g:Gx}(e:g.ST[n]?= ↑x)(i:R g H m a u):∀{ks:List (Nat×A)}{d:List (Str×V)},Rf g H m ks d->Rf g H m (jN n a ks) (d.map λj=>if j.1=x then (j.1,u)else j)
 |_,_,.nil=>.nil
 | (k,b)::_,(_,v)::_,.cons ⟨f,r⟩ t=>by
  rw[NR];unfold jN;rw[nK];by_cases z:k=n
  ·rw[Oz z,NL ((tH e f).mp z)];exact .cons (f,i) (Rf.Yp e i t)
  ·rw[OY z,NH λw=>z ((tH e f).mpr w)];exact .cons (f,r) (Rf.Yp e i t)
theorem Rf.put{g:Gx}(e:g.ST[n]?= ↑x)(f:R g H m a u)(h:Rf g H m ks d):Rf g H m (iK n a ks) (dZ d x u):=by
 unfold iK
 cases z:EV.look n ks with
 |none =>rw[Au u (Rf.no e h z)];exact h.append (.cons (e,f) .nil)
 |some b =>unfold dZ;let(w,q,_):=iO e h z;rw[ma,q,NL (show(↑w).isSome=true from rfl)];exact Rf.Yp e f h
end
section
variable{X:Cx}{g:Gx}{E:L2.St->XK}{c:Expr}
theorem GG{st:Stmt}:PS X st (tS g E eA):=λ_ _ _ _ _ _ ⟨_,_,_,_,_,h⟩=>h.elim
theorem IQ(a:X.K=g.K)(c:Uz g.K (g.tb k))(d:R0 g.K (g.tb k) f)(j:g.ST[n]?= ↑f)(l:PE X o (tE g E co))(m:attributeBase o f X.env (eval o X.env)=eval o X.env):PE X (.Attribute o f t) (tE g E (bc k n co)) :=
 SV (F0 l m) λG H Q h=>un h λ_ _ _ _ _ _ s _ r h=>let⟨⟨i,fs⟩,q,h⟩:=h.rd;let⟨_,z,h⟩:=h.rd;let⟨p,v,gs,e,_,_,e3,w⟩:=T7.of s r q;let⟨u,y,B⟩:=iO j w z
  (p,_,v,gs,u,e,e3,a▸c,a▸d,y,h.ret s _ B)
theorem GH{d:Pos}(G:X.K=g.K)(c:Uz g.K (g.tb k))(N:R0 g.K (g.tb k) f)(O:g.ST[n]?= ↑f)(Q:PE X o (tE g E co))(T:PE X e (tE g E U))(hs:swapsWith e ↑(.Attribute o f j) d.line X.env=pure false):PS X (.Assign [.Attribute o f j] e d) (tS g E (fI k n co U)) :=
 U0 (Ge Q T hs) λD Y H ⟨m,I,S,s,l,h⟩=>⟨m,I,S,s,l,(h.x s l).mono λy m1 S1 H1 u t h1 v rv=>⟨m1,I,S1,t,l.mono u s,(h1.x t (l.mono u s)).mono λx m2 S2 H2 J r a w rw=>by
  let((i,fs),q,a):=a.rd;let(q9,a):=a.gd;rw[aL,bW]at a;let(p,z,gs,rfl,e1,e2,e3,L):=T7.of r rw q;have B:=R.mono J t _ rv;let(s3,M):=r.write (c:=.obj k (iK n y fs)) (o:=.ins (g.tb k) z (dZ gs f v)) e1 e2 rfl λx=>(z,_,ak,Rf.put O (R.mono x r y B) (Rf.mono x r L))
  have h9:=da q9;exact(p,_,z,gs,rfl,e3,G▸c,G▸N,by rw[L.length];lia,a m2 _ Y M s3 (((l.mono u s).mono J t).mono M r))⟩⟩
theorem T7.no(s:Rz g m S H)(r:R g H m x v)(f:g.ST[n]?= ↑i)(q:T7 S k x= ↑p)(z:(look n p.2).isNone=true):∃a d gs,v= ⇑a/\H a= ↑(.ins (g.tb k) d gs)/\cw gs i=none :=
 let⟨a,d,gs,e,_,_,e3,j⟩:=T7.of s r q;(a,d,gs,e,e3,Rf.no f j (Option.isNone_iff_eq_none.mp z))
theorem GC(t:X.K=g.K)(c:Uz g.K (g.tb k))(v:Meth g.K (g.tb k) l f)(y:g.ST[n]?= ↑l)(ok:Rt X.prog X.w X.K X.mg X.base B j f G I (R9 g F))(J:RE j X.A)(L:Binds X.K G I [])(M:aY B X E)
  (N:PE X o (tE g E co)) (O:PA X (a::i) (Vo g E T)) (m:starEach (a::i) X.env=(false,eval a X.env)::starEach i X.env) (r:(backTo d (starEach i X.env)).any (·.1)=false)
  (U:eval (.Call (.Attribute o l e) (a::i) [] d) X.env=(do
   let ov <- eval o X.env
   standAt e.atName
   let(f,first) <- holding [ov] (getMethod ov l pl)
   callWith d f first (backTo d (starEach (a::i) X.env)) (backToKw d (keywordEach [] X.env))):=by rfl):PE X (.Call (.Attribute o l e) (a::i) [] d) (tE g E (aJ k n F co T)) :=
 SV (Ac (R1:=[]) N (t▸c) (t▸v) ok J L .nil M O m r U) λσ H Q h=>un h λ_ Y _ _ x _ s re u h=>by let(p,q,h):=h.rd;let(z,h):=h.gd;let(p,dx,gs,rfl,e3,no):=T7.no s u y q z;exact(p,dx,gs,rfl,e3,no,_,Y,_,s,re,h.bind.mono λas m2 S2 H2 x2 s2 h2 vs rs=>(m2,S2,x::as,s2,by rw[N9];exact .cons (R.mono x2 s _ u) rs,h2))
theorem C5(l:X.K=g.K)(c:Uz g.K (g.tb k))(t:Meth g.K (g.tb k) i f)(u:g.ST[n]?= ↑i)(ok:Rt X.prog X.w X.K X.mg X.base v j f y B (R9 g F))(G:RE j X.A)(I:Binds X.K y B [])(J:aY v X E)
  (L:PE X o (tE g E co))
  (M:eval (.Call (.Attribute o i d) [] [] a) X.env=(do
   let ov <- eval o X.env
   standAt d.atName
   let(f,first) <- holding [ov] (getMethod ov i O)
   callWith a f first (backTo a (starEach [] X.env)) (backToKw a (keywordEach [] X.env))):=by rfl):PE X (.Call (.Attribute o i d) [] [] a) (tE g E (aJ k n F co aN)) :=
 SV (xa (R1:=[]) L (l▸c) (l▸t) ok G I .nil J M) λT H Q h=>un h λm _ S _ x _ s _ r h=>let⟨_,q,h⟩:=h.rd;let⟨z,h⟩:=h.gd;let⟨p,N,gs,e,e3,no⟩:=T7.no s r u q z
  (p,N,gs,e,e3,no,m,S,[x],s,.cons (e▸r) .nil,h)
theorem nv{q:Ws}{C:Addr}{t:FuncData}{m:zl}{y:Sp}{p:List V}{i:qw}{a:qa}{k:L2.St}{H:Hp}{Q:VK}{us:qw}{vs:List V}
  (M:Mk X.K C f) (F:Rt X.prog X.w X.K X.mg X.base q j f t m y) (L:RE (j+1) X.A) (O:Binds X.K t m i) (T:Vals p i) (U:aY q X E) (I:Inv X a k H s) (r:Vals vs us)
  (h:∀x l,H x=none->H l=none->l≠x->y (⇑x::(vs++p)) (upd (upd H l (.own x)) x (.ins C l [])) (λv Y=>v=.Ro/\Q ⇑x Y) (E k)):wpAny (model X.prog X.w) X.A (call ⇑C us) (EP X a k Q) X.xe s:=by
 let N:=s.heap.objs.size;have B:=h (N+1) N (I.hok.fresh (P5 _)) (I.hok.fresh (Nu _)) (N3 (Pu _));have J:=I.made (C:=C);have G:Vals (V.ref (N+1)::(vs++p)) (Value.ref (N+1)::(us++i)):=.cons rfl (r.append T);have hl:(Value.ref (N+1)::us++i).length=m.length:=(G.length.symm.trans (F.len _ _ _ _ B))
 have run:=F.run _ X.stack _ _ (Value.ref (N+1)::us,[]) (Value.ref (N+1)::(us++i)) _ _ (E k) (L.make C us []) (J.V3.make C us []) (O _ (Value.ref (N+1)::us) J.Se hl) G B;refine PN (zB (f:=f) I.Se M.makes M.init (beq_iff_eq.mp M.fn) (OJ run λz s' d=>?_))
 match z,d with
 | .error e,d=>exact U a k _ _ e s' J d
 | .ok (.ret u),d =>let(v,H',I3,rv,ev,q3):=J.after d;subst ev;exact(rv,V.ref (N+1),H',I3,rfl,q3)
 | .ok .next,d=>exact d.elim
 | .ok .brk,d=>exact d.elim
 | .ok .cont,d=>exact d.elim
theorem vF{j:Nat}(s:Rz g m S H)(r:Rs g H m as I)(rd:∀m H,Rs g H m f J)
  (h:Out g m S H ((mk (.obj k []) S).b λx S=>(F (x::(as++f)) S).b λr S=>rO (Ym r) λ_=>.ok x S) (An g Q) q) :
  ∀x d,H x=none->H d=none->d≠x->R9 g F (⇑x::(I++J)) (upd (upd H d (.own x)) x (.ins (g.tb k) d [])) (λv t=>v=.Ro/\Q ⇑x t) q:=λx d L u i=>by
 rw[b8]at h;have h:Out g m S H ((F (⇑S.nx::(as++f)) (S.nx+1,(S.nx,.obj k [])::S.cs)).b λr M=>rO (Ym r) λ_=>.ok ⇑S.nx M) (An g Q) q:=h;have w:Ext m S H m S (upd H d (.own x)):=Ext.new u _;have y:=s.new u (.own x);let(z,B):=y.alloc (p:=x) (c:=.obj k []) (o:=.ins (g.tb k) d []) (by rw[ao (OB i)];exact L) λ_=>(d,[],ak,.nil)
 have G:(m++[x])[S.nx]?= ↑x:=by rw[<- s.len];simp
 exact(m++[x],_,⇑S.nx::(as++f),z,.cons (R.ref G) ((Rs.mono B y _ (Rs.mono w s _ r)).append (rd _ _)),(Out.ext (w.trans B) h).bind.mono λa m2 U t N O l v T=>let⟨_,e,l⟩:=l.rd;(Ym.of T e,l.ret O _ (R.mono N z ⇑S.nx (R.ref G))))
theorem GB(M:Mk X.K (g.tb k) f)(ok:Rt X.prog X.w X.K X.mg X.base y j f z B (R9 g F))(G:RE (j+1) X.A)(J:Gl X x)(L:X.mg x= ↑⇑(g.tb k))(N:Binds X.K z B O)(T:Vals U O)(rd:∀m H,Rs g H m Y U)(hx:aY y X E)
  (ha:PA X (a::i) (Vo g E cs)) (l:(x==("__debug__":Str))=false) (he:starEach (a::i) X.env=(false,eval a X.env)::starEach i X.env) (t:(backTo d (starEach i X.env)).any (·.1)=false) :
  PE X (.Call (.Name x p) (a::i) [] d) (tE g E (gJ k F Y cs)):=λe s σ H Q I ⟨m,ρ,S,sm,re,h⟩=>by
 refine OQ (dj I J L ?_ l);refine Rl (h₀:=X.base) I.ok.mod.WJ M.kp (RA (ha d e s σ H _ I (m,ρ,S,sm,re,h.bind.mono λas m1 S1 H1 x1 u h1 vs rs=>(vF (j:=j) u rs rd h1))) λus u ⟨vs,H1,v,r,q⟩=>(v.Se,?_)) he t;exact nv M ok G N T hx v r q
theorem C4(M:Mk X.K (g.tb k) f)(ok:Rt X.prog X.w X.K X.mg X.base e j f i l (R9 g F))(q:RE (j+1) X.A)(r:Gl X x)(t:X.mg x= ↑⇑(g.tb k))(u:Binds X.K i l v)(y:Vals z v)(rd:∀m H,Rs g H m B z)(G:aY e X E)
  (a:(x==("__debug__":Str))=false):PE X (.Call (.Name x p) [] [] J) (tE g E (gJ k F B aN)):=λd s L H Q I ⟨m,N,S,sm,O,h⟩=>by
 refine OQ (dj I r t ?_ a);exact W.callWith_K0 I.Se M.kp (nv (us:=[]) (vs:=[]) M ok q u y G I .nil (vF (j:=j) (as:=[]) sm .nil rd h))
theorem CY(ok:Rt X.prog X.w X.K X.mg X.base r j f t u (R9 g F))(v:RE j X.A)(y:Gl X x)(z:X.mg x= ↑⇑f)(hk:W.keepIn X.K ⇑f=true)(B:Binds X.K t u G)(I:Vals l G)(rd:∀m H,Rs g H m q l)(J:aY r X E)
  (L:PA X (a::d) (Vo g E M)) (e:(x==("__debug__":Str))=false) (N:starEach (a::d) X.env=(false,eval a X.env)::starEach d X.env) (i:(backTo k (starEach d X.env)).any (·.1)=false) :
  PE X (.Call (.Name x p) (a::d) [] k) (tE g E (sM F q M)) :=
 SV (rD (R1:=l) ok v y z hk B I J L e N i) λσ H Q ⟨m,O,S,s,T,h⟩=>(m,O,S,s,T,h.bind.mono λU m1 Y H1 x1 s1 h1 vs rs=>(m1,Y,U++q,s1,rs.append (rd _ _),h1))
noncomputable def Zz(X:Cx)(g:Gx)(E:L2.St->XK)(a:List Keyword)(c:Ca):Prop:=PK X a (Vo g E c)
theorem Ax:Zz X g E [] aN:=λd a s e H Q I ⟨m,f,S,sm,i,h⟩=>Ga d a s e H Q I (h.ret sm [] .nil)
theorem vE(p:PE X a (tE g E ca))(q:Zz X g E e r):Zz X g E ((nm,a,i)::e) (aC ca r):=λf d s t H Q I ⟨m,j,S,sm,k,h⟩ =>
 CM p q f d s t H Q I (m,j,S,sm,k,h.bind.mono λx m1 u L w l h1 v y=>(m1,j,u,l,k.mono w sm,h1.bind.mono λM m2 N O z B G J rs=>G.ret B (v::J) (.cons (R.mono z l _ y) rs)))
theorem CZ(ok:Rt X.prog X.w X.K X.mg X.base L j f M N (R9 g F))(O:RE j X.A)(T:Gl X x)(U:X.mg x= ↑⇑f)(hk:W.keepIn X.K ⇑f=true)(Y:eK X.K M N ks gw gV)
  (q:∀{m:zz}{H:Hp}{k bs:List A}{r t:List V},Rs g H m k r->Rs g H m bs t->Rs g H m (B k bs) (gV r t)) (hx:aY L X E) (ha:PA X (a::l) (Vo g E cs)) (u:Zz X g E d ck)
  (i:(backToKw e (keywordEach d X.env)).all (·.1.isSome)=true) (v:(backToKw e (keywordEach d X.env)).filterMap (·.1)=ks)
  (y:(x==("__debug__":Str))=false) (he:starEach (a::l) X.env=(false,eval a X.env)::starEach l X.env)
  (z:((backTo e (starEach (a::l) X.env)).any (·.1)||(backToKw e (keywordEach d X.env)).any (·.1.isNone))=false):PE X (.Call (.Name x p) (a::l) d e) (tE g E (jg F B cs ck)) :=
 SV (wZ ok O T U hk Y hx ha u i v y he z) λσ H Q ⟨m,G,S,s,I,h⟩=>(m,G,S,s,I,h.bind.mono λk m1 S1 H1 x1 J h1 r rs=>(m1,G,S1,J,I.mono x1 s,h1.bind.mono λbs m2 S2 H2 x2 s2 h2 t rz=>(m2,S2,B k bs,s2,q (Rs.mono x2 J _ rs) rz,h2)))
end
section
theorem intsOf.of(r:Rs g H m a d)(h:intsOf a= ↑l):d=l.map V.int:=pE V.int (mapR.of (λr e=>SD.of r e) r h)
theorem FB:Uo g (rI W8 λi j=>.int (i*j)) tY:=λm S H a b v w Q E s d e h =>
 let⟨i,f,h⟩:=h.rd;let⟨j,k,h⟩:=h.rd;let⟨l,h⟩:=h.gd;let⟨p,h⟩:=h.gd
 (i,j,Uk.of d f,Uk.of e k,.inl (by have:=NF l;constructor<;>lia),Out.int h s)
theorem C6{X:Cx}{g:Gx}(hK:X.K=g.K)(c:Uz g.K (g.tb k))(hm:Meth g.K (g.tb k) mn f)(he:g.ST[n]?= ↑mn)(ok:Rt X.prog X.w X.K X.mg X.base CX j f fd ps (R9 g F))(hr:RE j X.A)(hb:eK X.K fd ps ks gw gV)
  (hgv:∀{m:zz}{H:Hp}{t bs:List A}{J zs:List V},Rs g H m t J->Rs g H m bs zs->Rs g H m (gv t bs) (gV J zs)) (hx:aY CX X E) (ho:PE X o (tE g E co)) (ha:PA X (a::es) (Vo g E cs)) (hkw:Zz X g E l ck)
  (hall:(backToKw d (keywordEach l X.env)).all (·.1.isSome)=true) (hks:(backToKw d (keywordEach l X.env)).filterMap (·.1)=ks) (hst:starEach (a::es) X.env=(false,eval a X.env)::starEach es X.env)
  (hpl:((backTo d (starEach (a::es) X.env)).any (·.1)||(backToKw d (keywordEach l X.env)).any (·.1.isNone))=false)
  (ht:eval (.Call (.Attribute o mn L) (a::es) l d) X.env=(do
   let ov <- eval o X.env
   standAt L.atName
   let(f,first) <- holding [ov] (getMethod ov mn pl)
   callWith d f first (backTo d (starEach (a::es) X.env)) (backToKw d (keywordEach l X.env))):=by rfl):PE X (.Call (.Attribute o mn L) (a::es) l d) (tE g E (jh k n F gv co cs ck)):=λi s y H Q I ⟨m,M,S,sm,re,h⟩=>by
 refine W.methodCall_KW (pl:=pl) (RA (ho i s y H (λv T=>∃m1 N x p,Rz g m1 N T/\Re g T m1 M y/\R g T m1 x v/\T7 N k x= ↑p/\(look n p.2).isNone=true/\Out g m1 N T ((cs M N).b λt S=>(ck M S).b λbs S=>F (gv (x::t) bs) S) (An g Q) (E y)) I (m,M,S,sm,re,h.bind.mono λx m1 N T x1 s1 h1 v rv=>let⟨p,q,h1⟩:=h1.rd;let⟨z,h1⟩:=h1.gd;(m1,N,x,p,s1,re.mono x1 sm,rv,q,z,h1))) λu s1 hu=>?_) ht;let(v,T,I1,ru,m1,N,x,p,B,T8,rv,q,z,h1):=hu;let(ad,dx,gs,rfl,e3,no):=T7.no B rv he q z;obtain rfl:u=Value.ref ad:=ru;refine hU I1 e3 (hK▸c) (hK▸hm) no ?_;refine W.callWith_KW (first:=[⇑ad]) (h₀:=X.base) I.ok.mod.WJ (hK▸hm.kp) hall (RA (ha d i s1 y T (λJ O=>∃m2 U t,Rz g m2 U O/\Re g O m2 M y/\R g O m2 x ⇑ad/\Rs g O m2 t J/\Out g m2 U O ((ck M U).b λbs S=>F (gv (x::t) bs) S) (An g Q) (E y)) I1 (m1,M,N,B,T8,h1.bind.mono λt m2 U O x2 s2 h2 J rs=>(m2,U,t,s2,T8.mono x2 B,R.mono x2 B _ rv,rs,h2))) λus s2 hus=>?_) hpl hst;let(J,O,I2,r,m2,U,t,Y,U3,rv2,rs,h2):=hus;refine RA (hkw d i s2 y O (λzs H3=>R9 g F (gV (⇑ad::J) zs) H3 Q (E y)) I2 (m2,M,U,Y,U3,h2.bind.mono λbs m3 S3 H3 x3 s3 h3 zs rz=>(m3,S3,gv (x::t) bs,s3,hgv (.cons (R.mono x3 Y _ rv2) (Rs.mono x3 Y _ rs)) rz,h3))) λws s3 ⟨zs,H3,I3,rz,q3⟩=>(I3.Se,?_)
 rw[hks];have r2:=hb.rel (.cons rfl r:Vals (V.ref ad::J) (Value.ref ad::us)) rz;have hl:(gw (Value.ref ad::us) ws).length=ps.length:=by rw[<- r2.length];exact ok.len _ _ _ _ q3
 refine PN (OJ (ok.run X.A X.stack s3 H3 (Value.ref ad::us,ks.zip ws) (gw (Value.ref ad::us) ws) _ Q (E y) hr I3.V3 (hb.to s3 (Value.ref ad::us) ws I3.Se hl) r2 q3) λr s' G=>?_)
 match r,G with
 | .error e,G=>exact hx i y H3 s3 e s' I3 G
 | .ok (.ret u),G=>exact I3.after G
 | .ok .next,G | .ok .brk,G | .ok .cont,G=>exact G.elim
theorem v8{X:Cx}{C:Addr}{F:RJ}(M:Meth X.K C "__len__" f)(ok:Rt X.prog X.w X.K X.mg X.base (RT X.prog X.w) j f y i (R9 g F))(B:RE (j+1) X.A)(E:Binds X.K y i []) :
  bE X (.builtin "len") (λk H Q=>∃x l gs,k=[⇑x]/\H x= ↑(.ins C l gs)/\R9 g F [⇑x] H (λv d=>∃n:Nat,v=.int n/\n<=900/\Q (.int n) d) λ_ _ _=>False):=by
 intro p s U H k Y Q I r h;let(x,l,gs,rfl,G,h):=h;let(u,rfl,J):=bM r;obtain rfl:u=Value.ref x:=J;let(mA,O,_):=ke I.hok G;let(od,L,_):=O.look;have hl:([Value.ref x]++[]).length=i.length:=by have:=ok.len _ _ _ _ h;simpa using this
 refine Calls.call_function_entry kind_len plain_len entry_len (args_len1 _) ?_;unfold Builtin.«len»;refine xd (m:=oneArg "len" _) (Nv (xd (m:=callSpecial? ⇑x (Str.ofString "__len__")) (W.special_fn I.Se L M.at_ (beq_iff_eq.mp M.fn) ?_)));refine PN (OJ (ok.run X.A.in1 X.stack s H ([⇑x],[]) [⇑x] [⇑x] _ _ B.in1 I.V3.in1 (E s [⇑x] I.Se hl) (.cons rfl .nil) h) λz s' a=>?_)
 match z,a with
 | .error e,a=>let(_,_,_,_,_,_,_,_,_,_,_,_,q):=a;exact q.elim
 | .ok .next,a=>exact a.elim
 | .ok .brk,a=>exact a.elim
 | .ok .cont,a=>exact a.elim
 | .ok (.ret u),a =>
  let(v,d,N,T,n,rfl,n9,q):=I.after a;let(t,rfl):=(show ∃t,u=Value.int n t from T)
  refine xd (Ox (Nv (xd (wpAny_letGo ?_))));show wpAny _ _ (if (n:Int)<0 then _ else _) _ _ _;rw[NH ⋯];show wpAny _ _ (if (n:Int) ≥ 2 ^ 63 then _ else _) _ _ _;rw[NH ⋯];exact xd (wpAny_mkInt (Nv (_,rfl,.int n,d,N.tok _,(_,rfl),q)))
theorem GA{X:Cx}{g:Gx}(i:X.K=g.K)(M:Meth g.K (g.tb k) "__len__" f)(ok:Rt X.prog X.w X.K X.mg X.base (RT X.prog X.w) j f l t (R9 g F))(u:RE (j+1) X.A)(y:Binds X.K l t [])(B:Gl X "len")(G:X.mg "len"=none)(I:bootBuiltins "len"= ↑(.builtin "len"))(J:PE X o (tE g E co))
  (hs:dY o=true) (L:starEach [o] X.env=(false,eval o X.env)::starEach [] X.env):PE X (.Call (.Name "len" p) [o] [] N) (tE g E (mQ k F co)) :=
 SV (b9 (v8 (i▸M) ok u y) B G I (bH J aZ hs) ⋯ ⋯ L) λO H Q h=>un h λm _ S _ x _ s _ d h=>let⟨_,q,h⟩:=h.rd;let⟨ad,T,gs,e,_,_,e3,_⟩:=T7.of s d q
  (ad,T,gs,e▸rfl,e3,m,S,[x],s,.cons (e▸d) .nil,Ck (E:=E O) (h.bind.mono λr m2 Y H2 x2 U a v d=>let⟨n,en,a⟩:=a.rd;let⟨z,a⟩:=a.gd;(n,Uk.of d en,NF z,a.ret U _ (R.int _))))
theorem Gn:PE X (.Dict [] [] a) (tE g E qh):=SV Aa λd H Q ⟨m,j,S,s,k,h⟩ p e=>by
 have h:Out g m S H (mk (.dct []) S) (An g Q) (E d):=h;rw[b8]at h;let(f,i):=s.alloc (c:=.dct []) (o:=.dK []) e λ_=>([],ak,.nil)
 exact h _ _ i f _ (R.ref (by rw[<- s.len];simp))
theorem Cr:Uo g (λy x H Q=>∃a o,x= ⇑a/\vU H a y o/\Q (.bl (!o.isSome)) H) rq:=λm S H a b v w Q E s r q h=>by
 let(n,en,h):=h.rd;let((i,ks),f,h):=h.rd;let(y,e,rfl):=Um.of r en;let(a,d,rfl,e3,rk):=Vb.of s q f;refine(a,_,rfl,(d,y,e3,rfl,rfl),?_);have h:=h.ret s _ (R.bl _)
 cases z:look n ks with
 |none=>rw[Rf.no e rk z];rw[z]at h;exact h
 |some b=>let(u,q,_):=iO e rk z;rw[q];rw[z]at h;exact h
theorem Cn:TX g (λv H Q=>∃p d,[v]=[V.ref p]/\H p= ↑(.dK d)/\Q (.int d.length) H) l5:=λm S H a v Q E s f h =>
 let⟨⟨_,_⟩,q,h⟩:=h.rd;let⟨ad,d,e,_,_,e3,rk⟩:=Vm.of s f q;(ad,d,e▸rfl,e3,rk.length▸Out.int h s)
theorem Gp{f:Pos}(O:PE X o (tE g E co))(Q:PE X a (tE g E ca))(T:PE X e (tE g E U))(hs:swapsWith e ↑(.Subscript o a j) f.line X.env=pure false):PS X (.Assign [.Subscript o a j] e f) (tS g E (i5 co ca U)) :=
 U0 (CQ O Q T hs) λD Y H ⟨m,B,S,s,G,h⟩=>⟨m,B,S,s,G,(h.x s G).mono λv m1 S1 H1 x1 p h1 vv rv=>have I:=G.mono x1 s;⟨m1,B,S1,p,I,(h1.x p I).mono λx m2 S2 H2 M r h2 w rw=>have J:=I.mono M p;⟨m2,B,S2,r,J,(h2.x r J).mono λy m3 S3 H3 L k d u ru=>by
  let(n,q,d):=d.rd;let((i,ks),z,d):=d.rd;let(q9,d):=d.gd;rw[aL,bW]at d;let(t,et,rfl):=Um.of ru q;let(ad,l,rfl,e1,e2,e3,rk):=Vm.of k (R.mono L r _ rw) z;let(s4,N):=k.write (c:=.dct (iK n v ks)) (o:=.dK (dZ l t vv)) e1 e2 rfl λx=>(_,ak,(Rf.mono x k rk).put et (R.mono x k v (R.mono (M.trans L) p _ rv)))
  have h9:=da q9;exact(ad,_,rfl,(l,t,e3,rfl,by rw[rk.length,Ol];lia,rfl),d m3 _ Y N s4 ((J.mono L r).mono N k))⟩⟩⟩
theorem Gw{X:Cx}{g:Gx}(j:X.K=g.K)(w:Gl X "reversed")(z:X.mg "reversed"=none)(B:PE X a (tE g E ca))(d:dY a=true)(hs:starEach [a] X.env=[(false,eval a X.env)]):PI X G (.Call (.Name "reversed" p) [a] [] I) (tI g E (ER ca)) :=
 Xp (CJ w z (bH B aZ d) hs) λQ H T h=>un h λ_ _ _ _ _ _ s _ J h=>by let(e,q,h):=h.rd;let(ad,f,rfl,sq,r):=Ul.of J q;refine(ad,f,rfl,j▸sq,Out.ret (a:=Prod.mk e.reverse []) h s _ λm2 U L k M=>?_);have N:RW X.K L ad f:=j▸k.Yk s.lock sq;have l:=(Rs.mono k s.lock e r).rev;have hl:=l.length;rw[Q4]at hl;refine(λi y hy=>?_,by show _=f.length;exact hl.symm);have Y:i<e.reverse.length:=(LD.mp hy).1;refine((⋯,N),λv H3 ⟨e3,m⟩=>?_);subst e3;let(u,t,O):=l.get hy;rw[List.getElem?_reverse ⋯]at t;rw[t]at m;cases m;exact(Ext.refl,M,O)
theorem GL{X:Cx}{C:Value}
  (G:∀(pn:qa)(xe:ql)(E:L2.St->XK),aY (RT X.prog X.w) {X with pn:=pn,xe:=xe} E->PassesOwn (model X.prog X.w) X.A X.env xe->Su {X with pn:=pn,xe:=xe} body (tS g E k))
  (I:Gl X x) (J:X.mg x= ↑C) (L:∀c,aG c v=true->W.exmOne X.K ⇑(g.cls c) C= ↑true) (M:∀e:Value,Su (X.hand e) (i::a) (tS g E0 y))
  (l:X.stack=X.env::X.outer) (p:X.env.frame= ↑X.env.locals) (N:(x==("__debug__":Str))=false) :
  PS X (.Try body [.ExceptHandler ↑(.Name x np) none (i::a) z] [] [] O) (tS g E (lS k v y)) :=
 U0 (Ao (t:=λE=>tS g E k) G I J M l p N) λD σ H ⟨m,B,S,s,Q,h⟩=>⟨m,B,S,s,Q,by
  unfold lS at h
  cases q:k B S with
  |bad=>rw[q]at h;exact h
  |ok f r=>rw[q]at h;cases f<;>exact h
  |exc c j r =>
   rw[q]at h;dsimp only at h
   cases qc:aG c v with
   |false=>rw[qc]at h;exact h.elim
   |true =>
    rw[qc]at h;dsimp only at h;refineλm1 H1 T dx U Y T8=>(L c qc,m1,j,r,Y,T8,?_)
    have d:=RU.ext U h
    cases u:y j r with
    |bad=>rw[u]at d;exact d
    |exc c ρ2 S2=>rw[u]at d;exact d.elim
    |ok f S2=>rw[u]at d;cases f<;>exact d⟩
end
theorem wg{j:TV}{a:Ce}{g:List A}{x:A}{f:Env}{S:Rm}(h:g[i]?= ↑x):nV d j a (g.drop i) f S=match j x f with
  |none=>.bad
  |some f=>(a f S).b λy S=>match look d S.cs with
   |some (.lst k)=>match few 900 k with
    |true=>nV d j a (g.drop (i+1)) f (S.nx,put d (.lst (k++[y])) S.cs)
    |false=>.bad
   |_=>.bad:=by
 have e:g.drop i=x::g.drop (i+1):=by rw[Po (LD.mp h).1];congr 1;exact(LD.mp h).2
 rw[e]
 show(match j x f with|none=>Res.bad|some f=>(a f S).b λy S=>match look d S.cs with
   |some (.lst k)=>match few 900 k with
    |true=>fl (k++[y]) λl=>wr d (.lst l) S λS=>nV d j a (g.drop (i+1)) f S
    |false=>.bad
   |_=>.bad)=_
 simp only[aL,bW]
theorem we{j k:TV}{l:Ci}{f:Ce}{g:List A}{x:A}{a:Env}{S:Rm}(h:g[i]?= ↑x):mm d j l k f (g.drop i) a S=match j x a with
  |none=>.bad
  |some a=>(l a S).b λp S=>((nV d k f p.1 a (UA p.2 S)).back S p.2).b λa S=>mm d j l k f (g.drop (i+1)) a S:=by
 have e:g.drop i=x::g.drop (i+1):=by rw[Po (LD.mp h).1];congr 1;exact(LD.mp h).2
 rw[e];show(match j x a with|none=>Res.bad|some a=>(l a S).b λp S=>((cB p.2 S λL=>nV d k f p.1 a L).back S p.2).b λa S=>mm d j l k f (g.drop (i+1)) a S)=_;simp only[gA]
theorem Ext.at{m d:zz}{S e:Rm}{i:Nat}(x:Ext m S H d e f)(h:m[i]?= ↑a):d[i]?= ↑a:=by let(k,rfl,_):=x.pre;exact cq h
section
theorem Yq.of{l:zl}(h:tE g E (sN ci l.length fr T O v k) U H Q):gq (tI g E ci) (VA l fr) (tG g T) (GY (tI g E0 O) (tG g v) (tE g E0 k)) U H Q:=by
 let(m,w,S,s,re,h):=h;refine(m,w,S,s,re,h.bind.mono λp m1 B Y x1 s1 h1 J it D hD=>?_);have T8:=re.mono x1 s;rw[aL,gA]at h1;have G:=s1.lock (ls:=p.2);generalize hL:UA p.2 B=L at h1 G;let(n0,c0):=L;dsimp only at h1;rw[uT]at h1;let(sD,xD):=G.alloc (c:=.lst []) (o:=.lst []) hD λ_=>([],ak,.nil)
 have hn0:m1.length=n0:=G.len;have atD:(m1++[D])[n0]?= ↑D:=by rw[<- hn0];simp
 let fin:Res Env->Res A:=λr=>(r.UU.b λ_ L=>(Res.ok (A.ref n0) L:Res A)).back B p.2;have h1:Out g m1 B Y (fin (mm n0 T O v k p.1 (Sy l.length fr w) (n0+1,(n0,.lst [])::c0))) (An g Q) (E U):=h1
 refine it.loop (tb:=GY (tI g E0 O) (tG g v) (tE g E0 k) D) (Q:=λ_ H'=>Q ⇑D H') (I:=λi m2 M S2 H'=>Ext (m1++[D]) (n0+1,(n0,.lst [])::c0) (upd Y D (.lst [])) m2 S2 H'/\Out g m1 B Y (fin (mm n0 T O v k (p.1.drop i) M S2)) (An g Q) (E U))
  (m1++[D],Sy l.length fr w,_,hL▸xD,sD,(AA T8 l fr).mono xD G,Ext.refl,h1) (λ{m2 M S2 σ2 H2} xx s2 _ e=>?_) λ{i x m2 M S2 H2} q _ e=>?_
 ·let(x2,e):=e;rw[Qs]at e;have e:Out g m1 B Y (bJ B p.2 S2 λS=>(Res.ok (A.ref n0) S:Res A)) (An g Q) (E U):=e;rw[dN]at e;let(x3,s3):=xx.unlock s1 s2;exact e m2 H2 x3 s3 _ (R.ref (x2.at atD))
 ·let(x2,e):=e;rw[we q]at e
  cases qt:T x M with
  |none=>rw[qt]at e;exact e.elim
  |some N =>
   rw[qt]at e;dsimp only at e;refine(N,rfl,λ{H3 σ4} x3 s3 s2 Xq=>(m2,N,S2,s3,Xq,?_))
   cases qi:O N S2 with
   |ok p1 S5 =>
    rw[qi]at e;intro m5 H5 x5 s5 J1 V8;have x25:=(x2.trans x3).trans x5;let fi (r:Res Env):Prop:=Out g m1 B Y (fin ((r.back S5 p1.2).b λw S=>mm n0 T O v k (p.1.drop (i+1)) w S)) (An g Q) (E U);refine V8.loop (tb:=X8 vT (tE g E0 k) D) (I:=λj m6 f S6 H'=>fi (nV n0 v k (p1.1.drop j) f S6)) (m5,N,_,Ext.refl,s5.lock,Xq.mono x5 s3,e) (λ{m6 f S6 σ6 H6} x6 s6 re6 d=>?_) λ{j y m6 f S6 H6} qj x6 d=>?_
    ·rw[Qs]at d;have d:Out g m1 B Y (fin ((bJ S5 p1.2 S6 λS=>(Res.ok f S:Res Env)).b λw S=>mm n0 T O v k (p.1.drop (i+1)) w S)) (An g Q) (E U):=d;rw[dN]at d;let(x7,s7):=x6.unlock s5 s6;exact(m6,f,_,hL▸xD.trans (x25.trans x7),s7,re6,x25.trans x7,d)
    ·rw[wg qj]at d
     cases qt1:v y f with
     |none=>rw[qt1]at d;exact(show False from d).elim
     |some t =>
      rw[qt1]at d;dsimp only at d;refine(t,rfl,λ{H7 σ8} x7 s7 s6 re8=>?_);show tE g E0 k σ8 H7 _;refine(m6,t,S6,s7,re8,?_)
      cases qe:k t S6 with
      |bad=>rw[qe]at d;exact(show False from d).elim
      |exc c S9 =>rw[qe]at d;have d:Out g m1 B Y (fin ((bJ S5 p1.2 S9 λS=>(Res.exc c S:Res Env)).b λw S=>mm n0 T O v k (p.1.drop (i+1)) w S)) (An g Q) (E U):=d;rw[dN]at d;exact(show False from d).elim
      |ok z S9 =>
       rw[qe]at d;intro m9 H9 x9 s9 u ru
       have d:fi (match look n0 S9.cs with
        |some (.lst ys)=>match few 900 ys with
         |true=>nV n0 v k (p1.1.drop (j+1)) t (S9.nx,put n0 (.lst (ys++[z])) S9.cs)
         |false=>Res.bad
        |_=>Res.bad):=d
       cases qd:look n0 S9.cs with
       |none=>rw[qd]at d;exact(show False from d).elim
       |some cd =>
        cases cd with
        |lst ys =>
         rw[qd]at d;dsimp only at d
         cases q9:few 900 ys with
         |false=>rw[q9]at d;exact(show False from d).elim
         |true =>
          rw[q9]at d;have x79:=(x6.trans x7).trans x9;have at9:m9[n0]?= ↑D:=x79.at (x25.at atD);let(D',e',vs,hD9,r9):=s9.cell n0 _ qd;rw[at9]at e';cases e';let(s10,x10):=s9.write (a:=D) (i:=n0) (c:=.lst (ys++[z])) (o:=.lst (vs++[u])) at9 qd rfl λx=>(_,ak,(Rs.mono x s9 ys r9).append (.cons (R.mono x s9 z ru) .nil))
          have hl:=r9.length;have h9:=da q9;exact(vs,hD9,by rw[Ol];lia,m9,t,_,x79.trans x10,s10,(re8.mono x9 s7).mono x10 s9,d)
        |_=>rw[qd]at d;exact(show False from d).elim
   |_=>rw[qi]at e;exact(show False from e).elim
end
section
variable{P:Program}{w:World}{g:Gx}{mg:za}{base:Heap}
theorem qg{N:zl}(sm:Rz g m S H)(r:Rs g H m f k)(l:k.length<=N.length)(h:Out g m S H (done (body (f.map some++List.replicate (N.length - f.length) none) S)) (An g Q) E) :
  tS g (λ_=>E) body {nx:=λ_ p=>Q .Ro p,rt:=Q} (L2.start N k) H:=by
 refine(m,_,S,sm,AB r l,?_);generalize body (f.map some++List.replicate (N.length - f.length) none) S=o at h
 cases o with
 |bad=>exact h
 |ok fl q =>
  cases fl with
  |nx i=>exactλm1 a j d e t=>h m1 a d e .Ro R.Ro
  |rt b=>exactλm1 a v d e u=>h m1 a d e v u
  |bk i=>exact h.elim
  |ct i=>exact h.elim
 |exc c i q=>exactλm1 a j y d e t=>h m1 a y d e
theorem eY(h:Out g m S H (av a n body d S) (An g Q) E):d.length=a/\Out g m S H (done (body (d.map some++List.replicate (n - d.length) none) S)) (An g Q) E:=by
 unfold av at h
 cases q:Nat.beq d.length a with
 |false=>rw[q]at h;exact h.elim
 |true=>rw[q]at h;dsimp only at h;rw[aL]at h;exact(NJ q,h)
noncomputable abbrev D7(P:Program)(w:World)(g:Gx)(mg:za)(base:Heap)(N:zl)(qual:Str)(st:Stmt)(f:Addr)(k:Nat)(body:Cs):Prop:=∀(a:Value)(A:Around)(outer:List PySem.Env)(s:Shared)(H:Hp)(E:XK),RE k (A.deeper (envOfC qual (ag st) s.heap.objs.size f a))->Su (dQ (RT P w) P w g.K mg base N qual (ag st) f a A outer s H E) (bh st) (tS g (λ_=>E) body)
theorem uh{st:Stmt}(F:Va g.K x qual st f e)(S:RM N ps (ag st))(i:D7 P w g mg base N qual st f k body):Rt P w g.K mg base (RT P w) (k+1) f e ps (R9 g (av ps.length N.length body)):=by
 have a:ps.length<=N.length:=by have:=NZ List.length S.pre;rw[Qp]at this;lia
 exact F.Zh S (λj H Q E ⟨m,S,l,s,r,h⟩=>by rw[r.length];exact(eY h).1) λd A outer s H j Q E p ⟨m,q,l,sm,r,h⟩=>(_,i d A outer s H E p,qg sm r (by rw[r.length,(eY h).1];exact a) (eY h).2)
theorem C0{st:Stmt}(F:VC g.K x qual st f i T t)(S:RM N a (ag st))(j:D7 P w g mg base N qual st f k body):Rt P w g.K mg base (RT P w) (k+1) f i a (R9 g (av a.length N.length body)):=by
 have d:a.length<=N.length:=by have:=NZ List.length S.pre;rw[Qp]at this;lia
 exact F.Zh S (λl H Q E ⟨m,S,p,s,r,h⟩=>by rw[r.length];exact(eY h).1) λe A outer s H l Q E q ⟨m,u,p,sm,r,h⟩=>(_,j e A outer s H E q,qg sm r (by rw[r.length,(eY h).1];exact d) (eY h).2)
end
noncomputable def U4:Expr->Bool
 | .Starred ..=>false
 | .Set ..=>false
 |_=>true
noncomputable def ZA:Expr->Bool
 | .ListComp ..=>false
 | .SetComp ..=>false
 | .DictComp ..=>false
 |_=>true
noncomputable def ivE:Expr->Bool
 | .UnaryOp ..=>false
 | .BoolOp ..=>false
 | .IfExp ..=>false
 | .Compare ..=>false
 |_=>true
noncomputable def VI:Expr->Bool
 | .Call ..=>false
 |_=>true
noncomputable def slE:Expr->Bool
 | .Slice ..=>false
 |_=>true
section
theorem aD(h:U4 e=true):dY e=true:=by cases e<;>first|rfl|cases h
theorem kh(h:U4 e=true)(x:Value):foldedSetIterable e env x=pure x:=by cases e<;>first|rfl|cases h
theorem px(h:U4 e=true):behindInMarks a e=false:=by cases e<;>first|rfl|cases h
theorem oX(h:ZA e=true):swapsWith e t l env=pure false:=by cases e<;>first|rfl|cases h
theorem HX(h:ivE e=true)(a:Sem Value):isTrue e env a=(do let v <- a;standAt e.pos;holding [v] (truthy v)):=by cases e<;>first|rfl|cases h
theorem fh(h:VI e=true):attributeBase e a env (eval e env)=eval e env:=by cases e<;>first|rfl|cases h
theorem lV(h:slE e=true):ka e:=by intro o i;cases e<;>first|rfl|cases h
theorem cF:∀{es:zp},es.all U4=true->(backTo a (starEach es env)).any (·.1)=false
 |[],_=>rfl
 |e::es,h=>by rw[Og,Nt]at h;rw[aE (aD h.1)];exact cF (es:=es) h.2
end
structure Ctx(X:Cx)(g:Gx)(E:L2.St->XK)(j:Nat):Prop where
 K:X.K=g.K
 hr:RE (j+1) X.A
 ps:aY (RT X.prog X.w) X E
 nd:X.N.Nodup
 calm:X.calm=true
theorem Ctx.hs(c:Ctx X g E j):RE j X.A:=c.hr.mono (P5 j)
structure Ts where
 fl:List (Str×Nat)
 cl:List (Str×A)
 tl:List (Str×List (Nat×A))
 bl:List Str
 xl:List (Str×Nat)
 ml:List (Nat×Str×Nat)
 dl:List (Nat×Str)
 hl:List (Str×List Nat)
 mz:List (Str×Nat×Nat×List A)
 df:List (Str×Nat×List A)
 kw:List (Str×Nat×(List A->List A->List A)×Str)
 km:List (Str×Nat×Nat×(List A->List A->List A)×Str)
 kl:List (Str×List (Nat×A))
 wl:List (Str×List (Nat×A))
noncomputable abbrev FnE(P:Program)(w:World)(K:qs)(mg:za)(base:Heap)(g:Gx)(j:Nat)(f:Addr)(F:RJ):Prop:=∃a d,Binds K a d []/\Rt P w K mg base (RT P w) j f a d (R9 g F)
structure Fx(P:Program)(w:World)(K:qs)(mg:za)(base:Heap)(g:Gx)(j:Nat)(call:RC)(t:Ts):Prop where
 fn:∀x i,t.fl.lookup x= ↑i->∃f,mg x= ↑⇑f/\W.keepIn K ⇑f=true/\FnE P w K mg base g j f (call i)
 con:∀x y,t.cl.lookup x= ↑y->∃v u,mg x= ↑u/\RelV v u/\∀H m,R g H m y v
 tab:∀x ks,t.tl.lookup x= ↑ks->∃a T,mg x= ↑⇑a/\fg g T ks/\eL g.K a T
 bi:∀x,t.bl.contains x=true->mg x=none
 exc:∀x n,t.xl.lookup x= ↑n->gL K (g.cls n) [.type "ValueError",.type "Exception",.type "BaseException",.type "object"] "ValueError.__new__" none=true/\mg x= ↑⇑(g.cls n)
 met:∀k m i,t.ml.contains (k,m,i)=true->Uz g.K (g.tb k)/\∃f,Meth g.K (g.tb k) m f/\FnE P w K mg base g j f (call i)
 han:∀x cs,t.hl.lookup x= ↑cs->∃C,mg x= ↑C/\∀c,aG c cs=true->W.exmOne K ⇑(g.cls c) C= ↑true
 mz:∀x q,t.mz.lookup x= ↑q->∃f fd ps R1 UR,Mk K (g.tb q.1) f/\mg x= ↑⇑(g.tb q.1)/\Binds K fd ps UR/\Vals R1 UR/\(∀m H,Rs g H m q.2.2 R1)/\Rt P w K mg base (RT P w) j f fd ps (R9 g (call q.2.1))
 df:∀x q,t.df.lookup x= ↑q->∃f fd ps R1 UR,mg x= ↑⇑f/\W.keepIn K ⇑f=true/\Binds K fd ps UR/\Vals R1 UR/\(∀m H,Rs g H m q.2 R1)/\Rt P w K mg base (RT P w) j f fd ps (R9 g (call q.1))
 kw:∀x q,t.kw.lookup x= ↑q->∃f fd ps gw gV,mg x= ↑⇑f/\W.keepIn K ⇑f=true/\eK K fd ps [q.2.2] gw gV/\(∀{m H as bs vs zs},Rs g H m as vs->Rs g H m bs zs->Rs g H m (q.2.1 as bs) (gV vs zs))/\Rt P w K mg base (RT P w) j f fd ps (R9 g (call q.1))
 km:∀x q,t.km.lookup x= ↑q->Uz g.K (g.tb q.1)/\∃f fd ps gw gV,Meth g.K (g.tb q.1) x f/\eK K fd ps [q.2.2.2] gw gV/\(∀{m H as bs vs zs},Rs g H m as vs->Rs g H m bs zs->Rs g H m (q.2.2.1 as bs) (gV vs zs))/\Rt P w K mg base (RT P w) j f fd ps (R9 g (call q.2.1))
 kl:∀x ks,t.kl.lookup x= ↑ks->∃a T,mg x= ↑⇑a/\fg g T ks/\(∀p∈T,∃j,p.2=.flat (.int j))/\eL g.K a T
 wl:∀x ks,t.wl.lookup x= ↑ks->∃a zs,mg x= ↑⇑a/\mH P w K a zs/\Sd g (ks.map (·.1)) zs
 fld:∀k f,t.dl.contains (k,f)=true->Uz g.K (g.tb k)/\R0 g.K (g.tb k) f
noncomputable abbrev FX(X:Cx)(g:Gx)(j:Nat)(call:RC)(t:Ts):Prop:=Fx X.prog X.w X.K X.mg X.base g j call t
noncomputable abbrev Vp(X:Cx)(x:Str):Prop:=Gl X x/\(x==("__debug__":Str))=false/\x≠"__name__"
structure QE(X:Cx)(g:Gx)(E:L2.St->XK)(e:Expr)(c:Ce):Prop where
 h:PE X e (tE g E c)
 pl:U4 e=true
structure QT(X:Cx)(g:Gx)(E:L2.St->XK)(e:Expr)(c:Ct):Prop where
 h:PT X e (tB g E c)
structure QW(X:Cx)(g:Gx)(E:L2.St->XK)(e:Expr)(c:Ct):Prop where
 h:PW X e (tB g E c)
structure QC(X:Cx)(g:Gx)(E:L2.St->XK)(e:Expr)(c:Ce):Prop where
 h:PE X e (tE g E c)
 t:PT X e (tB g E (Rq c))
 pl:U4 e=true
structure QA(X:Cx)(g:Gx)(E:L2.St->XK)(es:zp)(c:Ca):Prop where
 h:PA X es (Vo g E c)
 pl:es.all U4=true
structure QS(X:Cx)(g:Gx)(E:L2.St->XK)(e:Stmt)(c:Cs):Prop where
 h:PS X e (tS g E c)
structure QL(X:Cx)(g:Gx)(E:L2.St->XK)(e:List Stmt)(c:Cs):Prop where
 h:Su X e (tS g E c)
structure QG(X:Cx)(g:Gx)(e:Expr)(c:TV):Prop where
 h:PG X e (tG g c)
 pl:U4 e=true
structure QH(X:Cx)(g:Gx)(es:zp)(cs:List TV):Prop where
 h:Wr X es (YG g cs)
 n:es.length=cs.length
 pl:es.all U4=true
structure QI(X:Cx)(g:Gx)(E:L2.St->XK)(tg e:Expr)(c:Ci):Prop where
 h:PI X tg e (tI g E c)
 pl:U4 e=true
structure QF(X:Cx)(g:Gx)(E:L2.St->XK)(es:zp)(c:Ct):Prop where
 h:vV X es (tB g E c)
section
variable{X:Cx}{g:Gx}{E:L2.St->XK}{j:Nat}{call:RC}{t:Ts}{a b c e:Expr}{es:zp}{ca cb:Ce}{p pos:Pos}{x:Str}{i n k:Nat}
theorem JV{i:Bool}{j:Nat}:QE X g E (.Constant (.bool i) j pos) (cC (.bl i)):=(K1,rfl)
theorem JW(F:FX X g j call t)(h:t.cl.lookup x= ↑y)(d:Vp X x):QE X g E (.Name x pos) (cC y) :=
 let⟨_,_,h1,f,l⟩:=F.con x y h;(K7 d.1 h1 f l d.2.1,rfl)
theorem Bh(d:Sh X (binaryOp l) r)(ok:Uo g r f)(m:QE X g E a ca)(q:QE X g E b cb):QE X g E (.BinOp a l b pos) (cO f ca cb):=(Le d ok m.h q.h,rfl)
theorem LH(h:QC X g E e d):QT X g E e (Rq d):=⟨h.t⟩
theorem qc(h:PC X d a b (tE g E l))(f:behindInMarks d b=false):QC X g E (.Compare a [d] [b] pos) l:=(FZ h f,imT (As h f) λm H Q h=>Ue.of (λ_ _ _ z=>z) h,rfl)
theorem jb(l:Sh X (compareOp m) r)(ok:Uo g r f)(q:QE X g E a ca)(d:QE X g E b cb):QC X g E (.Compare a [m] [b] pos) (cO f ca cb):=qc (IM l ok q.h d.h) (px d.pl)
theorem LI(f:QE X g E a ca)(l:QE X g E b cb)(d:Ctx X g E j):QC X g E (.Compare a [.Eq] [b] pos) (cO oEq ca cb):=jb (d.K▸(FN d.hr).or (zT d.hr)) Iu f l
theorem LJ(f:QE X g E a ca)(l:QE X g E b cb)(d:Ctx X g E j):QC X g E (.Compare a [.NotEq] [b] pos) (cO R5 ca cb):=jb (d.K▸(FQ d.hr).or (FR d.hr)) IC f l
theorem JZ(f:QE X g E a ca)(F:FX X g j call t)(l:Ctx X g E j)(h:t.tl.lookup x= ↑ks)(d:Vp X x):QC X g E (.Compare a [.In] [.Name x p] pos) (sO ks ca) :=
 let⟨_,_,h1,m,q⟩:=F.tab x ks h;qc (IU m l.K q f.h (eI d.1 h1 rfl d.2.1)) rfl
theorem Hh(f:QE X g E a ca)(F:FX X g j call t)(l:Ctx X g E j)(h:t.tl.lookup x= ↑ks)(d:Vp X x):QC X g E (.Compare a [.NotIn] [.Name x p] pos) (uG ks ca) :=
 let⟨_,_,h1,m,q⟩:=F.tab x ks h;qc (GD m l.K q f.h (eI d.1 h1 rfl d.2.1)) rfl
theorem J3(f:QE X g E a ca)(hs:slE a=true:=by rfl)(F:FX X g j call t)(l:Ctx X g E j)(h:t.tl.lookup x= ↑ks)(d:Vp X x):QE X g E (.Subscript (.Name x p) a pos) (vZ ks ca) :=
 let⟨_,_,h1,m,q⟩:=F.tab x ks h;(Ja m l.K q (eI d.1 h1 rfl d.2.1) f.h (lV hs),rfl)
theorem Hd(d:QA X g E (a::es) q)(F:FX X g j call t)(f:Ctx X g E j)(h:t.fl.lookup x= ↑i)(l:Vp X x):QE X g E (.Call (.Name x p) (a::es) [] pos) (ae (call i) q) :=
 have m:=(Nt _ _).mp (Og▸d.pl);let⟨_,h1,r,_,_,u,v⟩:=F.fn x i h;(Gj v f.hs l.1 h1 r u f.ps d.h l.2.1 (aE (aD m.1)) (cF m.2),rfl)
variable{id:String}
theorem DC(l:bE X (.builtin id) r)(ok:TX g (λv H Q=>r [v] H Q) u)(m:bootBuiltins x= ↑(.builtin id))(d:QE X g E a ca)(F:FX X g j call t)(h:t.bl.contains x=true)(f:Vp X x):QE X g E (.Call (.Name x p) [a] [] pos) (cU u ca) :=
 (K0 l ok f.1 (F.bi x h) m d.h (aD d.pl) f.2.2 f.2.1 (aE (aD d.pl)),rfl)
theorem LK(l:bE X (.type T) r)(ok:TX g (λv H Q=>r [v] H Q) u)(m:bootBuiltins x= ↑(.type T))(d:QE X g E a ca)(F:FX X g j call t)(h:t.bl.contains x=true)(f:Vp X x):QE X g E (.Call (.Name x p) [a] [] pos) (cU u ca) :=
 (Lh l ok f.1 (F.bi x h) m d.h (aD d.pl) f.2.2 f.2.1 (aE (aD d.pl)),rfl)
theorem J0(l:bootBuiltins x= ↑(.type u))(e:WA k=u)(h1:1<=k)(h5:k<=5)(d:QE X g E a ca)(F:FX X g j call t)(m:Ctx X g E j)(h:(t.bl.contains x&&t.bl.contains "isinstance")=true)(f:Vp X x)(q:Vp X "isinstance"):QE X g E (.Call (.Name "isinstance" p) [a,.Name x r] [] pos) (cU (V9 k) ca):=by rw[Nt]at h;subst e;exact(IY h1 h5 m.K (F.bi _ h.2) q.1 dg d.h (pj f.1 (F.bi _ h.1) l rfl f.2.2 f.2.1) (aD d.pl) rfl (aE (aD d.pl)) rfl,rfl)
theorem Hf{d:Pos}(slot:Slot "list" name id)(m:typeOf (.builtin id)=pure (.type "method_descriptor"))(q:Wt X id r)(ok:Zs g r f)(u:QE X g E a ca)(l:QE X g E b cb)(v:VI a=true:=by rfl)(hl:(d.endLine==pos.line)=true:=by rfl)(w:Ctx X g E j):QE X g E (.Call (.Attribute a name d) [b] [] pos) (cM f ca cb) :=
 (Lc slot m q ok w.K u.h l.h (aD l.pl) (fh v) (by rw[aE (aD l.pl)];rfl) hl (aE (aD l.pl)),rfl)
theorem JY{d:Pos}(l:QE X g E a ca)(m:QE X g E b cb)(q:VI a=true:=by rfl)(hl:(d.endLine==pos.line)=true:=by rfl)(f:Ctx X g E j):QE X g E (.Call (.Attribute a "index" d) [b] [] pos) (cM zA ca cb):=Hf Qk F.type_list_index (f.K▸wU f.hr) Fo l m q hl f
theorem JX(d:QE X g E o co)(l:VI o=true:=by rfl)(F:FX X g j call t)(m:Ctx X g E j)(h:t.dl.contains (k,f)=true)(q:g.ST[n]?= ↑f):QE X g E (.Attribute o f pos) (bc k n co) :=
 (IQ m.K (F.fld k f h).1 (F.fld k f h).2 q d.h (fh l),rfl)
theorem lE:∀{es:zp},es.all U4=true->(backTo pos (starEach es env)).all (λx=>!x.1)=true
 |[],_=>rfl
 |e::es,h=>by rw[Og,Nt]at h;rw[aE (aD h.1)];exact lE (es:=es) h.2
theorem vp{d:Pos}(l:VI o=true)(q:es.all U4=true)(h:es.length<30)(hl:(d.endLine==pos.line)=true):eval (.Call (.Attribute o m d) es [] pos) env=(do
   let ov <- eval o env
   standAt d.atName
   let(f,first) <- holding [ov] (getMethod ov m (do return (<- importBound o env).getD true))
   callWith pos f first (backTo pos (starEach es env)) (backToKw pos (keywordEach [] env))):=by
 show(do let ov <- attributeBase o m env (eval o env);standAt d.atName;methodCall o m d pos env ov (es.length+0) (backTo pos (starEach es env)) (backToKw pos (keywordEach [] env)))=_
 have few:methodCallForm (es.length+0) (backTo pos (starEach es env)) (backToKw pos (keywordEach [] env))=true:=by unfold methodCallForm;rw[lE q];simp only[OM];exact Oz h
 rw[fh l];unfold methodCall;rw[few];unfold calleeOf methodCallPos;rw[hl];rfl
theorem Hg{d:Pos}(v:QE X g E o co)(l:QA X g E (a::es) w)(y:VI o=true:=by rfl)(q:(a::es).length<30:=by decide)(hl:(d.endLine==pos.line)=true:=by rfl)(F:FX X g j call t)(r:Ctx X g E j)(h:t.ml.contains (k,m,i)=true)(z:g.ST[n]?= ↑m):QE X g E (.Call (.Attribute o m d) (a::es) [] pos) (aJ k n (call i) co w):=by have u:=(Nt _ _).mp (Og▸l.pl);let(h0,f,h1,H,I,B,G):=F.met k m i h;exact(GC r.K h0 h1 z G r.hs B r.ps v.h l.h (aE (aD u.1)) (cF u.2) (vp y l.pl q hl),rfl)
theorem DD{d:Pos}(q:QE X g E o co)(r:VI o=true:=by rfl)(hl:(d.endLine==pos.line)=true:=by rfl)(F:FX X g j call t)(l:Ctx X g E j)(h:t.ml.contains (k,m,i)=true)(u:g.ST[n]?= ↑m):QE X g E (.Call (.Attribute o m d) [] [] pos) (aJ k n (call i) co aN):=by let(h0,f,h1,y,z,v,w):=F.met k m i h;exact(C5 l.K h0 h1 u w l.hs v l.ps q.h (vp r rfl ⋯ hl),rfl)
theorem He{k}(d:QE X g E a ca)(f:QE X g E b cb)(F:FX X g j call t)(l:Ctx X g E j)(h:t.bl.contains "zip"=true)(m:Vp X "zip"):QI X g E (.Tuple es k q) (.Call (.Name "zip" p) [a,b] [] pos) (wI ca cb):=(Gz l.K m.1 (F.bi _ h) d.h f.h (aD d.pl) (aD f.pl) (aE (aD d.pl)) (cF (es:=[b]) (by rw[Og,f.pl];rfl)),rfl)
theorem dm:∀{es:zp},es.all U4=true->assignEach es env=es.map λe=>Prod.mk false (assign e env)
 |[],_=>rfl
 |e::es,h=>by
  rw[Og,Nt]at h;have:assignEach (e::es) env=(false,assign e env)::assignEach es env:=by have h1:=h.1;cases e<;>first|rfl|cases h1
  rw[this,dm (es:=es) h.2];rfl
theorem oZ:∀{es:zp},(es.map λe=>Prod.mk false (assign e env)).findIdx? (·.1)=none
 |[]=>rfl
 |e::es=>by rw[NR,List.findIdx?_cons];simp[oZ (es:=es)]
theorem D4{st:Stmt}(h:QS X g E st d):QL X g E [st] d:=⟨DT h.h⟩
theorem D5(h:QE X g E a ca):QS X g E (.Return ↑a pos) (ah ca):=⟨Jg h.h⟩
theorem J9(f:QE X g E a ca)(d:QG X g b l)(m:ZA a=true:=by rfl)(q:swappedStores [b] a X.env=pure none):QS X g E (.Assign [b] a pos) (dJ l ca):=⟨Jm f.h d.h (oX m) q (by rw[dm (es:=[b]) (by rw[Og,d.pl];rfl)];rfl)⟩
theorem GX:swapsWith e ↑(.Attribute o f p) l env=pure false:=by cases e<;>rfl
theorem Hi(d:QE X g E o co)(l:QE X g E e m)(F:FX X g j call t)(q:Ctx X g E j)(h:t.dl.contains (k,f)=true)(r:g.ST[n]?= ↑f):QS X g E (.Assign [.Attribute o f p] e pos) (fI k n co m):=⟨GH q.K (F.fld k f h).1 (F.fld k f h).2 r d.h l.h GX⟩
theorem Bi{st:Stmt}:QS X g E st eA:=⟨GG⟩
theorem DE{d:Ca}{E:XK}(f:QA X g (λ_=>E) (a::es) d)(F:FX X g j call t)(q:Ctx X g (λ_=>E) j)(h:t.xl.lookup x= ↑n)(l:Vp X x)(r:Passes (Zg X.prog X.w) X E):QS X g (λ_=>E) (.Raise ↑(.Call (.Name x p) (a::es) [] u) none pos) (ef n d) :=
 have m:=(Nt _ _).mp (Og▸f.pl)
 ⟨C7 PySem.F.excBase_ValueError rfl PySem.F.excBase_ValueError (F.exc x n h).1 r l.1 (F.exc x n h).2 rfl f.h q.calm (aE (aD m.1)) (cF m.2) l.2.1⟩
theorem J8(y:∀pn xe l,Ctx {X with pn:=pn,xe:=xe} g l j->PassesOwn (model X.prog X.w) X.A X.env xe->QL {X with pn:=pn,xe:=xe} g l body z)(B:∀e,QL (X.hand e) g E0 (f::d) G)(F:FX X g j call t)(m:Ctx X g E j)(h:t.hl.lookup x= ↑u)(v:Vp X x)(q:X.stack=X.env::X.outer:=by rfl)(r:X.env.frame= ↑X.env.locals:=by rfl):QS X g E (.Try body [.ExceptHandler ↑(.Name x p) none (f::d) L] [] [] pos) (lS z u G) :=
 let⟨_,h1,H⟩:=F.han x u h;⟨GL (λpn xe l I J=>(y pn xe l (m.K,m.hr,I,m.nd,m.calm) J).h) v.1 h1 H (λe=>(B e).h) q r v.2.1⟩
noncomputable def tgN:Nat->Expr->List Str
 |_,.Name x _=>[x]
 |n+1,.Tuple es _ _=>es.flatMap (tgN n)
 |_,_=>[]
noncomputable def YI:List Str->Bool
 |[]=>true
 |x::r=>!r.contains x&&YI r
theorem VJ:∀{l:zl},YI l=true->l.Nodup
 |[],_=>.nil
 |x::r,h=>by unfold YI at h;rw[Nt,OV]at h;exact Oe.mpr ((λz=>by have h1:=h.1;rw[List.contains_iff_mem.mpr z]at h1;cases h1),VJ h.2)
noncomputable def ZC(X:Cx)(f:Scope)(d:zl)(fr:List Nat)(l:zl):Bool:=(match f.kind with | .function=>true|_=>false)&&dP X.N X.env.kindOf f.names d fr l&&YI l
theorem sJ(h:ZC X f d fr l=true):f.kind=.function/\dP X.N X.env.kindOf f.names d fr l=true/\l.Nodup:=by unfold ZC at h;rw[Nt,Nt]at h;refine(?_,h.1.2,VJ h.2);have h1:=h.1.1;split at h1<;>first|assumption|cases h1
theorem Ctx.tr(d:Ctx X g E j)(f:aY (RT X.prog X.w) {X with pn:=pn,xe:=xe} l):Ctx {X with pn:=pn,xe:=xe} g l j:=(d.K,d.hr,f,d.nd,d.calm)
theorem Ctx.Sy(d:Ctx X g E j){C:Addr}{f:zl}(h:f.Nodup):Ctx (X.Sy sc cl C f s H fp) g E0 j:=(d.K,d.hr,CC,h,d.calm)
structure Cq(X:Cx)(g:Gx)(E:L2.St->XK)(sc:Scope)(pos:Pos)(e:Expr)(gs:List Comprehension)(c:Ce):Prop where
 v:QE X g E (.ListComp e gs sc pos) c
 s:∀{i:Nat}{x:Str}{q p':Pos},X.N[i]?= ↑x/\X.env.scope.names.lookup x=some .local->swapsWith (.ListComp e gs sc pos) ↑(.Name x q) p'.line X.env=pure true->QS X g E (.Assign [.Name x q] (.ListComp e gs sc pos) p') (aw i c)
theorem Cq.of(l:QI X g E d a z)(m:Ctx X g E j)(h:ZC X q r fr B=true)(b:pW X (.ListComp e ((d,a,u,0)::f) q pos) d a.pos q B G I)
  (of:∀{w H Q},tE g E J w H Q->gq (tI g E z) (VA r fr) G I w H Q):Cq X g E q pos e ((d,a,u,0)::f) J :=
 have⟨h1,y,_⟩:=sJ h
 ((Gk l.h h1 y m.calm b (kh l.pl) of,rfl),λhl v=>⟨xi l.h h1 y m.calm b (kh l.pl) of m.nd hl.1 hl.2 v⟩)
end
section
variable{P:Program}{w:World}{g:Gx}{mg:za}{base:Heap}{k:Nat}
noncomputable abbrev Up(P:Program)(w:World)(g:Gx)(mg:za)(base:Heap)(N:zl)(qual:Str)(st:Stmt)(f:Addr)(k:Nat)(c:Cs):Prop:=∀a A outer s H E,RE (k+1) (A.deeper (envOfC qual (ag st) s.heap.objs.size f a))->Ctx (dQ (RT P w) P w g.K mg base N qual (ag st) f a A outer s H E) g (λ_=>E) k->QL (dQ (RT P w) P w g.K mg base N qual (ag st) f a A outer s H E) g (λ_=>E) (bh st) c
theorem Up.of{st:Stmt}(S:RM N e (ag st))(h:Up P w g mg base N qual st f k c):D7 P w g mg base N qual st f (k+1) c:=λa A outer s H E d=>(h a A outer s H E d (rfl,d,Passes.s IG,S.nd,rfl)).h
end
noncomputable def Rr{α:Type}(Φ:α->Prop):List α->Prop
 |[]=>True
 |p::r=>Φ p/\Rr Φ r
theorem Rr.look:∀{l:List (Str×β)},Rr Φ l->l.lookup x= ↑y->Φ (x,y)
 |[],_,e=>nomatch e
 | (k,b)::r,h,e=>by
  rw[Ot]at e
  cases q:x==k with
  |true=>rw[q]at e;cases e;rw[eq_of_beq q];exact h.1
  |false=>rw[q]at e;exact Rr.look h.2 e
theorem Rr.has [BEq α][LawfulBEq α]:∀{l:List α},Rr Φ l->l.contains x=true->Φ x
 |[],_,e=>nomatch e
 |k::r,h,e=>by
  rw[PR,QM]at e;rcases e with e|e
  ·rw[eq_of_beq e];exact h.1
  ·exact Rr.has h.2 e
section
mutual
theorem R.al(f:∀a {v},p a=true->R g H m a v->R g H i a v):∀(a:A){v:V},Vn p a=true->R g H m a v->R g H i a v
 | .tup j,_,d,⟨a,k,e,q,r⟩=>(a,k,e,q,Rs.al f j d r)
 | .Ro,_,d,h | .bl _,_,d,h | .int _,_,d,h | .str _,_,d,h | .ref _,_,d,h | .cl _,_,d,h | .tab _,_,d,h | .UY _,_,d,h | .U8 _,_,d,h | .SM,_,d,h | .any,_,d,h=>f _ d h
theorem Rs.al(i:∀a {v},p a=true->R g H m a v->R g H k a v):∀(f:List A){j:List V},SQ p f=true->Rs g H m f j->Rs g H k f j
 |[],_,_,h=>h
 |a::f,_,d,⟨v,r,e,h1,l⟩=>have d:=(Nt _ _).mp d;(v,r,e,R.al i a d.1 h1,Rs.al i f d.2 l)
end
theorem R.Tg(a:A)(d:EV.Tg a=true)(h:R g H m a v):R g H e a v:=by cases a<;>first|exact h|cases d
theorem R.dat(a:A)(d:aQ a=true)(h:R g H m a v):R g H e a v:=R.al (λa=>R.Tg a) a d h
theorem Rs.dat(e:List A)(d:ba e=true)(h:Rs g H m e f):Rs g H i e f:=Rs.al (λa=>R.Tg a) e d h
theorem vx:∀{as:List A},gG i as=true->A.ref j∈as->i≠j
 |x::as,h,hm,e=>by
  subst e;rcases NB.mp hm with rfl|hm
  ·unfold gG at h;rw[N2]at h;cases h
  ·refine vx (as:=as) ?_ hm rfl
   cases x with
   |ref k=>unfold gG at h;cases q:Nat.beq i k<;>rw[q]at h<;>first|exact h|cases h
   |_=>exact h
theorem FU(g:∀i,x≠⇑i)(h:fG S (x::d) k= ↑(Prod.mk (bs) f)):∃a,fG S d k= ↑(Prod.mk (a) f)/\bs=x::a/\aQ x=true:=by
 have h:gB (aQ x) (rO (fG S d k) λp=>↑(x::p.1,p.2))= ↑(Prod.mk (bs) f):=by cases x<;>first|exact h|exact absurd rfl (g _)
 let(q,h):=gB.of h;let(p,e,h):=rO.of h;cases h;exact(p.1,e,rfl,q)
theorem ph(s:Rz g m S H):∀{w:List A}{y:List V}{bs:List A}{p:List (Nat×C)}{k:Nat},Rs g H m w y->fG S w k= ↑(Prod.mk (bs) p) ->
  ∃l:List Addr,l.length=p.length/\l.Nodup/\(∀a∈l,∃j,A.ref j∈w/\m[j]?= ↑a) /\
   ∀pre:List Addr,pre.length=k->Rs g H (pre++l) bs y/\∀i c,look i p= ↑c->c.Yj=false/\∃a,(pre++l)[i]?= ↑a/\Vl g H (pre++l) c a
 |[],y,bs,p,k,r,h=>by cases h;exact([],rfl,List.nodup_nil,(λ_ h=>nomatch h),λpre _=>(r,(λ_ _ h=>nomatch h)))
 |x::w,y,bs,p,k,r,h=>by
  let(v,O,rfl,M,rs):=r;by_cases N:∃i,x= ⇑i
  ·let(i,rfl):=N;let(Q,T,h):=rO.of h;let(U,h):=gB.of h;let(Y,h):=gB.of h;let((E,cs'),q4,h):=rO.of h;cases h;let(l,G,I,z,B):=ph s rs q4;let(a,ws,J,L,rx):=RP.look s T;let(a',q,rfl):=M;rw[J]at q;cases q;have ex:∀pre:List Addr,pre++a::l=(pre++[a])++l:=λpre=>by simp
   refine(a::l,by simp[G],Oe.mpr (λhm=>?_,I),λb hb=>?_,λpre t=>?_)
   ·let(j,d,u):=z a hm;exact vx Y d (s.uniq J u)
   ·rcases NB.mp hb with rfl|hb
    ·exact(i,.head _,J)
    ·let(j,d,u):=z b hb;exact(j,.tail _ d,u)
   ·let(r1,r2):=B (pre++[a]) (by simp[t]);have f:(pre++a::l)[k]?= ↑a:=by rw[N5 ⋯];simp[t]
    rw[ex]at f ⊢;refine(.cons (R.ref f) r1,λj c d=>?_);rw[aB]at d;split at d
    ·cases d;exact(rfl,a,‹k=j›▸f,ws,L,Rs.dat Q U rx)
    ·exact r2 j c d
  ·let(E,h1,rfl,hd):=FU (λi e=>N (i,e)) h;let(l,G,I,z,B):=ph s rs h1;exact(l,G,I,λa L=>let⟨j,d,u⟩:=z a L;(j,.tail _ d,u),λpre t=>(.cons (R.dat x hd M) (B pre t).1,(B pre t).2))
theorem Ext.VT(x:Ext m S H f g d)(h:∀i c,look i S.cs= ↑c->c.Yj=false):Sk H d:=λa o e=>x.keep a o (λ⟨i,c,_,q,o⟩=>by rw[h i c q]at o;cases o) e
theorem AF(s:Rz g m S H)(r:Rs g H m N O)(h:Out g m S H (ax F N S) (An g Q) E):∃w y bs,Rz g w y H/\Rs g H w bs O/\Out g w y H (F bs y) (An g Q) E:=by
 let((bs,d),q,h):=h.rd;let(l,T,U,Y,l4):=ph s r q;let(rb,G):=l4 [] rfl;have sl:Rz g l (d.length,d) H:=(T,U,λa ha=>let⟨j,_,e⟩:=Y a ha;s.up a (Oq e),λi c h=>(G i c h).2)
 have f:∀i c,look i ((d.length,d):Rm).cs= ↑c->c.Yj=false:=λi c h=>(G i c h).1;refine(l,_,bs,sl,rb,?_);have h:Out g m S H (YE d.length S (F bs (d.length,d))) (An g Q) E:=h
 cases z:F bs (d.length,d)with
 |bad=>rw[z]at h;exact h
 |exc c S2 =>rw[z]at h;intro m2 B dx t I;let(u,p):=s.same (t.VT f);exact h m B dx p u
 |ok a S2 =>
  rw[z]at h;intro m2 B t I v J;let(u,p):=s.same (t.VT f);unfold YE at h;dsimp only at h;split at h
  ·exact h m B p u v (R.dat a ‹_› J)
  ·let((i,L),q,h):=h.rd;let(q1,h):=h.gd;let(q3,h):=h.gd;rw[b8]at h;let(a,ws,rfl,e,_,hv,rx):=T3.of I J q;let(k,rfl,hk):=t.pre;rw[N5 (by have:=NF q1;lia)]at e;have M:H a=none:=hk a (Oq e);have s4:=u.adopt (λz=>s.up a z M) (c:=.lst L) (ws,hv,Rs.dat L q3 rx)
   exact h _ _ ⟨([a],rfl,λb hb=>by rw[NI.mp hb];exact M),p.low,p.keep,λj c hj e o=>by
    rw[aB,NH (by rw[<- s.len];lia)]at e;exact(c,e,o)⟩ s4 _ (R.ref (by rw[<- s.len];simp))
theorem R.lowP{m:zz}(j:n=m.length)(a:A)(d:lowP n a=true)(h:R g H (m++k) a v):R g H m a v:=by
 cases a with
 |ref i=>let(a,e,q):=h;rw[N7 (j▸NF d)]at e;exact(a,e,q)
 |cl f=>let(a,l,e,q,r):=h;exact(a,l,e,q,Rs.dat f d r)
 |tup f=>cases d
 |_=>exact h
theorem R.low{m:zz}(e:n=m.length)(a:A)(d:oO n a=true)(h:R g H (m++k) a v):R g H m a v:=R.al (λa=>R.lowP e a) a d h
theorem Rs.low{m:zz}(f:n=m.length)(e:List A)(d:jQ n e=true)(h:Rs g H (m++k) e i):Rs g H m e i:=Rs.al (λa=>R.lowP f a) e d h
theorem Rf.low{m:zz}(a:n=m.length):∀{ks:List (Nat×A)}{e:List (Str×V)},vj n ks=true->Rf g H (m++k) ks e->Rf g H m ks e
 |_,_,_,.nil=>.nil
 | (_,x)::_,_,d,.cons h t=>have d:=(Nt _ _).mp d;.cons (h.1,R.low a x d.1 h.2) (Rf.low a d.2 t)
theorem Vl.low{m:zz}(i:n=m.length)(d:B8 n c=true)(h:Vl g H (m++k) c a):Vl g H m c a:=by
 cases c with
 |lst l|RK l=>let(f,e,r):=h;exact(f,e,Rs.low i l d r)
 |dct ks=>let(f,e,r):=h;exact(f,e,Rf.low i d r)
 |SH ks=>let(o,f,e,r):=h;exact(o,f,e,Rf.low i d r)
 |obj j fs=>let(p,f,e,r):=h;exact(p,f,e,Rf.low i d r)
theorem js:∀{a:List (Nat×C)},cP n a=true->look i a= ↑c->i<n->B8 n c=true
 | (j,d)::a,h,e,f=>by
  rw[aB]at e;let(h1,g):=(Nt _ _).mp h;split at e
  ·cases e;subst j;exact((QM _ _).mp h1).resolve_left λz=>by have:=NF z;lia
  ·exact js g e f
theorem Rz.leave(s:Rz g m S H)(x:Ext m S H m1 d f)(j:Rz g m1 d f)(h:cP S.nx d.cs=true):Rz g m (S.nx,old S.nx d.cs) f/\Ext m S H m (S.nx,old S.nx d.cs) f:=by let(k,rfl,hk):=x.pre;refine((s.len,s.nd,λa r=>j.up a (Oj _ r),λi c q=>?_),(([],by simp),x.low,x.keep,λi c t q o=>x.bk i c t (iX q).1 o));let(l,p):=iX q;let(a,e,ok):=j.cell i c l;rw[N7 (by rw[s.len];exact p)]at e;exact(a,e,ok.low s.len.symm (js h l p))
theorem tM(s:Rz g m S H)(h:Out g m S H (ie S.nx r) (An g Q) E):Out g m S H r (An g Q) E:=by
 unfold ie jZ at h
 cases r with
 |bad=>exact h
 |ok a l =>
  dsimp only at h;split at h
  ·split at h
   ·intro m1 e d f v p;let(i,j):=s.leave d f ‹_›;let(k,rfl,_):=d.pre;exact h m e j i v (R.low s.len.symm a ‹_› p)
   ·exact h
  ·exact h
 |exc c l =>
  dsimp only at h;split at h
  ·intro m1 e q d f;let(i,j):=s.leave d f ‹_›;exact h m e q j i
  ·exact h
theorem k9:∀{ρ:Env}{i:Nat}{a:A},eW n ρ=true->ρ[i]?= ↑(some a)->oO n a=true
 |none::t,i+1,_,h,e=>k9 (ρ:=t) (i:=i) h e
 |some b::_,0,_,h,e=>by cases e;exact((Nt _ _).mp h).1
 |some b::t,i+1,_,h,e=>k9 (ρ:=t) (i:=i) ((Nt _ _).mp h).2 e
theorem Re.low{m:zz}(j:n=m.length)(h:eW n d=true)(f:Re g H (m++k) d l):Re g H m d l:=(f.len,λi a e=>let⟨v,p,q⟩:=f.get i a e;(v,p,R.low j a (k9 h e) q))
theorem Re.kill:∀(e:List Nat){a:Env},Re g H m a f->Re g H m (kill e a) f
 |[],a,d=>d
 |i::e,a,d=>by
  unfold EV.kill;refine Re.kill e ?_;split
  ·exact d.any i ‹_›
  ·exact d
theorem BS{S:Rm}{D:Ends}(s:Rz g m S H)(h:RU g m S H (YF q S.nx r) D E):RU g m S H r D E:=by
 cases r with
 |bad=>exact h
 |exc c i t=>exact h
 |ok f t =>
  cases f with
  |rt a=>exact h
  |bk i=>exact h
  |nx i|ct i =>
   unfold YF jZ at h;dsimp only at h;rw[aL]at h;intro m1 j d e l u;have p:=Re.kill q u;split at h
   ·split at h
    ·let(v,w):=s.leave e l ‹_›;let(k,rfl,_):=e.pre;exact h m j d w v (Re.low s.len.symm ‹_› p)
    ·exact h m1 j d e l p
   ·exact h m1 j d e l p
theorem Rt.frame{g:Gx}(F:Rt P w g.K mg base a k f d e (R9 g G)):Rt P w g.K mg base a k f d e (R9 g (ax G)) :=
 F.imp λt H Q E ⟨m,S,u,s,r,h⟩=>let⟨i,j,bs,l,p,q⟩:=AF s r h;(i,j,bs,l,p,q)
theorem Rt.cut{g:Gx}(F:Rt P w g.K mg base a k f d e (R9 g G)):Rt P w g.K mg base a k f d e (R9 g (aM G)) :=
 F.imp λj H Q E ⟨m,S,i,s,r,h⟩=>(m,S,i,s,r,tM s h)
theorem q_G(h:Su X a (tS g E c)):Su X a (tS g E (sG f c)) :=
 ES h λD i H ⟨m,d,S,s,e,o⟩=>(m,d,S,s,e,BS s o)
theorem Tn.trans(a:Tn m H m1 f)(b:Tn m1 f m2 g):Tn m H m2 g:=(λi x e=>b.1 i x (a.1 i x e),λx o d h=>b.2 x o d (a.2 x o d h))
theorem qK(s:Rz g m S H)(q:∃ks,look i S.cs= ↑(.SH ks))(e:m[i]?= ↑a)(h:H a= ↑u)(x:Ext m S H m1 p d):d a= ↑u:=x.keep a _ (λ⟨j,c,f,k,l⟩=>by
  let(ks,q):=q;cases s.uniq f e;rw[k]at q;cases q;cases l) h
theorem yD(s:Rz g m S H)(q:look i S.cs= ↑(.dct ks))(e:m[i]?= ↑a)(U:H a= ↑(.dK d))(rk:Rf g H m ks d)
  (I:Rz g m (S.nx,put i (.SH ks) S.cs) (upd H a (.Th o (.dK d)))) (y:Ext m S H m (S.nx,put i (.SH ks) S.cs) (upd H a (.Th o (.dK d))))
  (l:Ext m (S.nx,put i (.SH ks) S.cs) (upd H a (.Th o (.dK d))) m1 t p) (v:Rz g m1 t p) :
  p a= ↑(.Th o (.dK d))/\Rz g m1 (t.nx,put i (.dct ks) t.cs) (upd p a (.dK d))/\Ext m S H m1 (t.nx,put i (.dct ks) t.cs) (upd p a (.dK d)):=by
 have h1:p a= ↑(.Th o (.dK d)):=qK I (ks,aq q) e ak l;have J:Tn m1 p m1 (upd p a (.dK d)):=.upd h1 rfl;have t1:=((y.stay s).trans (l.stay I)).trans J;have e1:m1[i]?= ↑a:=by let(k,rfl,_):=l.pre;exact cq e
 refine(h1,(v.len,v.nd,λb f=>?_,λj c r=>?_),(?_,λb f=>?_,λb u E f=>?_,λj c N r B=>?_))
 ·by_cases z:b=a
  ·rw[z,ak];exactλw=>nomatch w
  ·rw[ao z];exact v.up b f
 ·rcases cD r with⟨rfl,rfl,_⟩|⟨ne,r⟩
  ·exact(a,e1,d,ak,rk.stay t1)
  ·let(b,L,ok):=v.cell j c r;exact(b,L,ok.stay J λu O=>by rw[ao (λz=>ne (v.uniq (by rw[<- z];exact L) e1))];exact O)
 ·let(k,Q,hk):=l.pre;exact(k,Q,λb f=>y.low b (hk b f))
 ·by_cases z:b=a
  ·rw[z,ak]at f;cases f
  ·rw[ao z]at f;exact y.low b (l.low b f)
 ·rw[ao λ(z:b=a)=>E (i,_,z▸e,q,rfl)];refine l.keep b u (λ⟨j,c,T,G,B⟩=>E ?_) (y.keep b u E f);rcases cD G with⟨rfl,rfl,_⟩|⟨_,G⟩
  ·cases B
  ·exact(j,c,T,G,B)
 ·rcases cD r with⟨rfl,rfl,_⟩|⟨_,r⟩
  ·exact(_,q,rfl)
  ·let(c0,h0,M):=l.bk j c N r B;rcases cD h0 with⟨rfl,rfl,_⟩|⟨_,h0⟩
   ·cases M
   ·exact(c0,h0,M)
theorem yZ:∀{ks:List (Nat×A)}{a:List β}{i:Nat}{p:Nat×A},Paired T ks a->ks[i]?= ↑p->∃q,a[i]?= ↑q/\T p q
 |_,_,0,_,.cons h t,e=>by simp at e;subst e;exact(_,rfl,h)
 |_,_,i+1,_,.cons h t,e=>by simpa using yZ (i:=i) t (by simpa using e)
theorem WQ.of(s:Rz g m S H)(r:R g H m x v)(h:WQ S x= ↑(Prod.mk (i) ks)):∃a o d,v= ⇑a/\H a= ↑(.Th o (.dK d))/\Rf g H m ks d/\∀m1 k f,Ext m S H m1 k f->f a= ↑(.Th o (.dK d)):=by
 unfold WQ at h;split at h
 ·split at h<;>cases h;let(a,e,o,gs,j,l):=s.cell _ _ ‹_›;let(q,p,rfl):=r;cases e.symm.trans p;exact(a,o,gs,rfl,j,l,λ_ _ _ x=>qK s (_,‹_›) e j x)
 ·cases h
theorem IS(h:PE X e (tE g E c)):PE X e (tE g E (kA d c)):=SV (F1 h) λG H Q ⟨m,j,S,s,t,h⟩=>by
 unfold kA at h;split at h
 ·rename_i i _ _;split at h
  ·rename_i ks q;let(a,k,f,l,rk):=s.cell i _ q;refine(a,f,l,λo=>?_);rw[bW]at h;let(p,r):=s.write (c:=.SH ks) (o:=.Th o (.dK f)) k q rfl λx=>(o,f,ak,rk.mono x s)
   refine(m,j,_,p,t.mono r s,?_);split at h
   ·rw[‹c j _=_›];rw[bW]at h;intro m1 I u w v y;let(h1,z,B):=yD s q k l rk p r u w;exact(h1,h m1 _ B z v (R.stay (.upd h1 rfl) _ y))
   ·exact h.elim
  ·exact h.elim
 ·exact h.elim
theorem C2(d:PE X a (tE g E ca)):PI X m a (tI g E (f9 ca)) :=
 Xp (CH d) λG H I h=>un h λ_ _ _ _ _ _ s _ r h=>by let((i,ks),q,h):=h.rd;let(a,o,e,rfl,d,rk,st):=WQ.of s r q;refine(a,o,e,rfl,d,Out.ret (a:=Prod.mk (ks.map λp=>A.str p.1) []) h s _ λm2 J L t u=>?_);have k:=st _ _ _ t;refine(λj y hy=>?_,k,by rw[Rf.length rk];simp);let(p,w,rfl):=N1.mp (NQ.symm.trans hy);let(M,l,ex,_):=yZ rk w;refine((k,(LD.mp l).1),λv N ⟨e3,z,f,B⟩=>?_);subst e3 B;cases l.symm.trans f;exact(Ext.refl,u,R.str ex)
theorem C3{k:Pos}{d:Pos}(l:PE X a (tE g E ca))(e:attributeBase a "values" X.env (eval a X.env)=eval a X.env)(f:(d.endLine==k.line)=true):PI X B (.Call (.Attribute a "values" d) [] [] k) (tI g E (kY ca)) :=
 Xp (CK l e f) λN H O h=>un h λ_ _ _ _ _ _ s _ r h=>by let((i,ks),q,h):=h.rd;let(a,o,m,rfl,l,rk,st):=WQ.of s r q;refine(a,o,m,rfl,l,Out.ret (a:=Prod.mk (ks.map λp=>p.2) []) h s _ λm2 Q T u G=>?_);have w:=st _ _ _ u;refine(λj y hy=>?_,w,by rw[Rf.length rk];simp);let(p,I,rfl):=N1.mp (NQ.symm.trans hy);let(U,z,_,J):=yZ (rk.mono u s) I;refine((w,(LD.mp z).1),λv Y ⟨e3,L,t,M⟩=>?_);subst e3 M;cases z.symm.trans t;exact(Ext.refl,G,J)
end
noncomputable def XF(g:Gx)(a:List Nat):Prop:=∀i∈a,∀j∈a,∀x y,g.ST[i]?= ↑x->g.ST[j]?= ↑y->ltCps y.cps.toList x.cps.toList=false->i<=j
theorem Uq:∀{l:List Nat},(tq n l).Perm (n::l)
 |[]=>.refl _
 |k::l=>by
  unfold tq
  cases Nat.ble n k with
  |true=>exact .refl _
  |false=>exact(Uq.cons k).trans (.swap n k l)
theorem Tw:∀{l:List Nat},(e9 l).Perm l
 |[]=>.refl _
 |n::l=>Uq.trans (Tw.cons n)
theorem yQ:∀{l:List Nat},l.Pairwise (·<=·)->(tq n l).Pairwise (·<=·)
 |[],_=>by simp[tq]
 |k::l,h=>by
  let(h1,d):=PU.mp h;unfold tq
  cases q:Nat.ble n k with
  |true =>have:=NF q;exact PU.mpr (λj a=>(NB.mp a).elim (λe=>e▸this) λa=>N4 this (h1 j a),h)
  |false =>
   have:k<=n:=by
    rcases Nat.lt_or_ge k n with z|z
    ·exact O9 z
    ·rw[NP z]at q;cases q
   exact PU.mpr (λj a=>(NB.mp (Uq.mem_iff.mp a)).elim (λe=>e▸this) (h1 j),yQ d)
theorem pP:∀{l:List Nat},(e9 l).Pairwise (·<=·)
 |[]=>.nil
 |n::l=>yQ pP
theorem IJ:∀{a b:List β},a.Perm b->∀{l:List α},Paired T l b->∃d:List α,d.Perm l/\Paired T d a:=by
 intro a b h
 induction h with
 |nil=>intro l p;exact(l,.refl _,p)
 |cons x _ f=>intro l p;cases p with|cons h t=>let(d,h1,e):=f t;exact(_,h1.cons _,.cons h e)
 |swap x y r=>intro l p;cases p with|cons h t=>cases t with|cons g t=>exact(_,.swap _ _ _,.cons g (.cons h t))
 |trans _ _ i j=>intro l p;let(u,h1,e):=j p;let(k,m,q):=i e;exact(k,m.trans h1,q)
section
theorem vI(o:XF g f):∀{l:List Nat}{ss:zl}{i:Nat}{x:Str},Paired (λ(n:Nat)(x:Str)=>g.ST[n]?= ↑x) l ss->(∀n∈l,n∈f)->g.ST[i]?= ↑x->i∈f->risingS x ss=true->(i::l).Pairwise (·<=·)
 |[],_,i,x,.nil,_,_,_,_=>by simp
 |n::l,_,i,x,.cons (b:=y) h t,a,m,p,r=>by unfold risingS at r;rw[Nt,OV]at r;have k:=vI o t (λn q=>a n (.tail _ q)) h (a n (.head _)) r.2;have le:=o i p n (a n (.head _)) x y m h r.1;exact PU.mpr (λj d=>(NB.mp d).elim (λe=>e▸le) λd=>N4 le ((PU.mp k).1 j d),k)
theorem lB:∀{l:List Nat},aG n l=true->n∈l
 |k::l,h=>by
  unfold aG at h;split at h
  ·rw[NJ ‹Nat.beq k n=true›];exact .head _
  ·exact .tail _ (lB h)
theorem xI(h:mI a l=true):∀n∈l,n∈a:=λn d=>lB (NX.mp h n d)
theorem vK{g:Gx}:∀{l:List Nat}{ss:zl},Paired (λ(n:Nat)(x:Str)=>g.ST[n]?= ↑x) l ss->Rs g H m (l.map A.str) (ss.map V.str)
 |_,_,.nil=>.nil
 |_,_,.cons h t=>.cons (R.str h) (vK t)
theorem Am:∀{a:List α}{b:List β},Paired T a b->b.length=a.length
 |_,_,.nil=>rfl
 |_,_,.cons _ t=>by simp[Am t]
theorem vL(o:XF g j)(s:Rz g m S H)(p:Paired (λ(n:Nat)(x:Str)=>g.ST[n]?= ↑x) l e)(h:Out g m S H (AQ j l S) (An g Q) E):e.length<64/\∀a d,H a=none->d.Perm e->sortedS d=true->Q ⇑a (upd H a (.lst (d.map V.str))):=by
 let(k,h):=h.gd;let(q,h):=h.gd;rw[aL,b8]at h;have:=da q;refine(by rw[Am p];lia,λa d r v hs=>?_);let(w,h1,f):=IJ v p;have i:=xI k
 have u:w.Pairwise (·<=·):=by
  cases f with
  |nil=>exact .nil
  |cons h t=>exact vI o t (λn z=>i n (h1.mem_iff.mp (.tail _ z))) h (i _ (h1.mem_iff.mp (.head _))) hs
 cases List.Perm.eq_of_pairwise (λx y _ _ a b=>Nat.le_antisymm a b) u pP (h1.trans Tw.symm);let(B,G):=s.alloc (c:=.lst ((e9 l).map A.str)) (o:=.lst (d.map V.str)) r λx=>(_,ak,vK f)
 exact h _ _ G B _ (R.ref (by rw[<- s.len];simp))
theorem FI(o:XF g f):TX g (λv H Q=>∃a ss,[v]=[V.ref a]/\RP g.K H a (ss.map V.str)/\ss.length<64/\∀l d,H l=none->d.Perm ss->sortedS d=true->Q ⇑l (upd H l (.lst (d.map V.str)))) (xB f):=λm S H x v Q E s i h =>
 let⟨_,q,h⟩:=h.rd;let⟨_,j,h⟩:=h.rd;let⟨p,_,e,sq,r⟩:=Rv.of s i q;let⟨k,t,u⟩:=strsOf.of r j;let⟨h1,w⟩:=vL o s u h;(p,k,e▸rfl,t▸sq.Uh,h1,w)
theorem vJ:∀{ks:List (Nat×A)}{a:List (Str×V)},Rf g H m ks a->Paired (λ(n:Nat)(x:Str)=>g.ST[n]?= ↑x) (ks.map (·.1)) (a.map (·.1))
 |_,_,.nil=>.nil
 |_,_,.cons h t=>.cons h.1 (vJ t)
theorem Cv(o:XF g f):TX g (λv H Q=>∃a d,[v]=[V.ref a]/\Rd H a (.dK d)/\d.length<64/\∀l e,H l=none->e.Perm (d.map (·.1))->sortedS e=true->Q ⇑l (upd H l (.lst (e.map V.str)))) (nE f):=λm S H x v Q E s i h =>
 let⟨⟨_,_⟩,q,h⟩:=h.rd;let⟨a,d,j,_,_,k,rk⟩:=Vm.of s i q;let⟨h1,p⟩:=vL o s (vJ rk) h;(a,d,j▸rfl,.inl k,by rwa [NC]at h1,p)
theorem vq:∀{l:zb}{i:Int},oV l= ↑i->i∈l/\∀a∈l,i<=a
 |[k],i,h=>by cases h;simp
 |k::b::l,i,h=>by
  unfold oV at h;split at h
  ·cases h;let(h1,f):=vq ‹_›;have:=oN k ‹_›;split<;>rename_i z<;>rw[z]at this
   ·have:=NT this.symm;exact(.head _,λa d=>(NB.mp d).elim (λe=>e▸Int.le_refl _) λd=>Int.le_trans this (f a d))
   ·have:=of_decide_eq_false this.symm;exact(.tail _ h1,λa d=>(NB.mp d).elim (λe=>by rw[e];lia) (f a))
  ·rename_i q;unfold oV at q;split at q<;>cases q
theorem Fy:TX g (λv H Q=>Ju g.K [v] H Q) A6:=λm S H x v Q E s a h=>by let(j,q,h):=h.rd;let(l,d,h):=h.rd;let(i,e,h):=h.rd;let(p,k,rfl,sq,r):=Rv.of s a q;cases intsOf.of r d;let(m1,m2):=vq e;refine(p,l,rfl,sq.Uh,List.length_pos_of_mem m1,λM f lo=>?_);rw[show M=i from Int.le_antisymm (lo i m1) (m2 M f)];exact Out.int h s
theorem Jb{X:Cx}{g:Gx}(U:X.K=g.K)(w:PE X o (tE g E co))
  (d:∀ov e new,augStore (.Constant (.int (.ofNat k)) B G) ov e new=(do holding [new,ov,e] (setItem ov e new);release [new,ov,e] [];pure .next)) :
  PS X (.AugAssign (.Subscript o (.Constant (.int (.ofNat k)) B G) j) .Sub (.Constant (.int q) Y pq) I) (tS g E (AJ co k q)) :=
 U0 (vC w a9 qN a9 EU i7 d) λD σ H h=>YH h λm _ _ _ _ _ s J r h=>by
  let((i,p),L,h):=h.rd;let(y,M,h):=h.rd;let(z,N,h):=h.rd;rw[yy,aL,bW]at h;let(a,f,rfl,O,l,d,r):=T3.of s r L;let(v,t,Q):=r.get M;cases SD.of Q N;have hk:=(LD.mp t).1;refine(a,f,k,_,rfl,rfl,⋯,.inl (.inl d),by simpa using t,z,q,rfl,rfl,a,f,k,k,rfl,rfl,d,?_,?_)
  ·unfold Vz;first | (rw[NL ⋯];simp;lia) | (simp;lia)
  ·let(T,u):=s.write (c:=.lst (p.set k (.int (z - q)))) (o:=.lst (f.set k (.int (z - q)))) O l rfl λx=>(_,ak,(Rs.mono x s p r).set (R.int _) k)
   exact h m _ _ u T (J.mono u s)
theorem D3(h:QE X g E e a):QE X g E e (kA d a):=(IS h.h,h.pl)
theorem mO:bootBuiltins "sorted"= ↑(.builtin "sorted"):=by kernel_rfl
theorem Eo:bootBuiltins "min"= ↑(.builtin "min"):=by kernel_rfl
theorem J7{X:Cx}{call:RC}(o:XF g d)(e:Ctx X g E j)(f:QE X g E a ca)(F:FX X g j call t)(h:t.bl.contains "sorted"=true)(i:Vp X "sorted"):QE X g E (.Call (.Name "sorted" p) [a] [] k) (cU (xB d) ca):=DC nS (e.K▸FI o) mO f F h i
theorem Hj{X:Cx}{call:RC}(o:XF g d)(e:Ctx X g E j)(f:QE X g E a ca)(F:FX X g j call t)(h:t.bl.contains "sorted"=true)(i:Vp X "sorted"):QE X g E (.Call (.Name "sorted" p) [a] [] k) (cU (nE d) ca):=DC (nR e.calm) (Cv o) mO f F h i
theorem J4{X:Cx}{call:RC}(e:QE X g E a ca)(d:Ctx X g E j)(F:FX X g j call t)(h:t.bl.contains "min"=true)(f:Vp X "min"):QE X g E (.Call (.Name "min" p) [a] [] i) (cU A6 ca):=DC (v9 d.calm) (d.K▸Fy) Eo e F h f
end
end EV
namespace My
open PySem L2 EV PyProof.Rows
noncomputable def bF:List (Nat×EV.A):=[(6,.int (.ofNat 9999)),(7,.int (.ofNat 3))]
noncomputable def a6:List (Nat×EV.A):=[(4,.int (.ofNat 2)),(5,.int (.ofNat 2)),(53,.int (.ofNat 2)),(3,.int (.ofNat 2)),(8,.int (.ofNat 3))]
noncomputable def Rx:List (Nat×EV.A):=[(35,.int (.ofNat 2)),(34,.int (.ofNat 3)),(37,.int (.ofNat 2))]
noncomputable def bO:List (Nat×EV.A):=[(38,.str 34),(39,.str 34),(7,.str 37)]
noncomputable def bx:List (Nat×EV.A):=[(25,.int (.ofNat 3)),(16,.int (.ofNat 9)),(18,.int (.ofNat 9))]
noncomputable abbrev aU:EV.A:=.tup [.tup [.str 30,.int (.ofNat 0)],.tup [.str 22,.int (.ofNat 1)],.tup [.str 23,.int (.ofNat 2)],.tup [.str 25,.int (.ofNat 1)],.tup [.str 4,.int (.ofNat 0)],.tup [.str 5,.int (.ofNat 0)],.tup [.str 53,.int (.ofNat 0)],.tup [.str 3,.int (.ofNat 0)],.tup [.str 16,.int (.ofNat 1)],.tup [.str 17,.int (.ofNat 2)],.tup [.str 18,.int (.ofNat 1)],.tup [.str 19,.int (.ofNat 2)],.tup [.str 26,.int (.ofNat 1)],.tup [.str 27,.int (.ofNat 0)],.tup [.str 28,.int (.ofNat 0)],.tup [.str 21,.int (.ofNat 2)],.tup [.str 69,.int (.ofNat 0)]]
noncomputable abbrev kB:EV.A:=.tup [.str 22,.str 23,.str 25,.str 4,.str 5,.str 53,.str 3,.str 26,.str 27,.str 28]
noncomputable abbrev uH:EV.A:=.tup [.int (.ofNat 10),.int (.ofNat 11)]
noncomputable abbrev qk:EV.A:=.tup [.int (.ofNat 8),.int (.ofNat 9)]
noncomputable abbrev sP:EV.A:=.tup [.str 16,.str 17,.str 18,.str 19,.str 21,.str 69]
noncomputable abbrev iz:EV.A:=.tup [.int (.ofNat 0),.int (.ofNat 1),.int (.ofNat 2),.int (.ofNat 99),.int (.ofNat 100),.int (.ofNat 9999)]
noncomputable abbrev Mn:EV.A:=.cl [.tup [.str 70,.tup [.str 34,.int (.ofNat 0),.int (.ofNat 99)],.tup [.int (.ofNat 1),.tup [.str 38,.int (.ofNat 0)]]],.tup [.str 71,.tup [.str 34,.int (.ofNat 0),.int (.ofNat 9999)],.tup [.int (.ofNat 2),.tup [.str 38,.int (.ofNat 0)],.tup [.str 39,.int (.ofNat 0)]]],.tup [.str 37,.tup [.str 37,.int (.ofNat 0)],.tup [.int (.ofNat 3),.tup [.str 7,.int (.ofNat 0)]]],.tup [.str 4,.tup [.str 4,.tup [.str 35,.int (.ofNat 0)],.tup [.str 35,.int (.ofNat 1)]],.tup [.int (.ofNat 4)]],.tup [.str 5,.tup [.str 5,.tup [.str 35,.int (.ofNat 0)],.tup [.str 35,.int (.ofNat 1)]],.tup [.int (.ofNat 5)]],.tup [.str 53,.tup [.str 53,.tup [.str 35,.int (.ofNat 0)],.tup [.str 35,.int (.ofNat 1)]],.tup [.int (.ofNat 6)]],.tup [.str 3,.tup [.str 3,.tup [.str 35,.int (.ofNat 0)],.tup [.str 35,.int (.ofNat 1)]],.tup [.int (.ofNat 7)]],.tup [.str 26,.tup [.str 4,.tup [.str 35,.int (.ofNat 0)],.tup [.str 34,.int (.ofNat 0),.int (.ofNat 99)]],.tup [.int (.ofNat 12),.tup [.str 38,.int (.ofNat 0)]]]]
noncomputable abbrev ST:List Str:=[("f":Str),("g":Str),("h":Str),("less":Str),("add":Str),("sub":Str),("num":Str),("arg":Str),("pick":Str),("cells":Str),("given":Str),("size":Str),("pile":Str),("place":Str),("kept":Str),("ended":Str),("skip":Str),("jump":Str),("zero":Str),("none":Str),("take":Str),("call":Str),("put":Str),("far":Str),("push":Str),("load":Str),("more":Str),("twice":Str),("about":Str),("way":Str),("end":Str),("finish":Str),("change":Str),("step":Str),("gap":Str),("hole":Str),("a set is a list of 1 to 16 pieces with unlike names":Str),("slot":Str),("low":Str),("high":Str),("the pieces do not cover this tree":Str),("ready":Str),("orders":Str),("nothing was laid by this name":Str),("has_piece":Str),("a piece has this name already":Str),("a set has no more than 16 pieces":Str),("no piece has this name":Str),("a set has at least one piece":Str),("a name is a text of 1 to 8 letters a to z":Str),("order":Str),("code":Str),("is_stale":Str),("mul":Str),("inc":Str),("both":Str),("twofold":Str),("fewer":Str),("addmul":Str),("turned":Str),("pair":Str),("pieces":Str),("total":Str),("tree":Str),("run":Str),("stale":Str),("drop":Str),("lay":Str),("refused":Str),("back":Str),("one":Str),("two":Str)]
noncomputable def fZ{α:Type}(a b:Nat)(z d bs:List α):List α:=match Nat.beq d.length a,Nat.beq bs.length b with
 |true,true=>d++bs++z
 |_,_=>[]
noncomputable def kS:List EV.A->List EV.A->List EV.A:=fZ 1 1 []
noncomputable def yE:List EV.A->List EV.A->List EV.A:=fZ 2 1 [.int (.ofNat 1000)]
noncomputable def eG:List EV.A->List EV.A->List EV.A:=fZ 3 1 []
noncomputable def kI(P:RC):RJ:=av 3 3 (ah (UZ (cU (V9 2) 1.0) (UZ (cNt (cU (V9 1) 1.0)) (WU 1.1 1.0 1.2))))
noncomputable def qy(P:RC):RJ:=av 1 1 (ah (UZ (cU (V9 4) 1.0) (UZ (cO Xn (cU aX 1.0) 2.0) (cU (V9 3) (cO Rp 1.0 2.0)))))
noncomputable def L8(P:RC):RJ:=av 2 2 (Rw (Sn (tV (ae (P 0) %[1.0,2.2,1.1|0]))) eA Ry)
noncomputable def jI(P:RC):RJ:=av 2 2 (sq (Rw (Tf (Sn (tV (cU (V9 4) 1.0))) (Rq (cO R5 (cU aX 1.0) 2.4))) eA Ry) (Rw (Sn (tV (cU j8 (ay (iT 1.0) 1 [1] 4.0 tT (ae (P 0) %[1.0,2.0,(cO ij 1.1 2.1)|0]))))) eA Ry))
noncomputable def mT(P:RC):RJ:=av 1 2 (sq (Rw (Sn (tV (ae (P 1) %[1.0|0]))) (ah (cC (.bl false))) Ry) (sq (aw 1 (cO Rp 1.0 2.0)) (sq (Rw (Rq (sO bF 1.1)) (ah (UZ (cO oEq (cU aX 1.0) 2.2) (ae (P 0) %[(cO Rp 1.0 2.1),2.0,(vZ bF 1.1)|0]))) Ry) (ah (UZ (sO a6 1.1) (cO oEq (cU aX 1.0) (cO bg 2.1 (vZ a6 1.1))))))))
noncomputable def kK(P:RC):RJ:=av 1 1 (sq (Rw (Rq (sO a6 (cO Rp 1.0 2.0))) (ah (cO ux 1.0 2.1)) Ry) (ah (au aN)))
noncomputable abbrev gE(P:RC):Cs:=(sG [] (sq (dJ (gT [4.3,4.4]) (cU lg 1.1)) (sq (Dk 2 2.1) (sq (Rw (Tf (Rq (cO Xn 1.2 2.40)) (Tf (Rq (cO Xn 1.4 2.8)) (Sn (tV (ae (P 4) %[1.3|0]))))) (ah (cC (.bl false))) Ry) (RX (cM oU 1.1 (ay (iT (ae (P 5) %[1.3|0])) 1 [4] 4.0 tT (au %[1.0,(cO bg 1.1 2.1)|0]))))))))
noncomputable def mU(P:RC):RJ:=av 1 5 (sq (aw 1 (bf %[(au %[1.0,2.1|0])|0])) (sq (aw 2 2.0) (sq (AL (tV 1.1) (gE P)) (ah (cC (.bl true))))))
noncomputable def jK(P:RC):RJ:=av 1 1 (Rw (Sn (tV (ae (P 6) %[1.0|0]))) eA Ry)
noncomputable def dF(P:RC):RJ:=av 4 4 (sq (Rw (Rq (cO oEq 1.0 3.3)) (ah (T4 (Rq (cO oLt 1.1 1.2)) 2.1 2.0)) Ry) (sq (Rw (Rq (cO oEq 1.0 3.4)) (ah (cO iV (cO bg 1.1 1.2) 1.3)) Ry) (sq (Rw (Rq (cO oEq 1.0 3.5)) (ah (cO iV (cO ij 1.1 1.2) 1.3)) Ry) (ah (cO iV (cO tY 1.1 1.2) 1.3)))))
noncomputable def sV(P:RC):RJ:=av 3 5 (sq (aw 3 (cO Rp 1.0 2.0)) (sq (Rw (Rq (cO oEq 1.3 3.6)) (ah (cO iV (cO Rp 1.0 2.1) 1.2)) Ry) (sq (Rw (Rq (cO oEq 1.3 3.7)) (ah (cO Rp 1.1 (cO Rp 1.0 2.1))) Ry) (sq (aw 4 (ae (P 9) %[(cO Rp 1.0 2.1),1.1,1.2|0])) (sq (Rw (Rq (cO oEq 1.3 3.8)) (ah (ae (P 9) %[(T4 (Rq (cO oEq 1.4 2.0)) (cO Rp 1.0 2.3) (cO Rp 1.0 2.2)),1.1,1.2|0])) Ry) (ah (ae (P 8) %[1.3,1.4,(ae (P 9) %[(cO Rp 1.0 2.2),1.1,1.2|0]),1.2|0])))))))
noncomputable abbrev su(P:RC):Cs:=(sG [] (RX (cM oU 1.1 (ae (P 10) %[1.2|0]))))
noncomputable def qz(P:RC):RJ:=av 1 3 (sq (aw 1 (bf %[1.0|0])) (sq (dI (iT (ae (P 5) %[1.0|0])) 4.2 (su P)) (ah 1.1)))
noncomputable def mS(P:RC):RJ:=av 1 1 (sq (Rw (Tf (Sn (tV (cU (V9 5) 1.0))) (Sn (Rq (WU 2.1 (cU aX 1.0) 2.1000)))) (ah (cC (.bl false))) Ry) (ah (cU j8 (ay (iL 1.0) 1 [] 4.0 tT (ae (P 0) %[1.0,2.0,2.99|0])))))
noncomputable def jJ(P:RC):RJ:=av 1 1 (Rw (Sn (tV (ae (P 11) %[1.0|0]))) eA Ry)
noncomputable def cY(P:RC):RJ:=av 2 5 (sq (Rw (Tf (Rq (cO YD 1.1 (cU aX 1.0))) (Rq (cO YD (cO Rp 1.0 1.1) (cU aX (cC aU))))) eA Ry) (sq (dJ (gT [4.2,4.3]) (cO Rp (cC aU) (cO Rp 1.0 1.1))) (sq (aw 4 (cU ir (Zo 1.0 (cO bg 1.1 2.1) (cO bg (cO bg 1.1 2.1) 1.3)))) (sq (Rw (Rq (cO oLt (cU aX 1.4) 1.3)) eA Ry) (ah (au %[1.2,1.4|0]))))))
noncomputable abbrev mG(P:RC):Cs:=(aw 1 (cO bg (cO tY 1.1 2.100) 1.2))
noncomputable def b6(P:RC):RJ:=av 1 3 (sq (aw 1 2.0) (sq (dI (ER 1.0) 4.2 (mG P)) (ah 1.1)))
noncomputable def LV(P:RC):RJ:=av 5 5 (sq (fI 0 9 1.0 1.1) (sq (fI 0 10 1.0 1.2) (sq (fI 0 11 1.0 1.3) (sq (fI 0 12 1.0 (cU pS 1.4)) (sq (fI 0 13 1.0 2.0) (sq (fI 0 14 1.0 (bf aN)) (fI 0 15 1.0 (cC (.bl false)))))))))
noncomputable def dS(P:RC):RJ:=av 1 1 (sq (Rw (Sn (tV (bc 0 12 1.0))) eA Ry) (ah (cU lg (bc 0 12 1.0))))
noncomputable def dR(P:RC):RJ:=av 2 2 (sq (Rw (Rq (cO oEq (cU aX (bc 0 12 1.0)) 2.64)) eA Ry) (RX (cM dB (bc 0 12 1.0) (cO iV 1.1 (bc 0 11 1.0)))))
noncomputable def bZ(P:RC):RJ:=av 4 4 (sq (Rw (Rq (cO UQ 1.1 (au %[3.16,3.17|0]))) (ah (cO bg 1.3 1.2)) Ry) (sq (Rw (Rq (cO UQ 1.1 (au %[3.18,3.19|0]))) (ah (T4 (Rq (cO oEq (aJ 0 20 (P 16) 1.0 aN) 2.0)) (cO bg 1.3 1.2) 1.3)) Ry) (sq (Rw (Rq (cO oEq 1.1 3.21)) (sq (Rw (Rq (cO oEq (cU aX (bc 0 14 1.0)) 2.16)) eA Ry) (sq (RX (cM dB (bc 0 14 1.0) 1.3)) (ah 1.2))) Ry) (sq (Rw (Sn (tV (bc 0 14 1.0))) eA Ry) (ah (cU lg (bc 0 14 1.0)))))))
noncomputable def cQ(P:RC):RJ:=av 1 1 (sq (Rw (Rq (cO R5 (cU aX (bc 0 12 1.0)) 2.1)) eA Ry) (fI 0 15 1.0 (cC (.bl true))))
noncomputable def aK(P:RC):RJ:=av 3 5 (sq (Rw (Rq (cO UQ 1.1 (au %[3.22,3.23|0]))) (sq (RX (aJ 0 24 (P 17) 1.0 %[1.2|0])) Dm) Ry) (sq (Rw (Rq (cO oEq 1.1 3.25)) (sq (RX (aJ 0 24 (P 17) 1.0 %[(cO Rp (bc 0 10 1.0) 1.2)|0])) Dm) Ry) (sq (aw 3 (aJ 0 20 (P 16) 1.0 aN)) (Rw (Rq (cO oEq 1.1 3.26)) (RX (aJ 0 24 (P 17) 1.0 %[(cO bg 1.3 1.2)|0])) (Rw (Rq (cO oEq 1.1 3.27)) (sq (RX (aJ 0 24 (P 17) 1.0 %[1.3|0])) (RX (aJ 0 24 (P 17) 1.0 %[1.3|0]))) (Rw (Rq (cO oEq 1.1 3.28)) (sq (aw 4 (aJ 0 20 (P 16) 1.0 aN)) (sq (RX (aJ 0 24 (P 17) 1.0 %[1.3|0])) (RX (aJ 0 24 (P 17) 1.0 %[1.4|0])))) (RX (aJ 0 24 (P 17) 1.0 %[(ae (P 8) %[1.1,(aJ 0 20 (P 16) 1.0 aN),1.3,(bc 0 11 1.0)|0])|0]))))))))
noncomputable def bU(P:RC):RJ:=av 1 5 (sq (dJ (gT [4.1,4.2]) (ae (P 13) %[(bc 0 9 1.0),(bc 0 13 1.0)|0])) (sq (aw 3 (ae (P 14) %[1.2|0])) (sq (Rw (Rq (cO Xn 1.3 (mP bx 1.1 1.3))) eA Ry) (sq (aw 4 (cO bg (cO bg (bc 0 13 1.0) 2.1) (cU aX 1.2))) (sq (Rw (Rq (cO UQ 1.1 (cC sP))) (aw 4 (aJ 0 29 (P 18) 1.0 %[1.1,1.3,1.4|0])) (Rw (Rq (cO oEq 1.1 3.30)) (RX (aJ 0 31 (P 19) 1.0 aN)) (RX (aJ 0 32 (P 20) 1.0 %[1.1,1.3|0])))) (fI 0 13 1.0 1.4))))))
noncomputable def mW(P:RC):RJ:=av 4 4 (sq (RX (ae (P 12) %[1.0|0])) (sq (RX (sM (P 2) [.int (.ofNat 10000)] %[1.2|0])) (sq (RX (ae (P 3) %[1.1,1.2|0])) (sq (Rw (Sn (tV (ae (P 0) %[1.3,2.1,2.100000|0]))) eA Ry) (ah (gJ 0 (P 15) [] %[1.0,1.1,1.2,(bf aN)|0]))))))
noncomputable abbrev D6(P:RC):Cs:=(sq (RX (aJ 0 33 (P 21) 1.4 aN)) (Rw (tV (bc 0 15 1.4)) (ah (cO Rp (bc 0 12 1.4) 2.0)) Ry))
noncomputable def MO(P:RC):RJ:=av 4 6 (sq (aw 4 (ae (P 22) %[1.0,1.1,1.2,1.3|0])) (sq (dI (mx 1.3) 4.5 (D6 P)) eA))
noncomputable def wo(P:RC):RJ:=av 1 1 (sq (Rw (Tf (Sn (tV (ae (P 1) %[1.0|0]))) (Rq (cO R5 (cU aX 1.0) (Hu Rx (cO Rp 1.0 2.0) (.ofNat 0))))) (ah (cC (.bl false))) Ry) (sq (Rw (Sn (tV (ae (P 0) %[(cO Rp 1.0 2.1),2.0,2.1|0]))) (ah (cC (.bl false))) Ry) (ah (Zn (cO R5 (cO Rp 1.0 2.0) 3.34) (ae (P 0) %[(cO Rp 1.0 2.2),2.0,2.9999|0])))))
noncomputable def iB(P:RC):RJ:=av 2 2 (sq (Rw (Rq (cO Xn 1.1 2.3)) (ah (cC (.bl false))) Ry) (sq (Rw (tV (ae (P 24) %[1.0|0])) (ah (cC (.bl true))) Ry) (sq (Rw (Tf (Sn (tV (ae (P 4) %[1.0|0]))) (Rq (cO UQ (cO Rp 1.0 2.0) (au %[3.7,3.8|0])))) (ah (cC (.bl false))) Ry) (ah (cU j8 (ay (iT (ae (P 5) %[1.0|0])) 1 [1] 4.0 tT (ae (P 25) %[1.0,(cO bg 1.1 2.1)|0])))))))
noncomputable def sU(P:RC):RJ:=av 2 4 (sq (Rw (Rq (cO oEq (cO Rp 1.0 2.0) 1.1)) (ah (bf %[1.0|0])) Ry) (sq (aw 2 (bf aN)) (sq (dI (iT (ae (P 5) %[1.0|0])) 4.3 (RX (cM oU 1.2 (ae (P 26) %[1.3,1.1|0])))) (ah 1.2))))
noncomputable def mq(P:RC):RJ:=av 2 3 (sq (aw 2 (ay (iL (ae (P 26) %[1.0,1.1|0])) 1 [] 4.0 tT (cO Rp 1.0 2.1))) (ah (cO oEq 1.2 (cU si (cU A8 (cU aX 1.2))))))
noncomputable def n8(P:RC):RJ:=av 1 1 (sq (Rw (Tf (Sn (tV (ae (P 25) %[1.0,2.1|0]))) (Rq (cO oEq (cO Rp 1.0 2.0) 3.35))) (ah (cC (.bl false))) Ry) (ah (cU j8 (ay (EV.Wx Rx) 1 [0] 4.0 tT (ae (P 27) %[1.1,1.0|0])))))
noncomputable def nZ(P:RC):RJ:=av 2 2 (sq (Rw (Tf (Sn (tV (ae (P 1) %[1.0|0]))) (Tf (Rq (cO R5 (cU aX 1.0) 2.2)) (Rq (uG bO (cO Rp 1.0 2.0))))) (ah (cC (.bl false))) Ry) (ah (ae (P 0) %[(cO Rp 1.0 2.1),2.0,(cO ij (cU aX (ae (P 26) %[1.1,(vZ bO (cO Rp 1.0 2.0))|0])) 2.1)|0])))
noncomputable def wm(P:RC):RJ:=av 2 2 (ah (Zn (ae (P 0) %[1.0,2.0,2.99|0]) (ae (P 29) %[1.0,1.1|0])))
noncomputable def gX(P:RC):RJ:=av 2 5 (sq (aw 2 2.0) (sq (AL (Rq (cO oLt 1.2 (cU aX 1.0))) (sq (Rw (Sn (tV (ae (P 0) %[(cO Rp 1.0 1.2),2.0,2.99|0]))) (ah (cC (.bl false))) Ry) (sq (lS (dJ (gT [4.3,4.4]) (ae (P 13) %[1.0,1.2|0])) [13] (ah (cC (.bl false)))) (sq (Rw (Tf (Rq (cO zK 1.3 (cC kB))) (Sn (tV (cU j8 (ay (iT 1.4) 1 [1] 4.0 tT (ae (P 30) %[1.0,1.1|0])))))) (ah (cC (.bl false))) Ry) (Dk 2 (cO bg 2.1 (cU aX 1.4))))))) (ah (cC (.bl true)))))
noncomputable def gZ(P:RC):RJ:=av 1 4 (sq (Rw (Tf (Sn (tV (cU (V9 4) 1.0))) (Rq (cO R5 (cU aX 1.0) 2.3))) (ah (cC (.bl false))) Ry) (sq (dJ (gT [4.1,4.2,4.3]) 1.0) (sq (Rw (Tf (Sn (tV (ae (P 82) %[1.1|0]))) (Tf (Rq (cO oEq 1.1 3.8)) (Sn (tV (ae (P 28) %[1.2|0]))))) (ah (cC (.bl false))) Ry) (sq (Rw (Tf (Sn (tV (cU (V9 4) 1.3))) (Sn (Rq (WU 2.1 (cU aX 1.3) 2.12)))) (ah (cC (.bl false))) Ry) (ah (ae (P 31) %[1.3,1.2|0]))))))
noncomputable def iD(P:RC):RJ:=av 1 1 (Rw (Sn (tV (ae (P 32) %[1.0|0]))) eA Ry)
noncomputable def qx(P:RC):RJ:=av 1 1 (sq (Rw (Tf (Sn (tV (cU (V9 5) 1.0))) (Sn (Rq (WU 2.1 (cU aX 1.0) 2.16)))) (ah (cC (.bl false))) Ry) (sq (Rw (Sn (tV (cU j8 (ay (iL 1.0) 1 [] 4.0 tT (ae (P 32) %[1.0|0]))))) (ah (cC (.bl false))) Ry) (ah (cO oEq (cU A5 (cU Hc (ay (iL 1.0) 1 [] 4.0 tT (cO Rp 1.0 2.0)))) (cU aX 1.0)))))
noncomputable def kJ(P:RC):RJ:=av 1 1 (Rw (Sn (tV (ae (P 34) %[1.0|0]))) (ef 8 %[3.36|0]) Ry)
noncomputable def j2(P:RC):RJ:=av 2 2 (sq (Rw (Rq (cO oEq (cO Rp 1.0 2.0) 3.34)) (ah (UZ (cO oEq (cO Rp 1.1 2.0) 3.6) (cO oLe (cO Rp 1.1 2.1) (cO Rp 1.0 2.2)))) Ry) (ah (Zn (cO oEq (cO Rp 1.0 2.0) 3.35) (cO oEq (cO Rp 1.1 2.0) 3.7))))
noncomputable def mV(P:RC):RJ:=av 3 4 (sq (aw 3 (cO Rp 1.0 2.0)) (sq (Rw (Rq (sO Rx 1.3)) (sq (Rw (Sn (tV (ae (P 36) %[1.0,1.1|0]))) (ah (cC (.bl false))) Ry) (sq (RX (cM dB (cO gk 1.2 1.3) (T4 (Rq (cO oEq 1.3 3.35)) 1.1 (cO Rp 1.1 2.1)))) (ah (cC (.bl true))))) Ry) (sq (Rw (Rq (cO R5 (cO Rp 1.1 2.0) 1.3)) (ah (cC (.bl false))) Ry) (sq (Rw (Rq (cO oEq 1.3 3.6)) (ah (cO oEq (cO Rp 1.1 2.1) (cO Rp 1.0 2.1))) Ry) (ah (UZ (ae (P 37) %[(cO Rp 1.0 2.1),(cO Rp 1.1 2.1),1.2|0]) (ae (P 37) %[(cO Rp 1.0 2.2),(cO Rp 1.1 2.2),1.2|0])))))))
noncomputable def gY(P:RC):RJ:=av 2 3 (sq (aw 2 (Ex [35,34,37] %[(bf aN),(bf aN),(bf aN)|0])) (sq (Rw (Sn (tV (ae (P 37) %[(cO Rp 1.0 2.1),1.1,1.2|0]))) (ah (cC (.Ro))) Ry) (ah (au %[(cU ir (cO gk 1.2 3.35)),(cU ir (cO gk 1.2 3.34)),(cU ir (cO gk 1.2 3.37))|0]))))
noncomputable def eO(P:RC):RJ:=av 3 3 (sq (Rw (tV (cU (V9 2) 1.0)) (ah 1.0) Ry) (sq (Rw (Rq (cO oEq (cO Rp 1.0 2.0) 3.38)) (ah (cO iV (cO Rp 1.1 (cO Rp 1.0 2.1)) 2.100)) Ry) (sq (Rw (Rq (cO oEq (cO Rp 1.0 2.0) 3.39)) (ah (cO zJ (cO Rp 1.1 (cO Rp 1.0 2.1)) 2.100)) Ry) (ah (cO Rp 1.2 (cO Rp 1.0 2.1))))))
noncomputable def jl(P:RC):RJ:=av 2 7 (sq (aw 2 (cO Rp 1.0 2.0)) (sq (dJ (gT [4.3,4.4,4.5,4.6]) 1.1) (sq (Rw (Rq (cO oEq 1.2 3.35)) (ah (au %[3.6,(cO Rp 1.3 (cO Rp 1.0 2.1))|0])) Ry) (sq (Rw (Rq (cO oEq 1.2 3.34)) (ah (au %[3.6,(cO Rp 1.4 (cO Rp 1.0 2.1))|0])) Ry) (sq (Rw (Rq (cO oEq 1.2 3.37)) (ah (au %[3.7,(cO Rp 1.5 (cO Rp 1.0 2.1))|0])) Ry) (sq (Rw (Rq (cO oEq 1.2 3.6)) (ah 1.0) Ry) (ah (au %[1.2,(ae (P 40) %[(cO Rp 1.0 2.1),1.1|0]),(ae (P 40) %[(cO Rp 1.0 2.2),1.1|0])|0]))))))))
noncomputable def BI(P:RC):RJ:=av 3 12 (sq (dJ (gT [4.3,4.4,4.5]) 1.0) (sq (dJ (gT [4.6,4.7,4.8,4.9]) 1.1) (sq (aw 10 (ay (iT 1.5) 1 [7,8] 4.0 tT (ae (P 39) %[1.0,1.1,1.2|0]))) (sq (aw 11 (gJ 0 (P 15) [] %[1.10,1.9,1.2,(cO bg (bf %[2.1|0]) (cU pS 1.6))|0])) (sq (lS (AL (Rq (cO oLt (bc 0 13 1.11) (cU aX 1.10))) (RX (aJ 0 33 (P 21) 1.11 aN))) [13] (ah (cC (.bl false)))) (ah (cO oEq (bc 0 12 1.11) (bf %[2.1,(ae (P 9) %[(ae (P 40) %[1.4,1.1|0]),1.9,1.2|0])|0]))))))))
noncomputable def wq(P:RC):RJ:=av 1 3 (sq (aw 1 (bf %[(au aN)|0])) (sq (dI (iL 1.0) 4.2 (aw 1 (sN (iL 1.1) 2 [2] 4.0 (iL 1.2) 4.1 (cO bg 1.0 (au %[1.1|0]))))) (ah 1.1)))
noncomputable def sS(P:RC):RJ:=av 2 2 (ah (ae (P 42) %[(ay (mx 2.4) 1 [0,1] 4.0 tT (T4 (Rq (cO UQ 1.0 1.1)) (cU si (cU A8 1.2)) (bf %[2.0|0])))|0]))
noncomputable def Mc(P:RC):RJ:=av 2 11 (sq (RX (ae (P 33) %[1.0|0])) (sq (RX (ae (P 2) %[1.1,2.5|0])) (sq (aw 2 (cO Rp 1.0 2.1)) (sq (aw 3 (ae (P 42) %[(ay (iL (ae (P 26) %[1.2,3.35|0])) 1 [1] 4.0 tT (cU si (cU A8 1.1)))|0])) (sq (aw 4 (ae (P 42) %[(ay (iL (ae (P 26) %[1.2,3.34|0])) 1 [] 4.0 tT (ay (iT (cC iz)) 1 [0] 4.0 (Rq (cO oLe 1.0 (cO Rp 1.1 2.2))) 1.0))|0])) (sq (aw 5 (ae (P 42) %[(ay (iL (ae (P 26) %[1.2,3.37|0])) 1 [] 4.0 tT (cU si (cU A8 2.4)))|0])) (sq (dI (iL 1.3) 4.6 (dI (iL 1.4) 4.7 (dI (iL 1.5) 4.8 (dI (iL (ae (P 43) %[1.8,1.1|0])) 4.9 (sq (aw 10 (au %[1.6,1.7,1.8,1.9|0])) (Rw (Sn (tV (ae (P 41) %[1.0,1.10,1.1|0]))) (ah 1.10) Ry)))))) (ah (cC (.Ro))))))))))
noncomputable def fU(P:RC):RJ:=av 2 4 (sq (dJ (gT [4.2,4.3]) 1.1) (sq (Rw (Rq (cO oLe 1.0 2.9)) (ah (bf %[1.2,1.0|0])) Ry) (ah (bf %[1.3,(cO iV 1.0 2.100),(cO zJ 1.0 2.100)|0]))))
noncomputable def dE(P:RC):RJ:=av 2 4 (sq (aw 2 (ae (P 45) %[1.1,(cC qk)|0])) (sq (aw 3 (ae (P 45) %[(cO bg 1.0 (cU aX 1.2)),(cC uH)|0])) (ah (au %[1.3,1.2|0]))))
noncomputable abbrev nG(P:RC):Cs:=(sq (aw 4 (ae (P 38) %[1.3,1.0|0])) (Rw (Rq (cU ja 1.4)) (RX (cM dB 1.2 (au %[(cO Rp 1.3 2.0),(cO Rp 1.3 2.2),(cO Rp 1.4 2.0)|0]))) Ry))
noncomputable def gz(P:RC):RJ:=av 2 5 (sq (Rw (Rq (cO oEq (cO Rp 1.0 2.0) 3.8)) (ah (bf %[(au %[3.8,(au aN),(cO ux 1.0 2.1)|0])|0])) Ry) (sq (aw 2 (bf aN)) (sq (dI (iL 1.1) 4.3 (nG P)) (ah 1.2))))
noncomputable def eE(P:RC):RJ:=av 3 6 (sq (aw 3 (cU aX 1.1)) (sq (Rw (Rq (cO oEq 1.0 3.8)) (sq (dJ (gT [4.4,4.5]) (ae (P 46) %[(cO Rp 1.2 2.1),(cO Rp 1.2 2.2)|0])) (aw 3 (cO bg (cU aX 1.4) (cU aX 1.5)))) Ry) (ah (cO bg 1.3 (cU pT 1.2)))))
noncomputable abbrev cK(P:RC):Cs:=(sG [8] (sq (aw 8 (ay (iT 1.7) 1 [2,3] 4.0 tT (cO Rp 1.2 (cM zA 1.1 1.0)))) (sq (Rw (tV (cU xA (ay (iL 1.8) 1 [] 4.0 tT (cU iq 1.0)))) sCt Ry) (sq (aw 9 (ae (P 48) %[1.5,1.6,(ay (iL 1.8) 1 [] 4.0 tT (cO Rp 1.0 2.0))|0])) (Rw (Tf (Rq (cU iq 1.4)) (Rq (cO oLt 1.9 (cO Rp 1.4 2.0)))) (aw 4 (au %[1.9,(au %[1.5,(cU ir (ay (iL 1.8) 1 [] 4.0 tT (cO Rp 1.0 2.1)))|0])|0])) Ry)))))
noncomputable def cA(P:RC):RJ:=av 4 10 (sq (Rw (Rq (cO oEq (cO Rp 1.0 2.0) 3.21)) (ah (au %[2.3,(au aN)|0])) Ry) (sq (aw 4 (cC (.Ro))) (sq (dI (iL (ae (P 47) %[1.0,1.1|0])) (gT [4.5,4.6,4.7]) (cK P)) (ah 1.4))))
noncomputable abbrev fK(P:RC):Cs:=(sq (RX (cM dB 1.3 (ae (P 49) %[1.4,1.1,1.2,1.3|0]))) (RX (cM dB 1.2 1.4)))
noncomputable def dD(P:RC):RJ:=av 2 5 (sq (aw 2 (bf aN)) (sq (aw 3 (bf aN)) (sq (dI (qP (ae (P 10) %[1.0|0])) 4.4 (fK P)) (sq (Rw (Rq (cU iq (cO Rp 1.3 (cU A7 2.1)))) (ef 9 %[3.40|0]) Ry) (ah (cO Rp 1.3 (cU A7 2.1)))))))
noncomputable def jH(P:RC):RJ:=av 2 2 (sq (RX (ae (P 7) %[1.0|0])) (sq (RX (ae (P 35) %[1.1|0])) (ah (cO Rp (ae (P 50) %[1.0,1.1|0]) 2.0))))
noncomputable def fV(P:RC):RJ:=av 4 9 (sq (AK [4.4,4.5,4.6] (ay (wI (cO ux 1.0 2.1) (cO Rp 1.2 2.1)) 2 [1,3] (gT [4.0,4.1]) tT (ae (P 54) %[1.0,1.2,1.1,1.3|0]))) (sq (dJ (gT [4.7,4.8]) (ae (P 46) %[(cU aX 1.5),(cU aX 1.6)|0])) (ah (cO bg (cO bg (cO bg (cO bg 1.4 1.7) 1.5) 1.8) 1.6))))
noncomputable abbrev jd(P:RC):Cs:=(sG [] (RX (cM oU 1.10 (ae (P 54) %[1.11,1.1,1.12,1.3|0]))))
noncomputable def fA(P:RC):RJ:=av 4 13 (sq (dJ (gT [4.4,4.5]) 1.2) (sq (aw 6 (cO Rp (ay (iL 1.1) 1 [4] 4.0 (Rq (cO oEq (cO Rp 1.0 2.0) 1.1)) 1.0) 2.0)) (sq (dJ (gT [4.7,4.8,4.9]) (ae (P 38) %[1.6,1.0|0])) (sq (aw 10 (bf aN)) (sq (dI (wI 1.7 1.5) (gT [4.11,4.12]) (jd P)) (ah (cO bg 1.10 (ay (iT (cO Rp 1.6 2.2)) 1 [8,9] 4.0 tT (ae (P 39) %[1.0,1.1,1.2|0])))))))))
noncomputable def iC(P:RC):RJ:=av 4 5 (sq (Rw (Rq (cO oEq (cO Rp 1.0 2.0) 3.21)) (sq (aw 4 (cO Rp 1.3 (cO Rp 1.0 2.1))) (ah (bf %[2.15,(cO iV 1.4 2.100),(cO zJ 1.4 2.100)|0]))) Ry) (sq (Rw (Rq (cO oEq (cO Rp 1.0 2.0) 3.8)) (ah (ae (P 52) %[1.0,1.1,1.2,1.3|0])) Ry) (ah (ae (P 53) %[1.0,1.1,1.2,1.3|0]))))
noncomputable def jj(P:RC):RJ:=av 2 4 (sq (dJ (gT [4.2,4.3]) (ae (P 50) %[1.0,1.1|0])) (ah (cO bg (ae (P 54) %[1.0,1.1,1.3,(bf aN)|0]) (bf %[2.0|0]))))
noncomputable def yk(P:RC):RJ:=av 2 2 (sq (RX (ae (P 7) %[1.0|0])) (sq (RX (ae (P 35) %[1.1|0])) (ah (ae (P 55) %[1.0,1.1|0]))))
noncomputable def LQ(P:RC):RJ:=av 2 2 (sq (Rw (Rq (cU iq 1.1)) (aw 1 (cU pS (cC Mn))) Ry) (sq (RX (ae (P 35) %[1.1|0])) (sq (fI 1 41 1.0 (cU pS 1.1)) (fI 1 42 1.0 qh))))
noncomputable def cX(P:RC):RJ:=av 2 2 (ah (UZ (ae (P 82) %[1.1|0]) (cO UQ 1.1 (ay (iL (bc 1 41 1.0)) 1 [] 4.0 tT (cO Rp 1.0 2.0)))))
noncomputable def fm(P:RC):RJ:=av 2 2 (sq (Rw (Tf (Sn (tV (ae (P 82) %[1.1|0]))) (Rq (cO rq 1.1 (bc 1 42 1.0)))) (ef 11 %[3.43|0]) Ry) (ah (cO gk (bc 1 42 1.0) 1.1)))
noncomputable def fq(P:RC):RJ:=av 2 3 (sq (RX (ae (P 33) %[1.1|0])) (sq (Rw (tV (aJ 1 44 (P 58) 1.0 %[(cO Rp 1.1 2.0)|0])) (ef 12 %[3.45|0]) Ry) (sq (Rw (Rq (cO oEq (cU aX (bc 1 41 1.0)) 2.16)) (ef 8 %[3.46|0]) Ry) (sq (aw 2 (jg (P 44) kS %[1.1|0] %[2.3|0])) (sq (Rw (Rq (cU ja 1.2)) eA Ry) (RX (cM dB (bc 1 41 1.0) 1.1)))))))
noncomputable def dt(P:RC):RJ:=av 2 2 (sq (Rw (Sn (tV (aJ 1 44 (P 58) 1.0 %[1.1|0]))) (ef 11 %[3.47|0]) Ry) (sq (Rw (Rq (cO oEq (cU aX (bc 1 41 1.0)) 2.1)) (ef 8 %[3.48|0]) Ry) (fI 1 41 1.0 (ay (iL (bc 1 41 1.0)) 1 [1] 4.0 (Rq (cO R5 (cO Rp 1.0 2.0) 1.1)) 1.0))))
noncomputable def eM(P:RC):RJ:=av 1 1 (ah (cU pS (bc 1 41 1.0)))
noncomputable def fk(P:RC):RJ:=av 3 4 (sq (Rw (Sn (tV (ae (P 82) %[1.1|0]))) (ef 11 %[3.49|0]) Ry) (sq (aw 3 (ae (P 56) %[1.2,(bc 1 41 1.0)|0])) (sq (i5 (bc 1 42 1.0) 1.1 (au %[1.2,(cU ir 1.3)|0])) (ah 1.3))))
noncomputable def fP(P:RC):RJ:=av 2 2 (ah (cU pS (cO Rp (aJ 1 50 (P 59) 1.0 %[1.1|0]) 2.1)))
noncomputable def fQ(P:RC):RJ:=av 2 2 (ah (cO Rp (aJ 1 50 (P 59) 1.0 %[1.1|0]) 2.0))
noncomputable def L7(P:RC):RJ:=av 4 4 (ah (jg (P 23) yE %[(aJ 1 51 (P 64) 1.0 %[1.1|0]),1.2|0] %[1.3|0]))
noncomputable def dC(P:RC):RJ:=av 2 4 (sq (dJ (gT [4.2,4.3]) (aJ 1 50 (P 59) 1.0 %[1.1|0])) (lS (ah (cO R5 (cO bg (ae (P 51) %[1.2,(bc 1 41 1.0)|0]) 2.1) (cU aX 1.3))) [9] (ah (cC (.bl true)))))
noncomputable def ft(P:RC):RJ:=av 1 1 (ah (cU (xB [0,1,2]) (kA (bc 1 42 1.0) (ay (f9 (bc 1 42 1.0)) 1 [0] 4.0 (tV (aJ 1 52 (P 67) 1.1 %[1.0|0])) 1.0))))
noncomputable def fy(P:RC):RJ:=av 1 1 (ah (cU pT (kA (bc 1 42 1.0) (ay (kY (bc 1 42 1.0)) 2 [] (gT [4.0,4.1]) tT (cU aX 1.1)))))
noncomputable def dU(P:RC):RJ:=av 1 1 (ah (cU l5 (bc 1 42 1.0)))
noncomputable def fT(P:RC):RJ:=av 3 3 (ah (cO Rp 1.2 (ae (P 81) %[1.0,1.1,(cU aX 1.2)|0])))
noncomputable def du(P:RC):RJ:=av 3 6 (sq (aw 3 (au %[3.7,(ae (P 81) %[1.0,1.1,2.4|0])|0])) (sq (Rw (Rq (cO oEq (ae (P 81) %[1.0,1.1,2.2|0]) 2.0)) (aw 3 (au %[3.6,(ae (P 71) %[1.0,1.1,(bf %[2.0,2.1,2.2,2.5,2.99,2.100,2.1234,2.9999|0])|0])|0])) Ry) (sq (Rw (Tf (Rq (cO oLt 1.2 2.2)) (Tf (Rq (cO oLt (cO Rp 1.1 2.2) 2.1)) (Rq (cO oEq (ae (P 81) %[1.0,1.1,2.4|0]) 2.0)))) (ah 1.3) Ry) (sq (AJ 1.1 2 (.ofNat 1)) (sq (aw 4 (ae (P 71) %[1.0,1.1,(bf %[3.4,3.4,3.5,3.53,3.3,3.8|0])|0])) (sq (aw 5 (T4 (Rq (cO oEq 1.4 3.8)) 2.3 2.2)) (ah (cO bg (au %[1.4|0]) (cU ir (ay (mx 1.5) 1 [0,1,2] 4.0 tT (ae (P 72) %[1.1,1.2,(cO ij 1.3 2.1)|0])))))))))))
noncomputable def fR(P:RC):RJ:=av 3 3 (ah (cU ir (ay (mx 2.4) 1 [0,1,2] 4.0 tT (ae (P 71) %[1.1,1.2,(bf %[2.0,2.1,(cO ij 1.3 2.1),(ae (P 81) %[1.1,1.2,1.3|0])|0])|0]))))
noncomputable def gW(P:RC):RJ:=av 4 4 (sq (Rw (Rq (cO oEq 1.0 3.4)) (ah (cO iV (cO bg 1.1 1.2) 1.3)) Ry) (sq (Rw (Rq (cO oEq 1.0 3.5)) (ah (cO iV (cO ij 1.1 1.2) 1.3)) Ry) (sq (Rw (Rq (cO oEq 1.0 3.53)) (ah (cO iV (cO tY 1.1 1.2) 1.3)) Ry) (ah (T4 (Rq (cO oLt 1.1 1.2)) 2.1 2.0)))))
noncomputable def iA(P:RC):RJ:=av 3 3 (sq (Rw (Rq (cO oEq (cO Rp 1.0 2.0) 3.6)) (ah (cO iV (cO Rp 1.0 2.1) 1.2)) Ry) (sq (Rw (Rq (cO oEq (cO Rp 1.0 2.0) 3.7)) (ah (cO Rp 1.1 (cO Rp 1.0 2.1))) Ry) (sq (Rw (Rq (cO oEq (cO Rp 1.0 2.0) 3.8)) (ah (ae (P 75) %[(T4 (Rq (cO oEq (ae (P 75) %[(cO Rp 1.0 2.1),1.1,1.2|0]) 2.0)) (cO Rp 1.0 2.3) (cO Rp 1.0 2.2)),1.1,1.2|0])) Ry) (ah (ae (P 74) %[(cO Rp 1.0 2.0),(ae (P 75) %[(cO Rp 1.0 2.1),1.1,1.2|0]),(ae (P 75) %[(cO Rp 1.0 2.2),1.1,1.2|0]),1.2|0])))))
noncomputable def gK(P:RC):RJ:=av 0 4 (sq (dJ (gT [4.0,4.1,4.2]) (au %[(au %[3.35,2.0|0]),(au %[3.35,2.1|0]),(au %[3.34,2.0,2.99|0])|0])) (sq (aw 3 (bf %[(au %[3.54,(au %[3.4,1.0,(au %[3.6,2.1|0])|0]),(au %[2.12,2.1|0])|0])|0])) (sq (RX (cM dB 1.3 (au %[3.55,(au %[3.4,(au %[3.37,2.0|0]),(au %[3.37,2.1|0])|0]),(au %[2.3,(au %[3.7,2.0|0]),2.3,(au %[3.7,2.1|0]),2.4|0])|0]))) (sq (RX (cM dB 1.3 (au %[3.56,(au %[3.53,1.0,(au %[3.6,2.2|0])|0]),(au %[2.13,2.4|0])|0]))) (sq (RX (cM dB 1.3 (au %[3.57,(au %[3.5,1.0,1.2|0]),(au %[2.1,(au %[3.38,2.0|0]),2.5|0])|0]))) (sq (RX (cM dB 1.3 (au %[3.58,(au %[3.4,(au %[3.53,1.0,1.1|0]),1.2|0]),(au %[2.6,2.12,(au %[3.38,2.0|0])|0])|0]))) (sq (RX (cM dB 1.3 (au %[3.59,(au %[3.3,1.2,1.0|0]),(au %[2.1,(au %[3.38,2.0|0]),2.14,2.7|0])|0]))) (sq (RX (cM dB 1.3 (au %[3.23,(au %[3.4,1.0,(au %[3.34,2.0,2.9999|0])|0]),(au %[2.2,(au %[3.38,2.0|0]),(au %[3.39,2.0|0]),2.4|0])|0]))) (sq (RX (cM dB 1.3 (au %[3.60,(au %[3.5,(au %[3.34,2.0,2.99|0]),(au %[3.34,2.1,2.99|0])|0]),(au %[2.1,(au %[3.38,2.0|0]),2.1,(au %[3.38,2.1|0]),2.5|0])|0]))) (ah 1.3))))))))))
noncomputable def cg(P:RC):RJ:=av 3 3 (sq (Rw (Rq (cO oEq (cO Rp 1.0 2.0) 3.35)) (sq (RX (cM dB (cO Rp 1.2 2.0) 1.1)) (ah (cC (.bl true)))) Ry) (sq (Rw (Rq (cO oEq (cO Rp 1.0 2.0) 3.34)) (sq (RX (cM dB (cO Rp 1.2 2.1) (cO Rp 1.1 2.1))) (ah (UZ (cO oEq (cO Rp 1.1 2.0) 3.6) (cO oLe (cO Rp 1.1 2.1) (cO Rp 1.0 2.2))))) Ry) (sq (Rw (Rq (cO oEq (cO Rp 1.0 2.0) 3.37)) (sq (RX (cM dB (cO Rp 1.2 2.2) (cO Rp 1.1 2.1))) (ah (cO oEq (cO Rp 1.1 2.0) 3.7))) Ry) (sq (Rw (Rq (cO oEq (cO Rp 1.0 2.0) 3.6)) (ah (cO oEq 1.1 1.0)) Ry) (ah (UZ (cO oEq (cO Rp 1.1 2.0) (cO Rp 1.0 2.0)) (UZ (ae (P 77) %[(cO Rp 1.0 2.1),(cO Rp 1.1 2.1),1.2|0]) (ae (P 77) %[(cO Rp 1.0 2.2),(cO Rp 1.1 2.2),1.2|0]))))))))
noncomputable def fS(P:RC):RJ:=av 1 1 (ah (T4 (Rq (cO oLe 1.0 2.9)) 2.2 2.3))
noncomputable abbrev dM(P:RC):Cs:=(sG [6,7] (sq (aw 6 (bf %[(bf aN),(bf aN),(bf aN)|0])) (Rw (tV (ae (P 77) %[(cO Rp 1.5 2.1),1.0,1.6|0])) (sq (aw 7 (ay (iL (cO Rp 1.6 2.0)) 1 [1] 4.0 tT (ae (P 79) %[1.0,1.1|0]))) (Rw (Rq (cO zK (cC (.Ro)) 1.7)) (RX (cM dB 1.4 (cO bg (cU aX (cO Rp 1.5 2.2)) (cU pT 1.7)))) Ry)) Ry)))
noncomputable def dH(P:RC):RJ:=av 2 8 (sq (Rw (Rq (cO oEq (cO Rp 1.0 2.0) 3.8)) (sq (aw 2 (ay (iT (cO ux 1.0 2.1)) 1 [1] 4.0 tT (ae (P 79) %[1.0,1.1|0]))) (sq (Rw (Rq (cO UQ (cC (.Ro)) 1.2)) (ah (cC (.Ro))) Ry) (sq (aw 3 (cO bg (cO Rp 1.2 2.1) (ae (P 78) %[(cO Rp 1.2 2.2)|0]))) (ah (cO bg (cO bg (cO bg (cO Rp 1.2 2.0) (ae (P 78) %[1.3|0])) 1.3) (cO Rp 1.2 2.2)))))) Ry) (sq (aw 4 (bf aN)) (sq (dI (iL 1.1) 4.5 (dM P)) (ah (T4 (Rq (cO R5 1.4 (bf aN))) (cU A6 1.4) (cC (.Ro)))))))
noncomputable abbrev cJ(P:RC):Cs:=(sG [8] (sq (dJ (gT [4.7,4.8]) (cO gk 1.4 1.6)) (sq (Rw (Tf (Rq (cO R5 (aJ 1 51 (P 64) 1.2 %[1.6|0]) 1.8)) (Rq (cO R5 (aJ 1 63 (P 65) 1.2 %[1.6|0]) 1.7))) (ah (cC (.bl false))) Ry) (sq (aw 9 (ae (P 79) %[1.7,1.3|0])) (sq (Rw (Tf (Rq (cU iq 1.9)) (Rq (cO R5 (cO bg 1.9 2.1) (cU aX 1.8)))) (RX (cM dB 1.5 1.6)) Ry) (sq (aw 10 (ae (P 73) %[1.0,1.1,2.10|0])) (Rw (Rq (cO R5 (jh 1 64 (P 66) eG 1.2 %[1.6,1.10|0] %[2.10|0]) (ae (P 75) %[1.7,1.10,2.10|0]))) (ah (cC (.bl false))) Ry)))))))
noncomputable def cz(P:RC):RJ:=av 5 11 (sq (Rw (Tf (Rq (cO R5 (aJ 1 61 (P 62) 1.2 aN) 1.3)) (Rq (cO R5 (mQ 1 (P 70) 1.2) (cU l5 1.4)))) (ah (cC (.bl false))) Ry) (sq (Rw (Rq (cO R5 (aJ 1 62 (P 69) 1.2 aN) (cU pT (kA 1.4 (ay (f9 1.4) 1 [4] 4.0 tT (cU aX (cO Rp (cO gk 1.1 1.0) 2.1))))))) (ah (cC (.bl false))) Ry) (sq (aw 5 (bf aN)) (sq (dI (iL (cU (nE [0,1,2]) 1.4)) 4.6 (cJ P)) (ah (cO oEq (aJ 1 65 (P 68) 1.2 aN) 1.5))))))
noncomputable def bz(P:RC):RJ:=av 4 5 (jT (sq (Rw (Rq (cO oEq 1.1 2.0)) (ah (aJ 1 22 (P 60) 1.0 %[1.2|0])) Ry) (sq (Rw (Rq (cO oEq 1.1 2.1)) (ah (aJ 1 66 (P 61) 1.0 %[1.2|0])) Ry) (sq (Rw (Rq (cO oEq 1.1 2.2)) (ah (aJ 1 67 (P 63) 1.0 %[1.2,1.3|0])) Ry) (sq (Rw (Rq (cO oEq 1.1 2.3)) (ah (aJ 1 51 (P 64) 1.0 %[1.2|0])) Ry) (ah (T4 (Rq (cO oEq 1.1 2.4)) (aJ 1 63 (P 65) 1.0 %[1.2|0]) (jh 1 64 (P 66) eG 1.0 %[1.2,(cO Rp 1.3 2.0)|0] %[(cO Rp 1.3 2.1)|0]))))))) 4 68 [8,9,11,12])
noncomputable def l_0(P:RC):Cs:=(aw 1 (bf %[2.0,2.0,2.20|0]))
noncomputable def l_1(P:RC):Cs:=(mC [gN 2,gN 3,gN 4] %[(gJ 1 (P 57) [.Ro] aN),(cU pS (cC Mn)),qh|0])
noncomputable def tK(P:RC):Cs:=(sq (mC [gN 6,gN 7] %[(ae (P 81) %[1.0,1.1,2.5|0]),(ae (P 71) %[1.0,1.1,(ae (P 76) aN)|0])|0]) (sq (aw 8 (ae (P 71) %[1.0,1.1,(bf %[3.0,3.1,3.2|0])|0])) (sq (Rw (Rq (cO oEq 1.6 2.0)) (sq (aw 9 (T4 (Rq (cO UQ 1.7 1.3)) (au %[3.68,2.11|0]) (cC (.Ro)))) (sq (Rw (Rq (cO R5 (ae (P 83) %[1.2,2.0,1.7,(cC (.Ro))|0]) 1.9)) (ah (cC (.bl false))) Ry) (aw 3 (T4 (Rq (cO UQ 1.7 1.3)) 1.3 (cO bg 1.3 (bf %[1.7|0])))))) Ry) (sq (Rw (Rq (cO oEq 1.6 2.1)) (sq (aw 10 (ae (P 71) %[1.0,1.1,(cO bg (ay (iL 1.3) 1 [] 4.0 tT (cO Rp 1.0 2.0)) (bf %[3.54,3.57|0]))|0])) (sq (aw 11 (ay (iL 1.3) 1 [10] 4.0 (Rq (cO oEq (cO Rp 1.0 2.0) 1.1)) 1.0)) (sq (aw 9 (T4 (Rq (cO R5 1.11 (bf aN))) (cC (.Ro)) (au %[3.68,2.10|0]))) (sq (Rw (Wj (Rq (cO R5 1.11 (bf aN))) (Rq (cO oEq (cU aX 1.3) 2.1))) (aw 9 (au %[3.68,2.7|0])) Ry) (sq (Rw (Rq (cO R5 (ae (P 83) %[1.2,2.1,1.10,(cC (.Ro))|0]) 1.9)) (ah (cC (.bl false))) Ry) (aw 3 (T4 (Rq (cU iq 1.9)) (ay (iL 1.3) 1 [10] 4.0 (Rq (cO R5 (cO Rp 1.0 2.0) 1.1)) 1.0) 1.3))))))) Ry) (sq (Rw (Rq (cO Xn 1.6 2.1)) (sq (aw 12 (ae (P 72) %[1.0,1.1,2.4|0])) (sq (mC [gN 13,gN 14] %[(ae (P 79) %[1.12,1.3|0]),(ae (P 83) %[1.2,2.2,1.8,1.12|0])|0]) (sq (Rw (Wj (Rq (cU iq 1.13)) (Rq (cO R5 1.14 (au %[3.68,2.8|0])))) (ah (cC (.bl false))) Ry) (sq (Rw (Wj (Rq (cU ja 1.13)) (Rq (cO R5 (cU aX 1.14) (cO bg 1.13 2.1)))) (ah (cC (.bl false))) Ry) (Rw (Rq (cU ja 1.13)) (i5 1.4 1.8 (au %[1.12,1.14|0])) Ry))))) Ry) (Rw (Sn (tV (ae (P 80) %[1.0,1.1,1.2,1.3,1.4|0]))) (ah (cC (.bl false))) Ry))))))
noncomputable def l_3(P:RC):Cs:=(ah (cC (.bl true)))
noncomputable def uN(P:RC):RJ:=av 1 15 (sq (l_0 P) (sq (l_1 P) (sq (dI (mx 2.10) 4.5 (tK P)) (l_3 P))))
noncomputable def nms:List Nat:=[0,1,2,3,4,5,6,7,8,9,10,11,12,13,14,15,16,17,18,19,20,21,22,23,24,25,26,27,28,29,30,31,32,33,34,35,37,38,39,41,42,50,51,53,54,55,56,57,58,59,60,61,62,63,64,65,66,67,68,69,70,71]
noncomputable def ju(d:List EV.A)(S:Rm):Res EV.A:=match d with
 |[a]=>rO (Um a) λn=>bA ↑(aG n nms) S
 |_=>.bad
noncomputable abbrev Dl:=Nat->Int->Nat->Nat×Nat×Int
noncomputable def eH(dl:Dl)(a:List EV.A)(S:Rm):Res EV.A:=match a with
 |[.SM,t,m]=>rO (T3 S t) λp=>match p.2 with
  |[x,y,r]=>rO (Uk x) λi=>rO (SD y) λq=>rO (Uk m) λk=>gB (Nat.ble 1 k&&Nat.ble k 1000000) (wr p.1 (.lst [.int (.ofNat (dl i q k).2.1),.int (dl i q k).2.2,r]) S λS=>.ok (.int (.ofNat (dl i q k).1)) S)
  |_=>.bad
 |_=>.bad
noncomputable def dsp(dl:Dl)(P:RC)(f:Nat):RJ:=match f with
 |0=>kI P
 |1=>qy P
 |2=>ax (L8 P)
 |3=>ax (jI P)
 |4=>mT P
 |5=>kK P
 |6=>ax (mU P)
 |7=>ax (jK P)
 |8=>dF P
 |9=>ax (sV P)
 |10=>ax (qz P)
 |11=>ax (mS P)
 |12=>ax (jJ P)
 |13=>ax (cY P)
 |14=>ax (b6 P)
 |15=>LV P
 |16=>aM (dS P)
 |17=>aM (dR P)
 |18=>aM (bZ P)
 |19=>aM (cQ P)
 |20=>aM (aK P)
 |21=>aM (bU P)
 |22=>mW P
 |23=>ax (MO P)
 |24=>wo P
 |25=>ax (iB P)
 |26=>ax (sU P)
 |27=>ax (mq P)
 |28=>ax (n8 P)
 |29=>ax (nZ P)
 |30=>ax (wm P)
 |31=>ax (gX P)
 |32=>ax (gZ P)
 |33=>ax (iD P)
 |34=>ax (qx P)
 |35=>ax (kJ P)
 |36=>j2 P
 |37=>mV P
 |38=>ax (gY P)
 |39=>eO P
 |40=>ax (jl P)
 |41=>ax (BI P)
 |42=>wq P
 |43=>sS P
 |44=>ax (Mc P)
 |45=>fU P
 |46=>dE P
 |47=>ax (gz P)
 |48=>ax (eE P)
 |49=>ax (cA P)
 |50=>ax (dD P)
 |51=>ax (jH P)
 |52=>ax (fV P)
 |53=>ax (fA P)
 |54=>ax (iC P)
 |55=>ax (jj P)
 |56=>ax (yk P)
 |57=>LQ P
 |58=>aM (cX P)
 |59=>aM (fm P)
 |60=>aM (fq P)
 |61=>aM (dt P)
 |62=>aM (eM P)
 |63=>aM (fk P)
 |64=>aM (fP P)
 |65=>aM (fQ P)
 |66=>aM (L7 P)
 |67=>aM (dC P)
 |68=>aM (ft P)
 |69=>aM (fy P)
 |70=>aM (dU P)
 |71=>aM (fT P)
 |72=>aM (du P)
 |73=>aM (fR P)
 |74=>gW P
 |75=>iA P
 |76=>ax (gK P)
 |77=>cg P
 |78=>fS P
 |79=>ax (dH P)
 |80=>aM (cz P)
 |81=>eH dl
 |82=>ju
 |83=>aM (bz P)
 |_=>λ_ _=>.bad
noncomputable def cN(dl:Dl):Nat->RC
 |0,_=>λ_ _=>.bad
 |n+1,f=>dsp dl (cN dl n) f
section
theorem c0{dl:Dl}:cN dl (n+1) 0=kI (cN dl n):=rfl
theorem c3{dl:Dl}:cN dl (n+1) 3=ax (jI (cN dl n)):=rfl
theorem c4{dl:Dl}:cN dl (n+1) 4=mT (cN dl n):=rfl
theorem c6{dl:Dl}:cN dl (n+1) 6=ax (mU (cN dl n)):=rfl
theorem c7{dl:Dl}:cN dl (n+1) 7=ax (jK (cN dl n)):=rfl
theorem c8{dl:Dl}:cN dl (n+1) 8=dF (cN dl n):=rfl
theorem c10{dl:Dl}:cN dl (n+1) 10=ax (qz (cN dl n)):=rfl
theorem c11{dl:Dl}:cN dl (n+1) 11=ax (mS (cN dl n)):=rfl
theorem c12{dl:Dl}:cN dl (n+1) 12=ax (jJ (cN dl n)):=rfl
theorem c13{dl:Dl}:cN dl (n+1) 13=ax (cY (cN dl n)):=rfl
theorem c14{dl:Dl}:cN dl (n+1) 14=ax (b6 (cN dl n)):=rfl
theorem c16{dl:Dl}:cN dl (n+1) 16=aM (dS (cN dl n)):=rfl
theorem c17{dl:Dl}:cN dl (n+1) 17=aM (dR (cN dl n)):=rfl
theorem c18{dl:Dl}:cN dl (n+1) 18=aM (bZ (cN dl n)):=rfl
theorem c19{dl:Dl}:cN dl (n+1) 19=aM (cQ (cN dl n)):=rfl
theorem c20{dl:Dl}:cN dl (n+1) 20=aM (aK (cN dl n)):=rfl
theorem c21{dl:Dl}:cN dl (n+1) 21=aM (bU (cN dl n)):=rfl
theorem c22{dl:Dl}:cN dl (n+1) 22=mW (cN dl n):=rfl
theorem c23{dl:Dl}:cN dl (n+1) 23=ax (MO (cN dl n)):=rfl
theorem c32{dl:Dl}:cN dl (n+1) 32=ax (gZ (cN dl n)):=rfl
theorem c33{dl:Dl}:cN dl (n+1) 33=ax (iD (cN dl n)):=rfl
theorem c34{dl:Dl}:cN dl (n+1) 34=ax (qx (cN dl n)):=rfl
theorem c35{dl:Dl}:cN dl (n+1) 35=ax (kJ (cN dl n)):=rfl
theorem XG{dl:Dl}:cN dl (n+1) 37=mV (cN dl n):=rfl
theorem c39{dl:Dl}:cN dl (n+1) 39=eO (cN dl n):=rfl
theorem c44{dl:Dl}:cN dl (n+1) 44=ax (Mc (cN dl n)):=rfl
theorem c45{dl:Dl}:cN dl (n+1) 45=fU (cN dl n):=rfl
theorem c46{dl:Dl}:cN dl (n+1) 46=dE (cN dl n):=rfl
theorem c47{dl:Dl}:cN dl (n+1) 47=ax (gz (cN dl n)):=rfl
theorem c48{dl:Dl}:cN dl (n+1) 48=ax (eE (cN dl n)):=rfl
theorem c49{dl:Dl}:cN dl (n+1) 49=ax (cA (cN dl n)):=rfl
theorem c50{dl:Dl}:cN dl (n+1) 50=ax (dD (cN dl n)):=rfl
theorem c51{dl:Dl}:cN dl (n+1) 51=ax (jH (cN dl n)):=rfl
theorem c52{dl:Dl}:cN dl (n+1) 52=ax (fV (cN dl n)):=rfl
theorem c53{dl:Dl}:cN dl (n+1) 53=ax (fA (cN dl n)):=rfl
theorem c54{dl:Dl}:cN dl (n+1) 54=ax (iC (cN dl n)):=rfl
theorem c55{dl:Dl}:cN dl (n+1) 55=ax (jj (cN dl n)):=rfl
theorem c56{dl:Dl}:cN dl (n+1) 56=ax (yk (cN dl n)):=rfl
theorem c57{dl:Dl}:cN dl (n+1) 57=LQ (cN dl n):=rfl
theorem c58{dl:Dl}:cN dl (n+1) 58=aM (cX (cN dl n)):=rfl
theorem c59{dl:Dl}:cN dl (n+1) 59=aM (fm (cN dl n)):=rfl
theorem c60{dl:Dl}:cN dl (n+1) 60=aM (fq (cN dl n)):=rfl
theorem c61{dl:Dl}:cN dl (n+1) 61=aM (dt (cN dl n)):=rfl
theorem c62{dl:Dl}:cN dl (n+1) 62=aM (eM (cN dl n)):=rfl
theorem c63{dl:Dl}:cN dl (n+1) 63=aM (fk (cN dl n)):=rfl
theorem c64{dl:Dl}:cN dl (n+1) 64=aM (fP (cN dl n)):=rfl
theorem c65{dl:Dl}:cN dl (n+1) 65=aM (fQ (cN dl n)):=rfl
theorem c66{dl:Dl}:cN dl (n+1) 66=aM (L7 (cN dl n)):=rfl
theorem c67{dl:Dl}:cN dl (n+1) 67=aM (dC (cN dl n)):=rfl
theorem c68{dl:Dl}:cN dl (n+1) 68=aM (ft (cN dl n)):=rfl
theorem c69{dl:Dl}:cN dl (n+1) 69=aM (fy (cN dl n)):=rfl
theorem c70{dl:Dl}:cN dl (n+1) 70=aM (dU (cN dl n)):=rfl
theorem c71{dl:Dl}:cN dl (n+1) 71=aM (fT (cN dl n)):=rfl
theorem c72{dl:Dl}:cN dl (n+1) 72=aM (du (cN dl n)):=rfl
theorem c73{dl:Dl}:cN dl (n+1) 73=aM (fR (cN dl n)):=rfl
theorem c74{dl:Dl}:cN dl (n+1) 74=gW (cN dl n):=rfl
theorem c75{dl:Dl}:cN dl (n+1) 75=iA (cN dl n):=rfl
theorem c76{dl:Dl}:cN dl (n+1) 76=ax (gK (cN dl n)):=rfl
theorem VL{dl:Dl}:cN dl (n+1) 77=cg (cN dl n):=rfl
theorem c78{dl:Dl}:cN dl (n+1) 78=fS (cN dl n):=rfl
theorem c79{dl:Dl}:cN dl (n+1) 79=ax (dH (cN dl n)):=rfl
theorem c80{dl:Dl}:cN dl (n+1) 80=aM (cz (cN dl n)):=rfl
theorem c81{dl:Dl}:cN dl (n+1) 81=eH dl:=rfl
theorem c82{dl:Dl}:cN dl (n+1) 82=ju:=rfl
theorem Yr{dl:Dl}:cN dl (n+1) 83=aM (bz (cN dl n)):=rfl
end
end My
namespace EV
open PySem PySem.Spec PyProof.Rows L2
section
end
structure Bn where
 g:Gx
 j:Nat
 call:RC
 t:Ts
 ab:List Nat
 nm:XF g ab
structure Zx where
 N:List Str
 sc:Scope
 fn:Str->Bool
 top:Bool
 rz:Bool
 h:List (Nat×List Nat)
noncomputable def sv(a:Scope):PySem.Env:={scope:=a,locals:=0,globals:=0,cells:=[],qual:="",func:=none,code:=.none,frame:=none,builtins:=0}
noncomputable def Zx.hk(Z:Zx)(p:Pos)(s:Nat):List Nat:=match Z.h.lookup (((p.line*1000+p.col)*1000+p.endCol)*2+s)with
 |some l=>l
 |none=>[]
noncomputable def Zx.at(Z:Zx)(p:Pos)(s:Nat:=0):Nat:=match Z.hk p s with
 |n::_=>n
 |_=>0
structure At(B:Bn)(Z:Zx)(X:Cx)(E:L2.St->XK):Prop where
 cx:Ctx X B.g E B.j
 fx:FX X B.g B.j B.call B.t
 N:X.N=Z.N
 sc:X.env.scope=Z.sc
 fn:∀x,Z.fn x=true->X.fn x=true
 top:Z.top=true->PassesOwn (model X.prog X.w) X.A X.env X.xe/\X.stack=X.env::X.outer/\X.env.frame= ↑X.env.locals
 rz:Z.rz=true->∃E0:XK,E=(λ_=>E0)/\Passes (Zg X.prog X.w) X E0
structure Ob{α:Type}(B:Bn)(Z:Zx)(J:Cx->(L2.St->XK)->α->Prop) where
 c:α
 h:∀{X E},At B Z X E->J X E c
noncomputable abbrev OE(B:Bn)(Z:Zx)(e:Expr):=Ob B Z λX E c=>QE X B.g E e c
noncomputable abbrev OT(B:Bn)(Z:Zx)(e:Expr):=Ob B Z λX E c=>QT X B.g E e c
noncomputable abbrev OW(B:Bn)(Z:Zx)(e:Expr):=Ob B Z λX E c=>QW X B.g E e c
noncomputable abbrev OC(B:Bn)(Z:Zx)(e:Expr):=Ob B Z λX E c=>QC X B.g E e c
noncomputable abbrev OA(B:Bn)(Z:Zx)(e:zp):=Ob B Z λX E c=>QA X B.g E e c
noncomputable abbrev OS(B:Bn)(Z:Zx)(e:Stmt):=Ob B Z λX E c=>QS X B.g E e c
noncomputable abbrev OL(B:Bn)(Z:Zx)(e:List Stmt):=Ob B Z λX E c=>QL X B.g E e c
noncomputable abbrev OG(B:Bn)(Z:Zx)(e:Expr):=Ob B Z λX _ c=>QG X B.g e c
noncomputable abbrev OH(B:Bn)(Z:Zx)(e:zp):=Ob B Z λX _ c=>QH X B.g e c
noncomputable abbrev OI(B:Bn)(Z:Zx)(t e:Expr):=Ob B Z λX E c=>QI X B.g E t e c
noncomputable abbrev OF(B:Bn)(Z:Zx)(e:zp):=Ob B Z λX E c=>QF X B.g E e c
structure Rc(B:Bn) where
 e:∀Z e,Option (OE B Z e)
 t:∀Z e,Option (OT B Z e)
 w:∀Z e,Option (OW B Z e)
 g:∀Z e,Option (OG B Z e)
 l:∀Z e,Option (OL B Z e)
noncomputable def ck(b:Bool):Option (PLift (b=true)):=match b with
 |true=>↑⟨rfl⟩
 |false=>none
noncomputable def eqs(x y:Str):Option (PLift (x=y)):=match h:x==y with
 |true=>↑⟨eq_of_beq h⟩
 |false=>none
noncomputable def pB(m:Sem Bool)(b:Bool):Option (PLift (m=pure b)):=match m with
 | .pure a=>match a,b with
  |true,true=>↑⟨rfl⟩
  |false,false=>↑⟨rfl⟩
  |_,_=>none
 |_=>none
noncomputable def pN(m:Sem (Option (List Str))):Option (PLift (m=pure none)):=match m with
 | .pure none=>↑⟨rfl⟩
 |_=>none
noncomputable def pL(m:Sem (Option (List Str))):Option {l // m=pure ↑l}:=match m with
 | .pure ↑a=>↑(a,rfl)
 |_=>none
noncomputable def VM{β:Type}(x:Str)(l:List (Str×β)):Option {y // l.lookup x= ↑y}:=match h:l.lookup x with
 |some y=>↑(y,rfl)
 |none=>none
noncomputable def VU:(N:zl)->(x:Str)->Option {i:Nat // N[i]?= ↑x}
 |[],_=>none
 |y::r,x=>match eqs y x with
  |some h=>↑(0,by rw[h.down];rfl)
  |none=>(VU r x).map λi=>(i.1+1,i.2)
noncomputable def Ub(Z:Zx)(x:Str):Bool:=match Z.sc.names.lookup x with
 |some .globalImplicit=>!(x==("__debug__":Str))&&!(x==("__name__":Str))
 |_=>false
noncomputable def viZ(Z:Zx)(x:Str):Bool:=(match Z.sc.names.lookup x with|some .local=>true|some .cell=>true|some .free=>true|_=>false)&&!(x==("__debug__":Str))&&!(x==("__classdict__":Str))
noncomputable def ZD(Z:Zx)(x:Str):Bool:=match Z.sc.names.lookup x with
 |some .local=>true
 |some .cell=>Z.fn x
 |_=>false
noncomputable def liZ(Z:Zx)(x:Str):Bool:=match Z.sc.names.lookup x with
 |some .local=>true
 |_=>false
section
theorem At.K(k:At B Z X E):X.K=B.g.K:=k.cx.K
theorem At.gl(k:At B Z X E)(h:Ub Z x=true):Vp X x:=by
 unfold Ub at h;split at h
 ·rename_i q;rw[Nt,OV,OV]at h;exact(by unfold Gl Env.kindOf;rw[k.sc];exact q,h.1,λz=>by rw[z,Pw]at h;cases h.2)
 ·cases h
theorem At.vi{B:Bn}{Z:Zx}{X:Cx}{E:L2.St->XK}{x:Str}{i:Nat}(k:At B Z X E)(d:Z.N[i]?= ↑x)(h:viZ Z x=true):X.N[i]?= ↑x/\W6 X.env.scope x/\(x==("__debug__":Str))=false/\(x==("__classdict__":Str))=false:=by unfold viZ at h;simp only[Nt,OV]at h;let((a,e),f):=h;refine(k.N▸d,?_,e,f);unfold W6;rw[k.sc];split at a<;>first | (rename_i q;simp[q];done)|cases a
theorem At.lo{B:Bn}{Z:Zx}{X:Cx}{E:L2.St->XK}{x:Str}{i:Nat}(k:At B Z X E)(a:Z.N[i]?= ↑x)(h:ZD Z x=true):X.N[i]?= ↑x/\L2.Loc X.env.scope x/\(X.fn x=true\/X.env.scope.names.lookup x=some .local):=by
 refine(k.N▸a,?_);unfold L2.Loc;rw[k.sc];unfold ZD at h;split at h
 ·rename_i q;exact(.inl q,.inr q)
 ·rename_i q;exact(.inr q,.inl (k.fn x h))
 ·cases h
theorem At.li{B:Bn}{Z:Zx}{X:Cx}{E:L2.St->XK}{x:Str}{i:Nat}(k:At B Z X E)(a:Z.N[i]?= ↑x)(h:liZ Z x=true):X.N[i]?= ↑x/\X.env.scope.names.lookup x=some .local:=by refine(k.N▸a,?_);rw[k.sc];unfold liZ at h;split at h<;>first|assumption|cases h
end
noncomputable def Zx.Sy(Z:Zx)(sc:Scope)(N:zl):Zx:=(N,relabel sc (sv Z.sc),λx=>ZY (sc.names.lookup x),false,false,Z.h)
noncomputable def bkZ(Z:Zx)(d:Scope)(a:zl)(fr:List Nat)(e:zl):Bool:=(match d.kind with | .function=>true|_=>false)&&dP Z.N (λx=>Z.sc.names.lookup x) d.names a fr e&&YI e
section
theorem At.bk{B:Bn}{Z:Zx}{X:Cx}{E:L2.St->XK}(k:At B Z X E){d:Scope}{a:zl}{fr:List Nat}{f:zl}(h:bkZ Z d a fr f=true):ZC X d a fr f=true:=by
 have e:X.env.kindOf=λx=>Z.sc.names.lookup x:=by funext x;unfold Env.kindOf;rw[k.sc]
 unfold ZC;rw[k.N,e];exact h
theorem AC{e a:PySem.Env}(h:e.scope=a.scope):relabel d e=relabel d a:=by unfold relabel Env.kindOf;rw[h]
theorem At.Sy{B:Bn}{Z:Zx}{X:Cx}{E:L2.St->XK}(k:At B Z X E){sc:Scope}{cl:List (Str×Addr)}{C:Addr}{a:zl}{fp:zz}(d:Ctx (X.Sy sc cl C a s H fp) B.g E0 B.j):At B (Z.Sy sc a) (X.Sy sc cl C a s H fp) E0 :=
 (d,k.fx,rfl,AC k.sc,(λ_ h=>h),(λh=>nomatch h),(λh=>nomatch h))
theorem At.sw(k:At B Z X E):swapsWith e t l X.env=swapsWith e t l (sv Z.sc):=by unfold swapsWith Env.blockKind Env.kindOf;rw[k.sc];rfl
theorem At.ss(k:At B Z X E):swappedStores t e X.env=swappedStores t e (sv Z.sc):=by unfold swappedStores Env.blockKind Env.kindOf;rw[k.sc];rfl
end
section
variable{B:Bn}(r:Rc B)(Z:Zx)
noncomputable def WV:(d:zp)->Option (OA B Z d)
 |[]=>↑(aN,λ_=>(Jd,rfl))
 |e::d=>do let a <- r.e Z e;let s <- WV d;↑(aC a.c s.c,λk=>(Gm (a.h k).h (s.h k).h (aD (a.h k).pl),by rw[Og,(a.h k).pl,(s.h k).pl];rfl))
noncomputable def Hx(x:Str)(a:Pos):Option (OE B Z (.Name x a)):=match ck (viZ Z x)with
 |some h=>do let i <- VU Z.N x;↑(cV i.1,λk=>let⟨h1,d,e,f⟩:=k.vi i.2 h.down;(q_v h1 d e f,rfl))
 |none=>do let y <- VM x B.t.cl;let h <- ck (Ub Z x);↑(cC y.1,λk=>JW k.fx y.2 (k.gl h.down))
noncomputable def Kh(a b:Expr)(d:Pos):(f:Operator)->Option (OE B Z (.BinOp a f b d))
 | .Add=>do let x <- r.e Z a;let y <- r.e Z b;↑(cO bg x.c y.c,λk=>Bh (k.K▸Vw.or (Xi.or Cy)) Fg (x.h k) (y.h k))
 | .Sub=>do let x <- r.e Z a;let y <- r.e Z b;↑(cO ij x.c y.c,λk=>Bh FS FJ (x.h k) (y.h k))
 | .Mod=>do let x <- r.e Z a;let y <- r.e Z b;↑(cO iV x.c y.c,λk=>Bh eR Fz (x.h k) (y.h k))
 | .Mult=>do let x <- r.e Z a;let y <- r.e Z b;↑(cO tY x.c y.c,λk=>Bh ub FB (x.h k) (y.h k))
 | .FloorDiv=>do let x <- r.e Z a;let y <- r.e Z b;↑(cO zJ x.c y.c,λk=>Bh pd Fk (x.h k) (y.h k))
 |_=>none
noncomputable def Kn:(d:zp)->Option (OF B Z d)
 |[]=>↑(tT,λ_=>⟨Li⟩)
 |[c]=>do let a <- r.t Z c;↑(a.c,λk=>⟨Aj (a.h k).h⟩)
 |_=>none
noncomputable def b1{x:Str}{p d:Pos}{a:Expr}(q:Nat)(n:Str){id:String}{R:List V->Hp->VK->Prop}{u:A->Rm->Res A}(f:∀{X E},At B Z X E->bE X (.builtin id) R)(ok:TX B.g (λv H Q=>R [v] H Q) u)(i:bootBuiltins n= ↑(.builtin id)):Option (OE B Z (.Call (.Name x p) [a] [] d)):=do
 let _ <- ck (Nat.beq (Z.at d) q);let e <- eqs x n;let j <- ck (B.t.bl.contains x);let l <- ck (Ub Z x);let a <- r.e Z a
 ↑(cU u a.c,λk=>DC (f k) ok (e.down▸i) (a.h k) k.fx j.down (k.gl l.down))
noncomputable def t1{x:Str}{p d:Pos}{a:Expr}(q:Nat)(n:Str){id:String}{R:List V->Hp->VK->Prop}{u:A->Rm->Res A}(f:∀{X E},At B Z X E->bE X (.type id) R)(ok:TX B.g (λv H Q=>R [v] H Q) u)(i:bootBuiltins n= ↑(.type id)):Option (OE B Z (.Call (.Name x p) [a] [] d)):=do
 let _ <- ck (Nat.beq (Z.at d) q);let e <- eqs x n;let j <- ck (B.t.bl.contains x);let l <- ck (Ub Z x);let a <- r.e Z a
 ↑(cU u a.c,λk=>LK (f k) ok (e.down▸i) (a.h k) k.fx j.down (k.gl l.down))
noncomputable def cB1(x:Str)(p d:Pos)(a:Expr):Option (OE B Z (.Call (.Name x p) [a] [] d)) :=
 b1 r Z 0 "len" (λk=>k.K▸fj) Fv gU <|> b1 r Z 1 "len" (λ_=>qo) Co gU <|> b1 r Z 2 "len" (λ_=>v7) Cn gU
 <|> t1 r Z 0 "tuple" (λk=>k.K▸mj) FL qf <|> t1 r Z 0 "list" (λk=>k.K▸nQ) Fw nL <|> t1 r Z 1 "list" (λk=>mi k.cx.calm) Cp nL
 <|> b1 r Z 0 "all" (λk=>k.K▸qm k.cx.calm) Fh xR <|> b1 r Z 0 "any" (λk=>k.K▸xX k.cx.calm) Fi Ek <|> b1 r Z 0 "sum" (λk=>k.K▸yb k.cx.calm) FK Es
 <|> t1 r Z 0 "set" (λk=>k.K▸wc k.cx.calm) FH Ep <|> t1 r Z 0 "range" (λ_=>ya) FG xS
 <|> (do let e <- eqs x "sorted";let f <- ck (B.t.bl.contains "sorted");let g <- ck (Ub Z "sorted");let a <- r.e Z a;match Z.at d with
  |0=>↑(cU (xB B.ab) a.c,λk=>by rw[e.down];exact J7 B.nm k.cx (a.h k) k.fx f.down (k.gl g.down))
  |_=>↑(cU (nE B.ab) a.c,λk=>by rw[e.down];exact Hj B.nm k.cx (a.h k) k.fx f.down (k.gl g.down)))
 <|> (do let e <- eqs x "min";let f <- ck (B.t.bl.contains "min");let g <- ck (Ub Z "min");let a <- r.e Z a;↑(cU A6 a.c,λk=>by rw[e.down];exact J4 (a.h k) k.cx k.fx f.down (k.gl g.down)))
noncomputable def tyB(x:Str):Option {k:Nat // bootBuiltins x= ↑(.type (WA k))/\1<=k/\k<=5} :=
 (do let e <- eqs x "bool";↑(1,by rw[e.down];exact(BC,⋯,⋯))) <|> (do let e <- eqs x "int";↑(2,by rw[e.down];exact(Em,⋯,⋯))) <|> (do let e <- eqs x "str";↑(3,by rw[e.down];exact(xT,⋯,⋯)))
 <|> (do let e <- eqs x "tuple";↑(4,by rw[e.down];exact(qf,⋯,⋯))) <|> (do let e <- eqs x "list";↑(5,by rw[e.down];exact(nL,⋯,⋯)))
noncomputable def Ko(x:Str)(p d:Pos)(a:Expr)(y:Str)(f:Pos):Option (OE B Z (.Call (.Name x p) [a,.Name y f] [] d)):=do
 let e <- eqs x "isinstance";let t <- tyB y;let h <- ck (B.t.bl.contains y&&B.t.bl.contains "isinstance");let g <- ck (Ub Z y);let i <- ck (Ub Z "isinstance");let a <- r.e Z a
 ↑(cU (V9 t.1) a.c,λk=>by rw[e.down];exact J0 t.2.1 rfl t.2.2.1 t.2.2.2 (a.h k) k.fx k.cx h.down (k.gl g.down) (k.gl i.down))
noncomputable def Kk(x:Str)(p d:Pos)(a:Expr)(e:zp):Option (OE B Z (.Call (.Name x p) (a::e) [] d)):=do
 let _ <- ck (Nat.beq (Z.at d) 0);let i <- VM x B.t.fl;let f <- ck (Ub Z x);let s <- WV r Z (a::e)
 ↑(ae (B.call i.1) s.c,λk=>Hd (s.h k) k.fx k.cx i.2 (k.gl f.down))
noncomputable def cM1(o:Expr)(m:Str)(q g:Pos)(a:Expr):Option (OE B Z (.Call (.Attribute o m q) [a] [] g)):=do
 let i <- ck (VI o);let hl <- ck (q.endLine==g.line);let d <- r.e Z o;let f <- r.e Z a
 (do let e <- eqs m "append";↑(cM dB d.c f.c,λk=>by rw[e.down];exact Hf F.slot_list_append F.type_list_append nj Fj (d.h k) (f.h k) i.down hl.down k.cx))
 <|> (do let e <- eqs m "extend";↑(cM oU d.c f.c,λk=>by rw[e.down];exact Hf PL Qa gC Fm (d.h k) (f.h k) i.down hl.down k.cx))
 <|> (do let e <- eqs m "index";↑(cM zA d.c f.c,λk=>by rw[e.down];exact JY (d.h k) (f.h k) i.down hl.down k.cx))
noncomputable def lkm(m:Str)(l:List (Nat×Str×Nat)):Option {q:Nat×Nat // l.contains (q.1,m,q.2)=true}:=match l with
 |[]=>none
 | (k,n,i)::r=>match eqs n m with
  |some h=>↑((k,i),by rw[h.down,PR,Pw];rfl)
  |none=>(lkm m r).map λq=>(q.1,by rw[PR,q.2,Bool.or_true])
noncomputable def Hw(o:Expr)(m:Str)(q d:Pos):(j:zp)->Option (OE B Z (.Call (.Attribute o m q) j [] d))
 |[]=>do
  let l <- ck (VI o);let hl <- ck (q.endLine==d.line);let f <- r.e Z o
  (do let e <- eqs m "pop";↑(cU lg f.c,λk=>by rw[e.down];exact(Lb F.slot_list_pop F.type_list_pop Fb FF Ak k.cx.K (f.h k).h (fh l.down) hl.down,rfl)))
  <|> (do let i <- lkm m B.t.ml;let n <- VU B.g.ST m;↑(aJ i.1.1 n.1 (B.call i.1.2) f.c aN,λk=>DD (f.h k) l.down hl.down k.fx k.cx i.2 n.2))
 |a::j=>do
  let l <- ck (VI o);let hl <- ck (q.endLine==d.line);let f <- r.e Z o;let i <- lkm m B.t.ml;let n <- VU B.g.ST m;let s <- WV r Z (a::j);let p <- ck (decide ((a::j).length<30))
  ↑(aJ i.1.1 n.1 (B.call i.1.2) f.c s.c,λk=>Hg (f.h k) (s.h k) l.down (NT p.down) hl.down k.fx k.cx i.2 n.2)
noncomputable def lkd(m:Str)(l:List (Nat×Str)):Option {q:Nat // l.contains (q,m)=true}:=match l with
 |[]=>none
 | (k,n)::r=>match eqs n m with
  |some h=>↑(k,by rw[h.down,PR,Pw];rfl)
  |none=>(lkd m r).map λq=>(q.1,by rw[PR,q.2,Bool.or_true])
noncomputable def cIn(a:Expr)(d:Pos)(x:OE B Z a):(b:Expr)->Option (OC B Z (.Compare a [.In] [b] d))
 | .Name y _=>(do let t <- VM y B.t.tl;let e <- ck (Ub Z y);↑(sO t.1 x.c,λk=>JZ (x.h k) k.fx k.cx t.2 (k.gl e.down)))
 |_=>none
noncomputable def Kq(a:Expr)(d:Pos)(x:OE B Z a):(b:Expr)->Option (OC B Z (.Compare a [.NotIn] [b] d))
 | .Name y _=>(do let t <- VM y B.t.tl;let e <- ck (Ub Z y);↑(uG t.1 x.c,λk=>Hh (x.h k) k.fx k.cx t.2 (k.gl e.down)))
 |_=>none
noncomputable def cC2(a b:Expr)(d:Pos)(x:OE B Z a)(y:OE B Z b):(e:CmpOp)->Option (OC B Z (.Compare a [e] [b] d))
 | .In=>↑(cO UQ x.c y.c,λk=>jb (k.K▸FO k.cx.hr) Iy (x.h k) (y.h k))
 | .NotIn=>match Z.at d with
  |2=>↑(cO rq x.c y.c,λk=>jb wY Cr (x.h k) (y.h k))
  |_=>↑(cO zK x.c y.c,λk=>jb (k.K▸wX k.cx.hr) FD (x.h k) (y.h k))
 | .Eq=>↑(cO oEq x.c y.c,λk=>LI (x.h k) (y.h k) k.cx)
 | .NotEq=>↑(cO R5 x.c y.c,λk=>LJ (x.h k) (y.h k) k.cx)
 | .Lt=>↑(cO oLt x.c y.c,λk=>jb DP IB (x.h k) (y.h k))
 | .LtE=>↑(cO oLe x.c y.c,λk=>jb lG zQ (x.h k) (y.h k))
 | .Gt=>↑(cO Xn x.c y.c,λk=>jb DO Iw (x.h k) (y.h k))
 | .GtE=>↑(cO YD x.c y.c,λk=>jb DN Iv (x.h k) (y.h k))
 |_=>none
noncomputable def Hs(a:Expr)(d:Pos):(f:List CmpOp)->(bs:zp)->Option (OC B Z (.Compare a f bs d))
 |[.Is],[.Constant .none _ _]=>do let x <- r.e Z a;↑(cU iq x.c,λk=>qc (IX (x.h k).h) rfl)
 |[.IsNot],[.Constant .none _ _]=>do let x <- r.e Z a;↑(cU ja x.c,λk=>qc (GE (x.h k).h) rfl)
 |[.In],[b]=>do let x <- r.e Z a;cIn Z a d x b <|> (do let y <- r.e Z b;cC2 Z a b d x y .In)
 |[.NotIn],[b]=>do let x <- r.e Z a;Kq Z a d x b <|> (do let y <- r.e Z b;cC2 Z a b d x y .NotIn)
 |[g],[b]=>do let x <- r.e Z a;let y <- r.e Z b;cC2 Z a b d x y g
 |[.LtE,.LtE],[b,c]=>do let x <- r.e Z a;let y <- r.e Z b;let z <- r.e Z c;↑(WU x.c y.c z.c,λk=>(K2 (x.h k).h (y.h k).h (z.h k).h (px (z.h k).pl),Jj (x.h k).h (y.h k).h (z.h k).h (px (z.h k).pl),rfl))
 |_,_=>none
noncomputable def Hv(b:Expr)(d:Pos)(y:OE B Z b)(hs:slE b=true):(a:Expr)->Option (OE B Z (.Subscript a b d))
 | .Name t _=>do let e <- ck (Ub Z t);let t <- VM t B.t.tl;↑(vZ t.1 y.c,λk=>J3 (y.h k) hs k.fx k.cx t.2 (k.gl e.down))
 |_=>none
noncomputable def Ku(a:Expr)(d:Pos):(b:Expr)->Option (OE B Z (.Subscript a b d))
 | .Slice ↑l none none _=>do let x <- r.e Z a;let y <- r.e Z l;↑(cO ux x.c y.c,λk=>(GI k.cx.K (x.h k).h (y.h k).h,rfl))
 | .Slice ↑l ↑h none _=>do let x <- r.e Z a;let y <- r.e Z l;let z <- r.e Z h;↑(Zo x.c y.c z.c,λk=>(GJ k.cx.K (x.h k).h (y.h k).h (z.h k).h,rfl))
 |b=>do
  let hs <- ck (slE b);let y <- r.e Z b
  Hv Z b d y hs.down a <|> (do let x <- r.e Z a;match Z.at d with
   |0=>↑(cO Rp x.c y.c,λk=>(IZ (k.cx.K▸EY) Iz (x.h k).h (y.h k).h (lV hs.down),rfl))
   |_=>↑(cO gk x.c y.c,λk=>(IZ B2 Fp (x.h k).h (y.h k).h (lV hs.down),rfl)))
noncomputable def cGs:(d:zp)->Option (OH B Z d)
 |[]=>↑([],λ_=>(Gs,rfl,rfl))
 |e::d=>do let a <- r.g Z e;let s <- cGs d;↑(a.c::s.c,λk=>(C1 (a.h k).h (s.h k).h (by rw[dm (by rw[Og,(a.h k).pl,(s.h k).pl];rfl),dm (s.h k).pl];rfl),by simp[(s.h k).n],by rw[Og,(a.h k).pl,(s.h k).pl];rfl))
noncomputable def cG:(e:Expr)->Option (OG B Z e)
 | .Name x _=>do let i <- VU Z.N x;let h <- ck (ZD Z x);↑(gN i.1,λk=>(K5 k.cx.nd (k.lo i.2 h.down).1 (k.lo i.2 h.down).2.1 (k.lo i.2 h.down).2.2,rfl))
 | .Tuple a _ _=>do let s <- cGs r Z a;↑(gT s.c,λk=>(K6 k.cx.K k.cx.calm (s.h k).h (by rw[dm (s.h k).pl];simp[(s.h k).n]) (by rw[dm (s.h k).pl];exact oZ),rfl))
 |_=>none
noncomputable def cI0(t e:Expr):Option (OI B Z t e):=do
 let x <- r.e Z e
 match Z.at e.pos 1 with
 |0=>↑(iL x.c,λk=>(K8 k.cx.K (x.h k).h,(x.h k).pl))
 |1=>↑(iT x.c,λk=>(K9 k.cx.K (x.h k).h,(x.h k).pl))
 |_=>↑(f9 x.c,λk=>(C2 (x.h k).h,(x.h k).pl))
noncomputable def Kp(t:Expr):(e:Expr)->Option (OI B Z t e)
 | .Name x p=>do
  let d <- ck (Ub Z x);let ks <- VM x B.t.wl
  ↑(Wx ks.1,λk=>by let(a,i,h1,f,g):=k.fx.wl x ks.1 ks.2;exact(Gy f g (eI (k.gl d.down).1 h1 rfl (k.gl d.down).2.1),rfl))
 |_=>none
noncomputable def cIc(t:Expr)(x:Str)(p d:Pos)(a:Expr):Option (OI B Z t (.Call (.Name x p) [a] [] d)):=do
 let f <- ck (B.t.bl.contains x);let g <- ck (Ub Z x);let a <- r.e Z a
 match eqs x "range" with
 |some e=>↑(mx a.c,λk=>by cases e.down;exact(Gv (k.gl g.down).1 (k.fx.bi _ f.down) (a.h k).h (aD (a.h k).pl) (aE (aD (a.h k).pl)),rfl))
 |none=>do
  let e <- eqs x "reversed"
  match Z.at d 1 with
  |0=>↑(qP a.c,λk=>by cases e.down;exact(Gu k.cx.K (k.gl g.down).1 (k.fx.bi _ f.down) (a.h k).h (aD (a.h k).pl) (aE (aD (a.h k).pl)),rfl))
  |_=>↑(ER a.c,λk=>by cases e.down;exact(Gw k.cx.K (k.gl g.down).1 (k.fx.bi _ f.down) (a.h k).h (aD (a.h k).pl) (aE (aD (a.h k).pl)),rfl))
noncomputable def cIz(t:Expr)(x:Str)(p d:Pos)(a b:Expr):Option (OI B Z t (.Call (.Name x p) [a,b] [] d)):=match t with
 | .Tuple _ _ _=>do
  let e <- eqs x "zip";let f <- ck (B.t.bl.contains x);let g <- ck (Ub Z x);let a <- r.e Z a;let b <- r.e Z b
  ↑(wI a.c b.c,λk=>by cases e.down;exact He (a.h k) (b.h k) k.fx k.cx f.down (k.gl g.down))
 |_=>none
noncomputable def cIt(t:Expr):(e:Expr)->Option (OI B Z t e)
 | .Call (.Name x p) [a] [] d=>cIc r Z t x p d a <|> cI0 r Z t _
 | .Call (.Name x p) [a,b] [] d=>cIz r Z t x p d a b <|> cI0 r Z t _
 | .Call (.Attribute o m q) [] [] d=>(do
  let e <- eqs m "values";let f <- ck (VI o);let hl <- ck (q.endLine==d.line);let x <- r.e Z o
  ↑(kY x.c,λk=>by cases e.down;exact(C3 (x.h k).h (fh f.down) hl.down,rfl))) <|> cI0 r Z t _
 |e=>Kp Z t e <|> cI0 r Z t e
noncomputable def HI(Z:Zx)(a:Scope):List Nat:=(List.range Z.N.length).filter λi=>match Z.N[i]? with
 |some x=>a.names.lookup x==some .free
 |none=>false
structure Oc(B:Bn)(Z:Zx)(sc:Scope)(pos:Pos)(e:Expr)(gs:List Comprehension) where
 c:Ce
 h:∀{X E},At B Z X E->Cq X B.g E sc pos e gs c
noncomputable def cOc(e:Expr)(l:Scope)(p:Pos):(gs:List Comprehension)->Option (Oc B Z l p e gs)
 |[⟨d,a,q,0⟩]=>do
  let i <- cIt r Z d a;let f:=tgN 3 d;let fr:=HI Z l;let N:=f++fr.map λi=>Z.N.getD i "";let bk <- ck (bkZ Z l f fr N);let Y:=Z.Sy l N;let g <- r.g Y d;let t <- Kn r Y q;let e <- r.e Y e
  some ⟨ay i.c f.length fr g.c t.c e.c,λk=>by
   have A:=λm C s H u=>k.Sy (k.cx.Sy (sc:=l) (cl:=m) (C:=C) (s:=s) (H:=H) (fp:=u) (sJ (k.bk bk.down)).2.2);exact .of (i.h k) k.cx (k.bk bk.down) (xP (λ_ _ _ _ _=>(g.h (A _ _ _ _ _)).h) (λ_ _ _ _ _=>(t.h (A _ _ _ _ _)).h) λ_ _ _ _ _=>(e.h (A _ _ _ _ _)).h) Wu.of⟩
 |[⟨d,a,[],0⟩,⟨t1,v,[],0⟩]=>do
  let i <- cIt r Z d a;let f:=tgN 3 d++tgN 3 t1;let fr:=HI Z l;let N:=f++fr.map λi=>Z.N.getD i "";let bk <- ck (bkZ Z l f fr N);let Y:=Z.Sy l N;let g <- r.g Y d;let j <- cIt r Y t1 v;let g1 <- r.g Y t1;let e <- r.e Y e
  some ⟨sN i.c f.length fr g.c j.c g1.c e.c,λ{X E} k=>by
   have A:=λm C s H u=>k.Sy (k.cx.Sy (sc:=l) (cl:=m) (C:=C) (s:=s) (H:=H) (fp:=u) (sJ (k.bk bk.down)).2.2);exact .of (i.h k) k.cx (k.bk bk.down) (Eh k.cx.calm (λ_ _ _ _ _=>(g.h (A _ _ _ _ _)).h) (λ_ _ _ _ _=>(j.h (A _ _ _ _ _)).h) (λ_ _ _ _ _=>(g1.h (A _ _ _ _ _)).h) (λ_ _ _ _ _=>(e.h (A _ _ _ _ _)).h) λm C=>kh (j.h (A m C X.s₀ X.H₀ [])).pl) Yq.of⟩
 |_=>none
noncomputable def Kg(o:Expr)(f:Str)(a:Pos):Option (OE B Z (.Attribute o f a)):=do
 let d <- ck (VI o);let x <- r.e Z o;let q <- lkd f B.t.dl;let n <- VU B.g.ST f
 ↑(bc q.1 n.1 x.c,λk=>JX (x.h k) d.down k.fx k.cx q.2 n.2)
noncomputable def Ki(d:Pos):(g:BoolOp)->(f:zp)->Option (OE B Z (.BoolOp g f d))
 |_,[a]=>do let x <- r.e Z a;↑(x.c,λk=>(F3 (x.h k).h,rfl))
 | .And,a::b::f=>do let x <- r.e Z a;let y <- r.e Z (.BoolOp .And (b::f) d);↑(UZ x.c y.c,λk=>(GM (x.h k).h (y.h k).h,rfl))
 | .Or,a::b::f=>do let x <- r.e Z a;let y <- r.e Z (.BoolOp .Or (b::f) d);↑(Zn x.c y.c,λk=>(Jn (x.h k).h (y.h k).h,rfl))
 |_,_=>none
theorem CW{X:Cx}(ok:Rt X.prog X.w X.K X.mg X.base e k f i j (R9 g F))(l:RE k X.A)(q:Gl X x)(t:X.mg x= ↑⇑f)(hk:W.keepIn X.K ⇑f=true)(u:Binds X.K i j [])(v:aY e X E)
  (a:(x==("__debug__":Str))=false:=by decide):PE X (.Call (.Name x p) [] [] y) (tE g E (ae F aN)):=λd s z H Q I ⟨m,G,S,sm,J,h⟩=>by
 refine OQ (dj I q t ?_ a);exact W.callWith_K0 I.Se hk (kj (us:=[]) (vs:=[]) (R1:=[]) ok l u .nil v I .nil (m,S,[],sm,.nil,h))
section
theorem At.YJ{Z:Zx}{X:Cx}(k:At B Z X E)(h:Ub Z x=true):(x==("__debug__":Str))=false:=(k.gl h).2.1
theorem At.gl'{Z:Zx}{X:Cx}(k:At B Z X E)(h:Ub Z x=true):Gl X x:=(k.gl h).1
theorem pC(h:(a::d).all U4=true):U4 a=true/\d.all U4=true:=(Nt _ _).mp (Og▸h)
end
noncomputable def cC0(x:Str)(p d:Pos):Option (OE B Z (.Call (.Name x p) [] [] d)):=do
 let a <- ck (Ub Z x)
 (do
  let q <- VM x B.t.mz
  some ⟨gJ q.1.1 (B.call q.1.2.1) q.1.2.2 aN,λk=>by
    let(f,l,m,v,w,h1,e,g,j,h5,u):=k.fx.mz x q.1 q.2;exact(C4 h1 u k.cx.hr (k.gl' a.down) e g j h5 k.cx.ps (k.YJ a.down),rfl)⟩)
 <|> (do
  let i <- VM x B.t.fl
  some ⟨ae (B.call i.1) aN,λk=>by
      let(f,h1,e,l,m,g,j):=k.fx.fn x i.1 i.2;exact(CW j k.cx.hs (k.gl' a.down) h1 e g k.cx.ps (k.YJ a.down),rfl)⟩)
noncomputable def cMk(x:Str)(p g:Pos)(a:Expr)(u:zp):Option (OE B Z (.Call (.Name x p) (a::u) [] g)):=do
 let e <- ck (Ub Z x);let s <- WV r Z (a::u)
 (do
  let q <- VM x B.t.mz
  some ⟨gJ q.1.1 (B.call q.1.2.1) q.1.2.2 s.c,λk=>by
    let(f,v,w,y,z,h1,i,j,l,h5,m):=k.fx.mz x q.1 q.2;have d:=pC (s.h k).pl;exact(GB h1 m k.cx.hr (k.gl' e.down) i j l h5 k.cx.ps (s.h k).h (k.YJ e.down) (aE (aD d.1)) (cF d.2),rfl)⟩)
 <|> (do
  let q <- VM x B.t.df
  some ⟨sM (B.call q.1.1) q.1.2 s.c,λk=>by
      let(f,v,w,y,z,h1,i,j,l,h5,m):=k.fx.df x q.1 q.2;have d:=pC (s.h k).pl;exact(CY m k.cx.hs (k.gl' e.down) h1 i j l h5 k.cx.ps (s.h k).h (k.YJ e.down) (aE (aD d.1)) (cF d.2),rfl)⟩)
noncomputable def cKw(x:Str)(p d:Pos)(n:Str)(v:Expr)(j:Pos):(l:zp)->Option (OE B Z (.Call (.Name x p) l [(↑n,v,j)] d))
 |a::m=>do
  let g <- ck (Ub Z x);let s <- WV r Z (a::m);let y <- r.e Z v;let q <- VM x B.t.kw;let e <- eqs q.1.2.2 n
  some ⟨jg (B.call q.1.1) q.1.2.1 s.c %[y.c|0],λ{X E} k=>by
   let(f,G,H,I,J,h1,u,i,w,h5):=k.fx.kw x q.1 q.2;have z:=pC (s.h k).pl;rw[e.down]at i;exact(CZ h5 k.cx.hs (k.gl' g.down) h1 u i w k.cx.ps (s.h k).h (vE (y.h k).h Ax) rfl rfl (k.YJ g.down) (aE (aD z.1)) (by rw[cF (s.h k).pl];rfl),rfl)⟩
 |[]=>none
theorem Cf{e:zp}{d a:Pos}(i:VI o=true)(j:e.all U4=true)(h:e.length<20)(hl:(d.endLine==a.line)=true):eval (.Call (.Attribute o m d) e [(↑n,v,g)] a) env=(do
   let ov <- eval o env
   standAt d.atName
   let(f,first) <- holding [ov] (getMethod ov m (do return (<- importBound o env).getD true))
   callWith a f first (backTo a (starEach e env)) (backToKw a (keywordEach [(↑n,v,g)] env))):=by
 show(do let ov <- attributeBase o m env (eval o env);standAt d.atName;methodCall o m d a env ov (e.length+1) (backTo a (starEach e env)) (backToKw a (keywordEach [(↑n,v,g)] env)))=_
 have few:methodCallForm (e.length+1) (backTo a (starEach e env)) (backToKw a (keywordEach [(↑n,v,g)] env))=true:=by unfold methodCallForm;rw[lE j];simp only[OM];exact(Nt _ _).mpr (rfl,Oz (show e.length+1+1<30 by lia))
 rw[fh i];unfold methodCall;rw[few];unfold calleeOf methodCallPos;rw[hl];rfl
noncomputable def cKm(o:Expr)(m:Str)(l d:Pos)(n:Str)(v:Expr)(z:Pos):(G:zp)->Option (OE B Z (.Call (.Attribute o m l) G [(↑n,v,z)] d))
 |a::p=>do
  let H <- ck (VI o);let hl <- ck (l.endLine==d.line);let u <- r.e Z o;let s <- WV r Z (a::p);let y <- r.e Z v;let q <- VM m B.t.km;let e <- eqs q.1.2.2.2 n;let i <- VU B.g.ST m;let j <- ck (decide ((a::p).length<20))
  some ⟨jh q.1.1 i.1 (B.call q.1.2.1) q.1.2.2.1 u.c s.c %[y.c|0],λ{X E} k=>by
   let(h0,f,M,N,O,Q,h1,w,I,J):=k.fx.km m q.1 q.2;have L:=pC (s.h k).pl;rw[e.down]at w;exact(C6 k.K h0 h1 i.2 J k.cx.hs w I k.cx.ps (u.h k).h (s.h k).h (vE (y.h k).h Ax) rfl rfl (aE (aD L.1)) (by rw[cF (s.h k).pl];rfl) (Cf H.down (s.h k).pl (NT j.down) hl.down),rfl)⟩
 |[]=>none
theorem Il{e d:Pos}(i:VI o=true)(f:U4 a=true)(g:U4 c=true)(hl:(e.endLine==d.line)=true):M2 X o m e a c d:=(fh i,by rw[aE (aD f),aE (aD g)];rfl,hl,by rw[aE (aD f),aE (aD g)];rfl)
noncomputable def Kl(t:Str)(i:Pos)(m:Str)(f d:Pos)(a:Expr):(c:Expr)->Option (OE B Z (.Call (.Attribute (.Name t i) m f) [a,c] [] d))
 |c=>do
  let e <- eqs m "get";let g <- ck (Ub Z t);let hl <- ck (f.endLine==d.line);let ks <- VM t B.t.kl;let x <- r.e Z a;let y <- r.e Z c
  some ⟨mP ks.1 x.c y.c,λk=>by
   let(b,T,h1,j,l,p):=k.fx.kl t ks.1 ks.2;cases e.down;exact(Gq j l k.K p (eI (k.gl' g.down) h1 rfl (k.YJ g.down)) (x.h k).h (y.h k).h (Il rfl (x.h k).pl (y.h k).pl hl.down),rfl)⟩
noncomputable def cLn(p d:Pos)(a:Expr)(x:Str):Option (OE B Z (.Call (.Name x p) [a] [] d)):=do
 let _ <- ck (Nat.beq (Z.at d) 3);let e <- eqs x "len";let g <- ck (B.t.bl.contains x);let i <- ck (Ub Z x);let q <- lkm "__len__" B.t.ml;let y <- r.e Z a
 some ⟨mQ q.1.1 (B.call q.1.2) y.c,λk=>by
  cases e.down;let(_,f,h1,m,u,j,l):=k.fx.met _ _ _ q.2;exact(GA k.K h1 l k.cx.hr j (k.gl' i.down) (k.fx.bi _ g.down) gU (y.h k).h (aD (y.h k).pl) (aE (aD (y.h k).pl)),rfl)⟩
structure Od(B:Bn)(Z:Zx)(pos:Pos)(keys:List (Option Expr))(vs:zp) where
 xs:List Str
 ks:List Nat
 c:Ca
 h:∀{X E},At B Z X E->PQ X B.g E pos keys vs xs c
 sd:Sd B.g ks xs
 al:keys.all (·.isSome)=true
 ln:keys.length=vs.length
noncomputable def cDd(a:Pos):(keys:List (Option Expr))->(d:zp)->Option (Od B Z a keys d)
 |[],[]=>↑([],[],aN,λ_=>Gb,.nil,rfl,rfl)
 |some (.Constant (.str x) _ _)::ks,v::d=>do
  let n <- VU B.g.ST x;let y <- r.e Z v;let o <- cDd a ks d
  ↑(x::o.xs,n.1::o.ks,aC y.c o.c,λk=>CP (y.h k).h (o.h k),.cons n.2 o.sd,by rw[Og,o.al];rfl,by rw[N6,N6,o.ln])
 |_,_=>none
noncomputable def Ht(keys:List (Option Expr))(d:zp)(a:Pos):Option (OE B Z (.Dict keys d a)):=do
 let o <- cDd r Z a keys d;let h1 <- ck (decide o.ks.Nodup);let e <- ck (decide (o.xs.length<=15/\keys.length<=15/\keys≠[]))
 ↑(Ex o.ks o.c,λk=>let h:=NT e.down;(IP (o.h k) o.sd (NT h1.down) h.1 o.al o.ln h.2.2 h.2.1,rfl))
noncomputable def Kj(d:Pos):(f:Expr)->(i:zp)->Option (OE B Z (.Call f i [] d))
 | .Name x p,[]=>cC0 Z x p d
 | .Name x p,a::e=>Kk r Z x p d a e <|> (match e with
  |[]=>cLn r Z p d a x <|> cB1 r Z x p d a
  |[.Name y q]=>Ko r Z x p d a y q
  |_=>none) <|> cMk r Z x p d a e
 | .Attribute (.Name t g) m q,[a,c]=>Kl r Z t g m q d a c <|> Hw r Z (.Name t g) m q d [a,c]
 | .Attribute o m q,e=>(match e with
  |[a]=>cM1 r Z o m q d a
  |_=>none) <|> Hw r Z o m q d e
 |_,_=>none
noncomputable def cE:(e:Expr)->Option (OE B Z e)
 | .Name x p=>Hx Z x p
 | .Constant (.int i) _ _=>↑(cC (.int i),λ_=>(IW,rfl))
 | .Constant (.bool i) _ _=>↑(cC (.bl i),λ_=>JV)
 | .Constant .none _ _=>↑(cC .Ro,λ_=>(Je,rfl))
 | .Constant (.str x) _ _=>do let n <- VU B.g.ST x;↑(cC (.str n.1),λ_=>(Ji n.2,rfl))
 | .Tuple l _ _=>do let s <- WV r Z l;↑(au s.c,λk=>(Jk (s.h k).h,rfl))
 | .List l _=>do let s <- WV r Z l;↑(bf s.c,λk=>(Jc (s.h k).h,rfl))
 | .BinOp a w b p=>Kh r Z a b p w
 | .UnaryOp .USub a _=>do let x <- r.e Z a;↑(cU A7 x.c,λk=>(Lk A9 FC (x.h k).h,rfl))
 | .UnaryOp .Not a _=>do let x <- r.e Z a;↑(cNt x.c,λk=>(GN (x.h k).h,rfl))
 | .BoolOp w l p=>Ki r Z p w l
 | .IfExp c a b _=>do let t <- r.t Z c;let x <- r.e Z a;let y <- r.e Z b;↑(T4 t.c x.c y.c,λk=>(La (t.h k).h (x.h k).h (y.h k).h,rfl))
 | .Compare a z bs p=>do let x <- Hs r Z a p z bs;↑(x.c,λk=>((x.h k).h,(x.h k).pl))
 | .Subscript a b p=>Ku r Z a p b
 | .Attribute o f p=>Kg r Z o f p
 | .Call f u [] p=>Kj r Z p f u
 | .ListComp e gs G p=>do
  let x <- cOc r Z e G p gs
  match Z.at p,gs with
  |0,_=>↑(x.c,λk=>(x.h k).v)
  |_,[⟨_,.Call (.Attribute d _ _) _ _ _,_,_⟩]=>do let y <- r.e Z d;↑(kA y.c x.c,λk=>D3 (x.h k).v)
  |_,[⟨_,d,_,_⟩]=>do let y <- r.e Z d;↑(kA y.c x.c,λk=>D3 (x.h k).v)
  |_,_=>none
 | .Call (.Name x p) u [⟨↑n,v,E⟩] j=>cKw r Z x p j n v E u
 | .Call (.Attribute o m q) u [⟨↑n,v,E⟩] j=>cKm r Z o m q j n v E u
 | .Dict [] [] _=>↑(qh,λ_=>(Gn,rfl))
 | .Dict ks H p=>Ht r Z ks H p
 |_=>none
noncomputable def cT:(e:Expr)->Option (OT B Z e)
 | .Compare a d bs p=>do let x <- Hs r Z a p d bs;↑(Rq x.c,λk=>LH (x.h k))
 | .UnaryOp .Not a _=>do let t <- r.t Z a;↑(Sn t.c,λk=>⟨GK (t.h k).h⟩)
 | .BoolOp f g p=>do let t <- r.w Z (.BoolOp f g p);↑(t.c,λk=>⟨PW.pt (t.h k).h⟩)
 |e=>do let i <- ck (ivE e);let x <- r.e Z e;↑(tV x.c,λk=>⟨Lj k.cx.K (x.h k).h (HX i.down)⟩)
noncomputable def cW:(e:Expr)->Option (OW B Z e)
 | .BoolOp .And [a] _=>do let t <- r.t Z a;↑(t.c,λk=>⟨vD (t.h k).h⟩)
 | .BoolOp .Or [a] _=>do let t <- r.t Z a;↑(t.c,λk=>⟨ug (t.h k).h⟩)
 | .BoolOp .And (a::b::d) p=>do let t <- r.t Z a;let u <- r.w Z (.BoolOp .And (b::d) p);↑(Wj t.c u.c,λk=>⟨IK (t.h k).h (u.h k).h⟩)
 | .BoolOp .Or (a::b::d) p=>do let t <- r.t Z a;let u <- r.w Z (.BoolOp .Or (b::d) p);↑(Tf t.c u.c,λk=>⟨Lf (t.h k).h (u.h k).h⟩)
 |_=>none
noncomputable def BE(a:Expr)(p:Pos):(t:Expr)->Option (OS B Z (.Assign [t] a p))
 | .Name x q=>do
  let i <- VU Z.N x;let h <- ck (ZD Z x);let sw <- pB (swapsWith a ↑(.Name x q) p.line (sv Z.sc)) false;let y <- r.e Z a;↑(aw i.1 y.c,λk=>⟨Jh k.cx.nd (k.lo i.2 h.down).1 (k.lo i.2 h.down).2.1 (y.h k).h (k.sw.trans sw.down) (k.lo i.2 h.down).2.2⟩)
 | .Attribute o f _=>do
  let x <- r.e Z o;let y <- r.e Z a;let q <- lkd f B.t.dl;let n <- VU B.g.ST f
  ↑(fI q.1 n.1 x.c y.c,λk=>Hi (x.h k) (y.h k) k.fx k.cx q.2 n.2)
 | .Subscript o i _=>do
  let d <- ck (ZA a);let x <- r.e Z o;let y <- r.e Z i;let z <- r.e Z a
  ↑(i5 x.c y.c z.c,λk=>⟨Gp (x.h k).h (y.h k).h (z.h k).h (oX d.down)⟩)
 |b=>do
  let d <- ck (ZA a);let sw <- pN (swappedStores [b] a (sv Z.sc));let g <- r.g Z b;let y <- r.e Z a;↑(dJ g.c y.c,λk=>J9 (y.h k) (g.h k) d.down (k.ss.trans sw.down))
noncomputable def Kw(a:Expr)(p:Pos)(d:zp)(n:Nat)(q:Pos):Option (OS B Z (.Assign [.Tuple d n q] a p)):=do
 let sw <- pN (swappedStores [.Tuple d n q] a (sv Z.sc));let g <- cGs r Z d;let y <- r.e Z a
 ↑(AK g.c y.c,λk=>⟨Jl k.K k.cx.calm (y.h k).h (g.h k).h (by rw[dm (g.h k).pl];simp[(g.h k).n]) (by rw[dm (g.h k).pl];exact oZ) (by cases a<;>rfl) (k.ss.trans sw.down) rfl⟩)
noncomputable def HY:(a:zl)->Option (Ob B Z λX _ is=>ZS X is a)
 |[]=>↑([],λ_=>.nil)
 |x::a=>do let i <- VU Z.N x;let h <- ck (liZ Z x);let s <- HY a;↑(i.1::s.c,λk=>.cons (k.li i.2 h.down) (s.h k))
noncomputable def Kr(p:Pos)(e:Nat)(pt:Pos)(f:Nat)(g:Pos)(i a:zp):Option (OS B Z (.Assign [.Tuple i e pt] (.Tuple a f g) p)):=do
 let sw <- pL (swappedStores [.Tuple i e pt] (.Tuple a f g) (sv Z.sc));let is <- HY Z sw.1;let d <- ck (decide is.c.Nodup&&Nat.ble is.c.length 9);let s <- WV r Z a
 ↑(mC (is.c.map gN) s.c,λk=>have d:=(Nt _ _).mp d.down;⟨Jf k.cx.calm k.cx.nd (is.h k) (NF d.2) (NT d.1) (s.h k).h (k.ss.trans sw.2) rfl⟩)
noncomputable def Kf(x:Str)(q:Pos)(e:Expr)(a:Scope)(d p:Pos)(gs:List Comprehension):Option (OS B Z (.Assign [.Name x q] (.ListComp e gs a d) p)):=do
 let i <- VU Z.N x;let h <- ck (liZ Z x);let sw <- pB (swapsWith (.ListComp e gs a d) ↑(.Name x q) p.line (sv Z.sc)) true;let o <- cOc r Z e a d gs
 ↑(aw i.1 o.c,λk=>(o.h k).s (k.li i.2 h.down) (k.sw.trans sw.down))
noncomputable def cBd(p:Pos)(b:List Stmt):Option (OL B Z b):=do
 let k <- r.l Z b
 match Z.at p with
 |0=>↑k
 |_=>↑(sG ((Z.hk p 0).tail) k.c,λh=>⟨q_G (k.h h).h⟩)
noncomputable def Ks(p:Pos)(e:Expr):Option (OS B Z (.Raise ↑e none p)):=match e with
 | .Call (.Name x _) (a::d) [] _=>(do
  let rz <- ck Z.rz;let n <- VM x B.t.xl;let f <- ck (Ub Z x);let s <- WV r Z (a::d)
  ↑(ef n.1 s.c,λk=>by let(E0,rfl,g):=k.rz rz.down;exact DE (s.h k) k.fx k.cx n.2 (k.gl f.down) g)) <|> ↑⟨eA,λ_=>Bi⟩
 |_=>↑(eA,λ_=>Bi)
structure Oh(B:Bn)(s:List Stmt) where
 c:Cs
 h:∀X E,QL X B.g E s c
noncomputable def Km:(s:List Stmt)->Option (Oh B s)
 |[.Return ↑(.Constant (.bool b) _ _) _]=>↑(ah (cC (.bl b)),λ_ _=>D4 (D5 JV))
 |_=>none
noncomputable def Kv(p:Pos)(b:List Stmt)(x:Str)(q g:Pos):(s:List Stmt)->Option (OS B Z (.Try b [.ExceptHandler ↑(.Name x q) none s g] [] [] p))
 |b0::s=>do
  let a <- ck Z.top;let d <- VM x B.t.hl;let i <- ck (Ub Z x);let e <- r.l {Z with rz:=false} b;let f <- Km (B:=B) (b0::s)
  ↑(lS e.c d.1 f.c,λ{X E} k=>J8 (λ_ _ _ c j=>e.h (c,k.fx,k.N,k.sc,k.fn,λh=>(j,(k.top h).2),(λh=>nomatch h))) (λ_=>f.h _ _) k.fx k.cx d.2 (k.gl i.down) (k.top a.down).2.1 (k.top a.down).2.2)
 |_=>none
noncomputable def cS:(s:Stmt)->Option (OS B Z s)
 | .Return ↑a _=>do let x <- r.e Z a;↑(ah x.c,λk=>D5 (x.h k))
 | .Return none _=>↑(Dm,λ_=>⟨GF⟩)
 | .Continue _=>↑(sCt,λ_=>⟨K3⟩)
 | .Expr a _=>do let m <- ck (ZA a);let x <- r.e Z a;↑(RX x.c,λk=>⟨K4 (x.h k).h (oX m.down)⟩)
 | .If c a b _=>do let t <- r.t Z c;let x <- r.l Z a;let y <- r.l Z b;↑(Rw t.c x.c y.c,λk=>⟨IT (t.h k).h (x.h k).h (y.h k).h⟩)
 | .Assign [.Name x q] (.ListComp e gs u v) p=>Kf r Z x q e u v p gs <|> BE r Z _ p (.Name x q)
 | .Assign [.Tuple d f pt] (.Tuple w z E) p=>Kr r Z p f pt z E d w <|> BE r Z _ p (.Tuple d f pt)
 | .Assign [.Tuple d f pt] a p=>match Z.at p with
  |0=>BE r Z a p (.Tuple d f pt)
  |_=>Kw r Z a p d f pt
 | .Assign [t] a p=>BE r Z a p t
 | .AugAssign (.Name x _) .Add a _=>do let i <- VU Z.N x;let h <- ck (ZD Z x);let y <- r.e Z a;↑(Dk i.1 y.c,λk=>⟨IV k.cx.nd (k.lo i.2 h.down).1 (k.lo i.2 h.down).2.1 (y.h k).h (k.lo i.2 h.down).2.2⟩)
 | .AugAssign (.Subscript o (.Constant (.int (.ofNat n)) _ _) _) .Sub (.Constant (.int q) _ _) _=>do let x <- r.e Z o;↑(AJ x.c n q,λk=>⟨Jb k.cx.K (x.h k).h (by intros;rfl)⟩)
 | .For t e b [] p=>do let j <- ck Z.top;let i <- cIt r Z t e;let g <- r.g Z t;let k <- cBd r Z p b;↑(dI i.c g.c k.c,λa=>⟨IR (a.top j.down).1 a.cx.calm (i.h a).h (g.h a).h (k.h a).h (kh (i.h a).pl)⟩)
 | .While c b [] p=>do let j <- ck Z.top;let t <- r.t Z c;let k <- cBd r Z p b;↑(AL t.c k.c,λa=>⟨Jo (a.top j.down).1 (t.h a).h (k.h a).h⟩)
 | .Raise ↑e none p=>Ks r Z p e
 | .Try b [.ExceptHandler ↑(.Name x q) none s G] [] [] p=>Kv r Z p b x q G s
 |_=>none
noncomputable def cL:(s:List Stmt)->Option (OL B Z s)
 |[]=>↑(Ry,λ_=>⟨Ld⟩)
 |[a]=>do let x <- cS r Z a;↑(x.c,λk=>D4 (x.h k))
 |a::b::s=>do let x <- cS r Z a;let y <- r.l Z (b::s);↑(sq x.c y.c,λk=>⟨Lg (x.h k).h (y.h k).h⟩)
end
noncomputable def cR(B:Bn):Nat->Rc B
 |0=>(λ_ _=>none,λ_ _=>none,λ_ _=>none,λ_ _=>none,λ_ _=>none)
 |n+1=>(cE (cR B n),cT (cR B n),cW (cR B n),cG (cR B n),cL (cR B n))
end EV
namespace My
open PySem L2 PyProof.Rows
noncomputable abbrev TL:List (Str×KTD.Dat):=[("num",.flat (.int 9999)),("arg",.flat (.int 3))]
noncomputable abbrev TB:List (Str×KTD.Dat):=[("add",.flat (.int 2)),("sub",.flat (.int 2)),("mul",.flat (.int 2)),("less",.flat (.int 2)),("pick",.flat (.int 3))]
noncomputable abbrev TM:List (Str×KTD.Dat):=[("hole",.flat (.int 2)),("gap",.flat (.int 3)),("slot",.flat (.int 2))]
noncomputable abbrev ZE:List (Str×KTD.Dat):=[("load",.flat (.int 3)),("skip",.flat (.int 9)),("zero",.flat (.int 9))]
noncomputable abbrev TF:List (Str×KTD.Dat):=[("low",.flat (.str "gap")),("high",.flat (.str "gap")),("arg",.flat (.str "slot"))]
noncomputable abbrev AHE:List D:=[.int 10,.int 11]
noncomputable abbrev BAS:List D:=[.tup [.str "one",.tup [.str "gap",.int 0,.int 99],.tup [.int 1,.tup [.str "low",.int 0]]],.tup [.str "two",.tup [.str "gap",.int 0,.int 9999],.tup [.int 2,.tup [.str "low",.int 0],.tup [.str "high",.int 0]]],.tup [.str "slot",.tup [.str "slot",.int 0],.tup [.int 3,.tup [.str "arg",.int 0]]],.tup [.str "add",.tup [.str "add",.tup [.str "hole",.int 0],.tup [.str "hole",.int 1]],.tup [.int 4]],.tup [.str "sub",.tup [.str "sub",.tup [.str "hole",.int 0],.tup [.str "hole",.int 1]],.tup [.int 5]],.tup [.str "mul",.tup [.str "mul",.tup [.str "hole",.int 0],.tup [.str "hole",.int 1]],.tup [.int 6]],.tup [.str "less",.tup [.str "less",.tup [.str "hole",.int 0],.tup [.str "hole",.int 1]],.tup [.int 7]],.tup [.str "more",.tup [.str "add",.tup [.str "hole",.int 0],.tup [.str "gap",.int 0,.int 99]],.tup [.int 12,.tup [.str "low",.int 0]]]]
noncomputable abbrev BEH:List D:=[.int 8,.int 9]
noncomputable abbrev INS:List D:=[.tup [.str "end",.int 0],.tup [.str "put",.int 1],.tup [.str "far",.int 2],.tup [.str "load",.int 1],.tup [.str "add",.int 0],.tup [.str "sub",.int 0],.tup [.str "mul",.int 0],.tup [.str "less",.int 0],.tup [.str "skip",.int 1],.tup [.str "jump",.int 2],.tup [.str "zero",.int 1],.tup [.str "none",.int 2],.tup [.str "more",.int 1],.tup [.str "twice",.int 0],.tup [.str "about",.int 0],.tup [.str "call",.int 2],.tup [.str "back",.int 0]]
noncomputable abbrev STR:List D:=[.str "put",.str "far",.str "load",.str "add",.str "sub",.str "mul",.str "less",.str "more",.str "twice",.str "about"]
noncomputable abbrev TRN:List D:=[.int 0,.int 1,.int 2,.int 99,.int 100,.int 9999]
noncomputable abbrev WAY:List D:=[.str "skip",.str "jump",.str "zero",.str "none",.str "call",.str "back"]
noncomputable def bS(s:Stmt)(j:Nat):Stmt:=match s with
 | .ClassDef _ _ _ b _ _ _ _ _ _ _=>b.getD j (.Pass (0,0,0,0))
 |_=>.Pass (0,0,0,0)
noncomputable abbrev jy:Stmt:=top 23
noncomputable abbrev jU:Stmt:=top 113
noncomputable abbrev i6:Stmt:=top 128
noncomputable abbrev eg:Stmt:=top 129
noncomputable abbrev rR:Stmt:=top 131
noncomputable abbrev rS:Stmt:=top 24
noncomputable abbrev JC:Stmt:=top 53
noncomputable abbrev xj:Stmt:=top 87
noncomputable abbrev ik:Stmt:=bS (top 51) 0
noncomputable abbrev j5:Stmt:=bS (top 111) 0
noncomputable abbrev uv:Stmt:=bS (top 111) 9
theorem Ur:RM ["thing"] ["thing"] (ag jy):=.ZU
theorem Tz:RM ["_law_script","_law_town","_law_many","_law_one","_law_at","_law_mixed"] ["_law_script","_law_town","_law_many"] (ag jU):=.ZU
theorem Tp:RM ["_law_e","_law_own"] ["_law_e"] (ag i6):=.ZU
theorem jV:RM ["_law_shop","_law_what","_law_one","_law_other","_law_e"] ["_law_shop","_law_what","_law_one","_law_other"] (ag eg):=.ZU
structure Df(K:qs)(mg:za)(n:Str)(st:Stmt)(ps:zl) where
 a:Addr
 d:FuncData
 f:Va K n n st a d
 m:mg n= ↑⇑a
 b:Binds K d ps []
noncomputable abbrev Ok(P:Program)(w:World)(base:Heap)(k:Nat){K:qs}{mg:za}{n:Str}{st:Stmt}{e:zl}(D:Df K mg n st e)(f:Sp):Prop:=Rt P w K mg base Xf k D.a D.d e f
noncomputable def gH(st:Stmt):List Str:=(bD st).posonlyargs.map (·.arg)++(bD st).args.map (·.arg)++(bD st).kwonlyargs.map (·.arg)
noncomputable def swp(l:zl):Option (List Nat)->List Str
 |some [i,j]=>(l.set i (l.getD j "")).set j (l.getD i "")
 |_=>l
noncomputable def Xs(st:Stmt)(h:List (Nat×List Nat)):List Str:=swp (gH st++((ag st).names.filter λp=>(match p.2 with | .local=>true | .cell=>true|_=>false)&&!(gH st).contains p.1).map (·.1)) (h.lookup 0)
noncomputable def fsB(st:Stmt)(h:List (Nat×List Nat)):Bool:=(match (ag st).kind with | .function=>true|_=>false)&&!(ag st).isCoroutine&&!(ag st).isGenerator&&EV.YI (Xs st h)&&(Xs st h).take (gH st).length==gH st&&(gH st).all (λx=>match (ag st).names.lookup x with|some .local=>true|some .cell=>true|_=>false)&&(ag st).names.all λy=>match y.2 with | .free=>false|_=>true
theorem m7{st:Stmt}(h:fsB st g=true):RM (Xs st g) (gH st) (ag st):=by
 unfold fsB at h;simp only[Nt,OV]at h;let((((((h1,a),d),f),h7),h5),i):=h;refine(?_,a,d,EV.VJ f,eq_of_beq h7,λx j=>?_,λy hy e=>?_)
 ·split at h1<;>first|assumption|cases h1
 ·have h:=NX.mp h5 x j;split at h
  ·rename_i q;exact .inl q
  ·rename_i q;exact .inr q
  ·cases h
 ·have h:=NX.mp i y hy;rw[e]at h;cases h
noncomputable abbrev FT:List (Str×Stmt×Nat):=[(("is_whole":Str),top 21,0),(("is_tagged":Str),top 22,1),(("need_args":Str),top 25,3),(("is_node":Str),top 31,4),(("trees_within":Str),top 32,5),(("is_tree":Str),top 33,6),(("need_tree":Str),top 34,7),(("worth_of_both":Str),top 35,8),(("reckoned":Str),top 36,9),(("walked":Str),top 37,10),(("is_code":Str),top 47,11),(("need_code":Str),top 48,12),(("instruction_at":Str),top 49,13),(("number_told":Str),top 50,14),(("started":Str),top 52,22),(("is_mark":Str),top 67,24),(("is_pattern_part":Str),top 68,25),(("marks_in":Str),top 69,26),(("is_numbered":Str),top 70,27),(("is_pattern":Str),top 71,28),(("is_filling":Str),top 72,29),(("is_cell":Str),top 73,30),(("are_instructions":Str),top 74,31),(("is_piece":Str),top 75,32),(("need_piece":Str),top 76,33),(("is_set":Str),top 77,34),(("need_set":Str),top 78,35),(("may_stand_for":Str),top 79,36),(("matches":Str),top 80,37),(("found_in":Str),top 81,38),(("filled_cell":Str),top 82,39),(("filled_pattern":Str),top 83,40),(("keeps":Str),top 84,41),(("rows_of":Str),top 85,42),(("args_for":Str),top 86,43),(("jump_over":Str),top 93,45),(("jumps_of_pick":Str),top 94,46),(("ways_of":Str),top 95,47),(("length_by":Str),top 96,48),(("best_by_ways":Str),top 97,49),(("best_covering":Str),top 98,50),(("length_of":Str),top 99,51),(("laid_pick":Str),top 103,52),(("laid_piece":Str),top 104,53),(("laid_cells":Str),top 105,54),(("code_of":Str),top 106,55),(("lay":Str),top 107,56),(("_law_pick":Str),top 114,71),(("_law_tree":Str),top 115,72),(("_law_args":Str),top 116,73),(("_law_two":Str),top 118,74),(("_law_worth":Str),top 119,75),(("_law_pieces":Str),top 120,76),(("_law_fit":Str),top 122,77),(("_law_over":Str),top 123,78),(("_law_least":Str),top 124,79),(("_law_shop_right":Str),top 130,80),(("lay_laying":Str),top 107,56)]
noncomputable abbrev M0:List (Str×Stmt×Nat):=[(("take":Str),bS (top 51) 1,16),(("push":Str),bS (top 51) 2,17),(("way":Str),bS (top 51) 4,18),(("finish":Str),bS (top 51) 5,19),(("change":Str),bS (top 51) 6,20),(("step":Str),bS (top 51) 3,21)]
noncomputable abbrev M1:List (Str×Stmt×Nat):=[(("has_piece":Str),bS (top 111) 1,58),(("order":Str),bS (top 111) 2,59),(("put":Str),bS (top 111) 3,60),(("drop":Str),bS (top 111) 4,61),(("pieces":Str),bS (top 111) 5,62),(("lay":Str),bS (top 111) 6,63),(("code":Str),bS (top 111) 7,64),(("tree":Str),bS (top 111) 8,65),(("is_stale":Str),bS (top 111) 10,67),(("stale":Str),bS (top 111) 11,68),(("total":Str),bS (top 111) 12,69),(("__len__":Str),bS (top 111) 14,70)]
noncomputable abbrev SPL:List (Str×Stmt×Nat):=[(("need_size":Str),top 24,2),(("run":Str),top 53,23),(("failing":Str),top 87,44),(("__init__":Str),bS (top 51) 0,15),(("__init__":Str),bS (top 111) 0,57),(("run":Str),bS (top 111) 9,66)]
noncomputable def WR:List Nat:=[0,0,1,1,0,0,1,1,0,1,1,1,1,1,1,0,2,2,2,2,2,2,0,1,0,1,1,1,1,1,1,1,1,1,1,1,0,0,1,0,1,1,0,0,1,0,0,1,1,1,1,1,1,1,1,1,1,0,2,2,2,2,2,2,2,2,2,2,2,2,2,2,2,2,0,0,1,0,0,1,2,0,0,2]
noncomputable def HT:List (Nat×List (Nat×List Nat)):=[(3,[(114120129,[1])]),(6,[(166114151,[1]),(156008154,[1])]),(10,[(216036073,[1]),(216008072,[1])]),(14,[(274032065,[1])]),(18,[(352022070,[1]),(356022070,[1])]),(20,[(390022066,[1])]),(21,[(334022046,[1])]),(22,[(430008038,[1])]),(25,[(502058112,[1]),(506128167,[1])]),(26,[(516036079,[1])]),(27,[(526044094,[1])]),(31,[(566022062,[1]),(566158171,[1])]),(34,[(608022100,[1])]),(37,[(634016038,[1])]),(38,[(656036062,[1]),(656080104,[1]),(656122148,[1])]),(41,[(704116127,[1])]),(43,[(732082096,[2]),(732040074,[1])]),(44,[(742050084,[1]),(744080101,[1]),(746044088,[1])]),(49,[(832104115,[1]),(830008140,[1,8])]),(52,[(880008218,[1])]),(53,[(896008118,[1]),(900120137,[1])]),(59,[(962064110,[2]),(966030064,[1])]),(68,[(1060080103,[2]),(1060044150,[1])]),(69,[(1066038142,[1])]),(70,[(1078030062,[2])]),(79,[(1236140177,[1]),(1248008146,[1,6,7])]),(80,[(0,[5,6]),(1376086114,[3]),(1376122150,[2]),(1380158177,[2]),(1380074114,[1]),(1380064178,[1]),(1386042076,[1]),(1388072112,[1]),(1386008048,[1,8])])]
noncomputable abbrev IL:List (Str×Int):=[("MOST_SIZE",10000),("MANY_ARGS",4),("LONGEST_NAME",8),("MOST_PARTS",40),("MOST_DEEP",8),("MOST_CELLS",1000),("MOST_CELL",99),("MOST_STEPS",100000),("MOST_PILE",64),("MOST_KEPT",16),("MOST_PATTERN_DEEP",3),("MOST_GAP",9999),("MOST_PIECE_CELLS",12),("MOST_PIECES",16),("MOST_TRIED_SIZE",5),("BENEATH_HOLES",1),("MOST_NEAR",9),("CALL_CELLS",3),("END",0),("CALL",15),("TRIED_SIZE",3)]
noncomputable abbrev CL:List (Str×List D):=[("INSTRUCTIONS",INS),("STRAIGHT",STR),("AHEAD",AHE),("BEHIND",BEH),("WAYS",WAY),("TRIED_NUMS",TRN)]
noncomputable abbrev TBL:List (Str×List (Str×KTD.Dat)):=[("MOST_IN_LEAF",TL),("TREES_IN_BRANCH",TB),("MARK_LENGTHS",TM),("FILLED_FROM",TF),("MOST_TOLD",ZE)]
noncomputable abbrev BL:List Str:=["len","isinstance","int","bool","str","tuple","list","range","all","any","set","sum","reversed","zip","min","sorted","ValueError"]
noncomputable def Pl(K:qs)(mg:za)(n:Str)(st:Stmt):Prop:=∃x q a d,Va K x q st a d/\mg n= ↑⇑a/\Binds K d (gH st) []
noncomputable def Me(K:qs)(C:Addr)(n:Str)(st:Stmt):Prop:=∃x q a d,Va K x q st a d/\Meth K C n a/\Binds K d (gH st) []
set_option genInjectivity false in
set_option genSizeOfSpec false in
structure Txt(P:Program)(w:World)(K:qs)(mg:za) where
 LY:Df K mg "is_name" jy ["thing"]
 LS:Df K mg "_law_draw" jU ["_law_script","_law_town","_law_many"]
 LX:Df K mg "_law_which" i6 ["_law_e"]
 LW:Df K mg "_law_ask" eg ["_law_shop","_law_what","_law_one","_law_other"]
 Mt:Df K mg "law" rR ["_law_script"]
 fs:EV.Rr (λp=>Pl K mg p.1 p.2.1) FT
 MB:Addr
 L8:FuncData
 Ml:Addr
 Mj:Tok
 LU:VC K "need_size" "need_size" rS MB L8 Ml [.int 10000 Mj]
 MC:mg "need_size"= ↑⇑MB
 M7:Addr
 MO:FuncData
 M8:Va K "run" "run" JC M7 MO
 Nq:mg "run"= ↑⇑M7
 Nm:Tok
 XH:∀(z:Setting)(x_code WD WE:Value),W.peek K z (bindArgs MO ([x_code,WD],[("size",WE)]))= ↑([("code",x_code),("args",WD),("size",WE),("steps",.int 1000 Nm)]:List (Str×Value))
 MN:Addr
 Mc:FuncData
 Mz:Va K "failing" "failing" xj MN Mc
 M4:mg "failing"= ↑⇑MN
 Mb:Addr
 MX:mg "Machine"= ↑⇑Mb
 Us:Uz K Mb
 Md:Addr
 LV:FuncData
 Mf:Va K "__init__" "Machine.__init__" ik Md LV
 VN:Mk K Mb Md
 Mp:Addr
 Np:mg "Shop"= ↑⇑Mp
 U5:Uz K Mp
 Mg:Addr
 LQ:FuncData
 Mh:Addr
 LZ:VC K "__init__" "Shop.__init__" j5 Mg LQ Mh [.none]
 VW:Mk K Mp Mg
 MI:Addr
 L7:FuncData
 ML:Va K "run" "Shop.run" uv MI L7
 Vk:Meth K Mp "run" MI
 Ut:mg "run_machine"= ↑⇑M7
 MP:Addr
 Ng:mg "BASIC"= ↑⇑MP
 Mn:oQ K BAS MP=true
 LR:Addr
 MQ:mg "PieceError"= ↑⇑LR
 MG:Addr
 Nb:mg "NoSize"= ↑⇑MG
 MH:Addr
 Nc:mg "NoTree"= ↑⇑MH
 ME:Addr
 M9:mg "NoArgs"= ↑⇑ME
 MF:Addr
 Na:mg "NoCode"= ↑⇑MF
 Mw:Addr
 M3:mg "NoSteps"= ↑⇑Mw
 MT:Addr
 Nn:mg "Late"= ↑⇑MT
 Mv:Addr
 MZ:mg "NoPiece"= ↑⇑Mv
 L9:Addr
 MV:mg "NoSet"= ↑⇑L9
 LP:Addr
 MA:mg "NoCover"= ↑⇑LP
 Mu:Addr
 MY:mg "NoParts"= ↑⇑Mu
 L6:Addr
 MS:mg "NoName"= ↑⇑L6
 Ma:Addr
 MW:mg "Taken"= ↑⇑Ma
 Mm:Addr
 MU:mg "Fault"= ↑⇑Mm
 L5:Addr
 MR:mg "Broken"= ↑⇑L5
 Ni:gL K L9 [.type "ValueError",.type "Exception",.type "BaseException",.type "object"] "ValueError.__new__" none=true
 Nk:kn K L9
 M5:gL K LP [.type "ValueError",.type "Exception",.type "BaseException",.type "object"] "ValueError.__new__" none=true
 M6:kn K LP
 Nd:gL K L6 [.type "ValueError",.type "Exception",.type "BaseException",.type "object"] "ValueError.__new__" none=true
 Nf:kn K L6
 Nj:gL K Ma [.type "ValueError",.type "Exception",.type "BaseException",.type "object"] "ValueError.__new__" none=true
 Nl:kn K Ma
 Mq:W.exmOne K ⇑L9 ⇑LR= ↑true
 Mi:W.exmOne K ⇑LP ⇑LR= ↑true
 Mo:W.exmOne K ⇑L6 ⇑LR= ↑true
 Mr:W.exmOne K ⇑Ma ⇑LR= ↑true
 MM:W.exmOne K ⇑Mm ⇑Mm= ↑true
 Ms:W.exmOne K ⇑LP ⇑LP= ↑true
 MJ:W.exmOne K ⇑L9 ⇑L5= ↑false
 Mx:W.exmOne K ⇑LP ⇑L5= ↑false
 MD:W.exmOne K ⇑L6 ⇑L5= ↑false
 MK:W.exmOne K ⇑Ma ⇑L5= ↑false
 kits:EV.Zy K [(L9,7),(LP,8),(L6,10),(Ma,11)] [MG,MH,ME,MF,Mw,MT,Mv,L9,LP,Mu,L6,Ma,Mm,L5]=true
 m0:EV.Rr (λp=>Me K Mb p.1 p.2.1) M0
 m1:EV.Rr (λp=>Me K Mp p.1 p.2.1) M1
 il:EV.Rr (λp=>∃t,mg p.1= ↑(.int p.2 t)) IL
 co:EV.Rr (λp=>∃a,mg p.1= ↑⇑a/\dW K (.tup p.2) ⇑a=true) CL
 ta:EV.Rr (λp=>∃a,mg p.1= ↑⇑a/\eL K a p.2) TBL
 ky:∃a,mg "MARK_LENGTHS"= ↑⇑a/\mH P w K a ["hole","gap","slot"]
 na0:EV.Rr (λf=>R0 K Mb f) ["cells","given","size","pile","place","kept","ended"]
 na1:EV.Rr (λf=>R0 K Mp f) ["ready","orders"]
 bi:EV.Rr (λx=>mg x=none) BL
section
theorem Txt.n{K:qs}(T:Txt P w K mg)(h:BL.contains x=true:=by kernel_rfl):mg x=none:=EV.Rr.has (Φ:=λx=>mg x=none) T.bi h
theorem Txt.i8{K:qs}(T:Txt P w K mg):∃t,mg "LONGEST_NAME"= ↑(.int 8 t):=EV.Rr.look (Φ:=λp=>∃t,mg p.1= ↑(.int p.2 t)) (x:="LONGEST_NAME") (y:=8) T.il (by kernel_rfl)
theorem zr{α:Type}{a:List α}(h:a.length=1):∃d,a=[d]:=match a,h with |[d],_=>⟨d,rfl⟩
theorem KQ{α:Type}{a:List α}(h:a.length=5):∃d e f g a4,a=[d,e,f,g,a4]:=match a,h with |[d,e,f,g,a4],_=>⟨d,e,f,g,a4,rfl⟩
end
section
variable{K:qs}
theorem DS{ns:zb}(h0:0<=k)(h1:k<(ns.length:Int)):∃z,V4 (ns.map V.int) k= ↑(.int z)/\ns.getD k.toNat 0=z:=by
 have hk:k.toNat<ns.length:=by lia
 refine(ns[k.toNat],?_,by simp[hk]);have q:V4 (ns.map V.int) ((k.toNat:Nat):Int)= ↑(.int ns[k.toNat]):=kb (by rw[NQ,Nz hk]<;>rfl);rw[show((k.toNat:Nat):Int)=k by lia]at q;exact q
noncomputable def WG(a:zb)(p q m:Int):Int×Int×Int :=
 if q>0 then (q%m,p,q / m)else
 if a=[]then (p%m,p+1,q)else
 if p<(a.length:Int)/\a.getD p.toNat 0 ≥ 10 ^ (18:Int).toNat then (a.getD p.toNat 0%m,p+1,a.getD p.toNat 0 / m%(10 ^ (60:Int).toNat*10 ^ (60:Int).toNat))else
 (((a.getD (p%(a.length:Int)).toNat 0*1103515245+7919*p+12345)%2147483647) ^ (5:Int).toNat%2147483647%999983%m,p+1,q)
theorem KN{c N P R:Prop}[Decidable c](r:N->R)(f:c->(N->R)->P)(n:¬ c->N):if c then P else R:=by
 split
 ·exact f ‹_› r
 ·exact r (n ‹_›)
noncomputable def Ys(K:qs):Sp:=λj H Q _=>∃(a t:Addr)(g:zb)(m p q:Int)(d:List V),j=[⇑a,⇑t,.int m]/\WM K H a g/\H t= ↑(.lst (.int p::.int q::d))/\0<=p/\0<m/\m<=1000000 /\
 ∀(r:Int)(e:Hp)(f i:Int),WG g p q m=(r,f,i)->VB t H e->e t= ↑(.lst (.int f::.int i::d))->0<=f->0<=r->r<m->Q (.int r) e
theorem o9(T:Txt P w K mg)  : Ok P w base (k+1) T.LS (My.Ys K):=by
 refine T.LS.f.ok Tz (λvs H Q E h=>?_) (λcdv A outer s H vs Q E hr h=>?_)
 ·let(a,t,e,m,p,q,g,rfl,_):=h;rfl
 have I:=Tz.nd;let(a,t,e,m,p,q,g,rfl,hS,u,hp,j,hm2,post):=h;refine⟨_,(bq (nu (iZ DO (gP R6 (pv 1) a9) a9 (lF _)) (bq (lK (i:=3) I rfl (Or.inl rfl) (cf eR (gP R6 (pv 1) a9) (pv 2)))
 (bq (pF (cf pd (gP R6 (pv 1) a9) (pv 2)) (Ae (pv 1) a9 i7))
 (dk (eS (pv 3))))) fH)
 (bq (lK (i:=4) I rfl (Or.inl rfl) (gP R6 (pv 1) a9))
 (bq (vC (pv 1) a9 qN a9 yS i7)
 (bq (nu (iZ (zT hr) (pv 0) (jv aZ) (lF _)) (dk (eS (cf eR (pv 4) (pv 2)))) fH)
 (bq (nu (PW.pt (Av (iZ DP (pv 4) (b9 fj rfl T.n gU (bH (pv 0) aZ)) (lF _)) (vD (iZ DN (gP R6 (pv 0) (pv 4)) (cf pe a9 a9) (lF _))))) (bq (pF (cf eR (cf pd (gP R6 (pv 0) (pv 4)) (pv 2)) (cf Cz (cf pe a9 a9) (cf pe a9 a9))) (Ae (pv 1) a9 i7))
 (dk (eS (cf eR (gP R6 (pv 0) (pv 4)) (pv 2))))) fH)
 (bq (lK (i:=5) I rfl (Or.inl rfl) (cf eR (cf Vw (cf Vw (cf ub (gP R6 (pv 0) (cf eR (pv 4) (b9 fj rfl T.n gU (bH (pv 0) aZ)))) a9) (cf ub a9 (pv 4))) a9) a9))
 (dk (eS (cf eR (cf eR (cf eR (cf pe (pv 5) a9) a9) a9) (pv 2)))))))))),?_⟩
 refine(_,rfl,t,_,1,_,rfl,rfl,RP.of u,at1,q,0,rfl,rfl,_,rfl,?_);refine oH (λc=>?_) (λc=>?_)
 ·refine(_,rfl,t,_,1,_,rfl,rfl,RP.of u,at1,_,rfl,q,m,rfl,rfl,j,?_);refine(_,rfl,t,_,1,_,rfl,rfl,RP.of u,at1,_,rfl,q,m,rfl,rfl,(j,⋯),?_);refine(_,rfl,t,_,1,1,rfl,rfl,u,ix1,?_);refine(_,rfl,?_);exact post (q%m) _ p (q / m) (by unfold WG;rw[NL (NT c)]) (VB.upd (Sk.refl H).but) ak hp (Pg _ ⋯) (O0 _ j)
 have J:¬ q>0:=λz=>c (Oz z);refine(_,rfl,t,_,0,_,rfl,rfl,RP.of u,at0,?_);refine(_,rfl,t,_,0,_,rfl,rfl,Int.le_refl 0,RP.of u,rfl,p,1,rfl,rfl,t,_,0,0,rfl,rfl,u,ix0,?_);refine(_,rfl,(by show 0<=sizeLine;decide),λl hl=>?_);have L:VB t H (upd H t (.lst ((V.int p::.int q::g).set 0 (.int (p+1))))):=VB.upd (Sk.refl H).but;have M:l≠t:=λz=>by rw[z,ak]at hl;cases hl
 have B:=L.trans (eh hl (.lst [])).but
 have v:upd (upd H t (.lst ((V.int p::.int q::g).set 0 (.int (p+1))))) l (.lst []) t= ↑(.lst (.int (p+1)::.int q::g)):=by rw[ao (OB M)];exact ak
 have y:=(hS.but B u).Uh;have d:((e.map V.int).length:Int)=(e.length:Int):=by rw[NC]
 refine(a,l,_,[],e.map D.int,[],rfl,rfl,y,RP.of ak,mX e,RH.nil,nk e,(by unfold RS;rfl),(by rw[jM];decide),_,rfl,?_);show(if RZ (e.map D.int) []=true then _ else _);rw[yr];refine oH (λc0=>?_) (λc0=>?_)
 ·refine(_,rfl,_,rfl,p,m,rfl,rfl,j,?_);exact post _ _ (p+1) q (by unfold WG;rw[NH J,NL (List.isEmpty_iff.mp c0)]) B v ⋯ (Pg _ ⋯) (O0 _ j)
 have n0:e≠[]:=λz=>c0 (by rw[z];rfl)
 have ZZ:(0:Int)<((e.map V.int).length:Int):=by
  rw[d]
  cases e with
  |nil=>exact absurd rfl c0
  |cons n e=>rw[N6];lia
 refine(_,rfl,_,rfl,a,_,rfl,.inl y,p,_,rfl,rfl,_,rfl,?_);refine KN (N:=¬ (p<(e.length:Int)/\e.getD p.toNat 0 ≥ 10 ^ (18:Int).toNat)) (λnn=>?_) (λc1 r=>?_) λc1 z=>c1 (Oz (by rw[d];exact z.1))
 ·refine(_,rfl,_,rfl,_,rfl,a,_,rfl,.inl y,p,_,rfl,rfl,ZZ,?_);let(O,U,Y):=DS (ns:=e) (Pg p (by lia:((e.map V.int).length:Int)≠0)) (by rw[<- d];exact O0 p ZZ);refine(a,_,_,_,rfl,rfl,y,U,O,1103515245,rfl,rfl,.inr (⋯,⋯),_,rfl,7919,p,rfl,rfl,.inl (⋯,⋯),_,_,rfl,rfl,_,_,rfl,rfl,_,_,rfl,rfl,(by show(0:Int)<2147483647;decide),?_);have m1:=Pg (O*1103515245+7919*p+12345) (by decide:(2147483647:Int)≠0);have m2:=O0 (O*1103515245+7919*p+12345) (by decide:(0:Int)<2147483647);refine(_,rfl,_,5,rfl,rfl,(⋯,⋯,⋯),_,_,rfl,rfl,(by show(0:Int)<2147483647;decide),_,_,rfl,rfl,(by show(0:Int)<999983;decide),_,rfl,_,m,rfl,rfl,j,?_);exact post _ _ (p+1) q (by unfold WG;rw[NH J,NH n0,NH nn,<- d,Y]) B v ⋯ (Pg _ ⋯) (O0 _ j)
 ·have G:p<((e.map V.int).length:Int):=NT c1;let(z,hz,ez):=DS (ns:=e) hp (by rw[<- d];exact G);refine(_,rfl,_,rfl,a,_,p,_,rfl,rfl,y,hz,10,18,rfl,rfl,(⋯,⋯,⋯),z,_,rfl,rfl,_,rfl,?_);refine oH (λc2=>?_) (λc2=>?_)
  ·refine(_,rfl,_,rfl,a,_,p,_,rfl,rfl,y,hz,_,rfl,z,m,rfl,rfl,(j,⋯),10,60,rfl,rfl,(⋯,⋯,⋯),10,60,rfl,rfl,(⋯,⋯,⋯),_,_,rfl,rfl,IntMulOk.of_bits ⋯ ⋯,_,_,rfl,rfl,(by show(0:Int)<10 ^ (60:Int).toNat*10 ^ (60:Int).toNat;decide +kernel),?_);refine(_,rfl,t,_,1,1,rfl,rfl,v,ix1,?_);refine(_,rfl,_,rfl,a,_,p,_,rfl,rfl,(hS.but B.upd u).Uh,hz,_,rfl,z,m,rfl,rfl,j,?_);exact post _ _ (p+1) _ (by unfold WG;rw[NH J,NH n0,ez,NL (by rw[<- d];exact G,NT c2)]) B.upd ak ⋯ (Pg _ ⋯) (O0 _ j)
  ·exact r λz=>c2 (Oz (ez▸z.2))
end
section
noncomputable def sgn(c:Nat):Bool:=(!decide (([c]:List Nat)<("a":Str).cps.toList))&&!decide (("z":Str).cps.toList<([c]:List Nat))
noncomputable def rh(x:Str):Bool:=(decide (1<=(x.length:Int))&&decide ((x.length:Int)<=8))&&(x.cps.toList.map sgn).all id
theorem tZ{K:qs}(T:Txt P w K mg):Ok P w base (k+1) T.LY (λr H Q _=>∃x:Str,r=[.str x]/\x.length<=sizeLine/\∀d,Sk H d->Q (.bl (rh x)) d):=by
 refine T.LY.f.ok Ur (λr H Q E h=>?_) (λy A outer s H r Q E L h=>?_)
 ·let(x,rfl,_):=h;rfl
 have M:=Ur.nd;let(x,rfl,B,post):=h;refine⟨_,(bq (nu (PW.pt (Aw (pG (lM (b9 (xZ EO) rfl T.n dg (fF (pv 0) (fF (pj (v:=.ty "str") rfl T.n xT rfl) aZ))) (λ_=>rfl))) (ug (pG (rJ lG lG a9 (b9 nP rfl T.n gU (bH (pv 0) aZ)) (eI (v:=.int 8) rfl T.i8.choose_spec (_,rfl))))))) (dk (eS vz)) fH)
 (dk (eS (b9 (qm rfl) rfl T.n xR (bH (vA (own:=["sign"]) (fr:=[]) (N':=["sign"]) (F6 (pv 0)) rfl (by show dP ["thing"] (λx=>(ag jy).names.lookup x) _ _ _ _=true;decide +kernel) rfl (xP (λ_ _ _ _ _=>(vB (i:=0) (by show List.Nodup [("sign":Str)];decide +kernel) rfl (Or.inl rfl))) (λ_ _ _ _ _=>lJ) (λ_ _ _ _ _=>(rE zV zV jw (pv 0) jw)))) aZ))))),?_⟩
 have no:∀{b:Bool},(decide (1<=(x.length:Int))&&decide ((x.length:Int)<=8))=false->b=false->Q (.bl b) H:=λ{b} c e=>by have:=post H (Sk.refl H);unfold rh at this;rw[c,Bool.false_and]at this;rw[e];exact this
 refine(_,rfl,_,_,rfl,Dat.Yc x,_,rfl,oH (λc=>nomatch c) λ_=>(_,rfl,x,rfl,B,_,_,rfl,rfl,_,rfl,oH (λc1=>(_,_,rfl,rfl,_,rfl,oH (λc2=>no (by rw[c1,OM];exact(OV _).mp c2) rfl) λc2=>?_)) λc1=>(_,rfl,oH (λ_=>no (by rw[Rj.mpr c1];rfl) rfl) λz=>absurd rfl z)));have e2:decide ((x.length:Int)<=8)=true:=by simpa using c2
 have N:x.cps.size<=8:=by have:=NT e2;have e:x.length=x.cps.size:=rfl;lia
 refine(_,rfl,x,rfl,λD t=>(λi m g d=>m=x.cps.size - i/\i<=x.cps.size/\(∃o,g=[o])/\Sk H d/\d D= ↑(.lst (((x.cps.toList.map sgn).take i).map V.bl)),(_,rfl,Om _,(_,rfl),eh t _,ak),?_));rintro i m g d ⟨rfl,O,⟨o,rfl⟩,sm,hl⟩;by_cases h:i=x.cps.size
 ·subst h;refine .inl (rfl,D,_,rfl,RP.of hl,?_);rw[Qn (by simp)];have:=post d sm;unfold rh at this;rw[c1,e2,OM,OM]at this;exact this
 ·have j:i<x.cps.size:=by lia
  refine .inr (j,_,λG l I=>(x.cps.size - (i+1),⋯,rfl,j,I),?_);rintro v l ⟨rfl,c,J,rfl⟩
  have fin:∀b,b=sgn c->∃p,l D= ↑(.lst p)/\p.length<sizeLine/\(∃o,[↑(V.str ⟨#[c]⟩)]=[o])/\Sk H (upd l D (.lst (p++[V.bl b])))/\upd l D (.lst (p++[V.bl b])) D= ↑(.lst (((x.cps.toList.map sgn).take (i+1)).map V.bl)):=λb e=>by
   refine(_,hl,xm (by simp;lia),(_,rfl),λa u q=>by rw[ao (bo q t)];exact sm a u q,?_);have e1:(x.cps.toList.map sgn)[i]?= ↑(sgn c):=by rw[NQ];simp[J]
   rw[ak,List.take_add_one,e1,e];simp
  dsimp only[qL,X8,vT];exact oH (λ_=>(_,rfl,_,_,rfl,rfl,_,rfl,oH (λz=>(_,_,rfl,rfl,fin _ (by unfold sgn;rw[z];rfl))) λz=>fin _ (by unfold sgn;rw[Rj.mpr z];rfl))) λz=>absurd rfl z
theorem Eb:∀p∈TM,∃i,p.2=.flat (.int i):=by intro p a;simp only[TM,NB,NU,Ou]at a;rcases a with rfl|rfl|rfl<;>exact(_,rfl)
end
section
variable{P:Program}{w:World}{K:qs}{mg:za}
noncomputable def jE(T:Txt P w K mg)(D:Addr)(j:Nat):Prop:=Prod.mk D j∈[(T.L9,7),(T.LP,8),(T.L6,10),(T.Ma,11)]
noncomputable abbrev Ln(j:Nat):D:=.tup [.str "refused",.int j]
noncomputable def pO(T:Txt P w K mg):Sp:=λd H Q _=>∃(x D:Addr)(j:Nat),d=[⇑x]/\H x= ↑(je x D)/\jE T D j/\∀v a,Sk H a->Dat K a (Ln j) v->Q v a
noncomputable abbrev Yt(j:Nat):List Bool:=[Nat.beq 0 j,Nat.beq 1 j,Nat.beq 2 j,Nat.beq 3 j,Nat.beq 4 j,Nat.beq 5 j,Nat.beq 6 j,Nat.beq 7 j,Nat.beq 8 j,Nat.beq 9 j,Nat.beq 10 j,Nat.beq 11 j,Nat.beq 12 j,Nat.beq 13 j]
theorem LO{T:Txt P w K mg}{D:Addr}(h:jE T D j):kn K D:=by unfold jE at h;simp only[NB,NU,Ou,Prod.mk.injEq]at h;rcases h with⟨rfl,rfl⟩|⟨rfl,rfl⟩|⟨rfl,rfl⟩|⟨rfl,rfl⟩<;>first|exact T.Nk|exact T.M6|exact T.Nf|exact T.Nl
theorem LN{D:Addr}(h:jE T D j):(Yt j).count true=1/\(Yt j)[j]?= ↑true/\∀m,m<j->(Yt j)[m]?= ↑false:=by unfold jE at h;simp only[NB,NU,Ou,Prod.mk.injEq]at h;rcases h with⟨_,rfl⟩|⟨_,rfl⟩|⟨_,rfl⟩|⟨_,rfl⟩<;>decide
theorem eJ(h:PE X (.Name y p) (rX 0))(g0:Gl X "isinstance")(d:X.mg "isinstance"=none)(g:Gl X x)(e:X.mg x= ↑⇑a)(f:(x==("__debug__":Str))=false:=by decide):PE X (.Call (.Name "isinstance" j) [.Name y p,.Name x q] [] i) (ZV (GO X.K) (gR (rX 0) (gR (tC ⇑a) rW))) :=
 b9 kC g0 d dg (fF h (fF (eI (v:= ⇑a) g e rfl f) aZ))
theorem ti{D:Addr}(f:H x= ↑(je x D))(g:kn K D)(d:W.kitOne K ⇑D ⇑a= ↑b)(e:i[0]?= ↑(some ⇑x))(q:Q (.bl b) H):ZV (GO K) (gR (rX 0) (gR (tC ⇑a) rW)) i H Q :=
 (_,e,x,D,⇑a,b,rfl,.inl (a,rfl),f,g,d,q)
theorem kQ{zs:List V}{D:Ends}(h:G l= ↑(.lst a))(e:d[1]?= ↑(some ⇑l))(sz:a.length+zs.length<=sizeLine)(i:zs.length<=sizeLine)(j:∀Q:List V->Hp->Prop,Q zs G->tA d G Q)
  (k:∀f,VB l G f->f l= ↑(.lst (a++zs))->D.nx d f):DZ (tBM K "list" pH (rX 1) (gR (JK tA) rW)) D d G :=
 (_,e,.inl (rfl,_,RP.of h),j _ (i,λp g=>(l,p,a,zs,rfl,rfl,eh g _ _ _ h,ak,sz,k _ (eh g _).but.upd ak)))
theorem my(T:Txt P w K mg)  : xH P w K mg base (k+1) T.LX.a T.LX.d ["_law_e"] (pO T):=by
 refine T.LX.f.okH Tp (λY H Q E h=>?_) (λcdv A outer s H Y Q E hr h=>?_)
 ·let(x,D,j,rfl,_):=h;rfl
 have nd:=Tp.nd;let(x,D,j,rfl,g,B,post):=h;refine⟨_,(bq (lK (i:=1) nd rfl (Or.inl rfl) (jv (bH (eJ (pv 0) rfl T.n rfl T.Nb) (bH (eJ (pv 0) rfl T.n rfl T.Nc) (bH (eJ (pv 0) rfl T.n rfl T.M9) (bH (eJ (pv 0) rfl T.n rfl T.Na) aZ))))))
 (bq (ki (nt O5 PL Qa gC (pv 1) (bH (jv (bH (eJ (pv 0) rfl T.n rfl T.M3) (bH (eJ (pv 0) rfl T.n rfl T.Nn) (bH (eJ (pv 0) rfl T.n rfl T.MZ) (bH (eJ (pv 0) rfl T.n rfl T.MV) aZ))))) aZ)))
 (bq (ki (nt O5 PL Qa gC (pv 1) (bH (jv (bH (eJ (pv 0) rfl T.n rfl T.MA) (bH (eJ (pv 0) rfl T.n rfl T.MY) (bH (eJ (pv 0) rfl T.n rfl T.MS) (bH (eJ (pv 0) rfl T.n rfl T.MW) aZ))))) aZ)))
 (bq (ki (nt O5 PL Qa gC (pv 1) (bH (jv (bH (eJ (pv 0) rfl T.n rfl T.MU) (bH (eJ (pv 0) rfl T.n rfl T.MR) aZ))) aZ)))
 (bq (nu (PW.pt (Aw (iZ IF (nt O5 F.slot_list_count F.type_list_count wQ (pv 1) (bH vz aZ)) a9 (lF _)) (ug (pG (lM (b9 kC rfl T.n dg (fF (pv 0) (fF (pj (v:=.ty "ValueError") rfl T.n mh rfl) aZ))) (λ_=>rfl)))))) (dk (eS (ud (bH jw (bH (DR A9 a9) aZ))))) fH)
 (dk (eS (ud (bH jw (bH (nt O5 Qk F.type_list_index wR (pv 1) (bH vz aZ)) aZ)))))))))),?_⟩
 have e:=LO B;let(L,ks):=EV.Xr T.kits B;let(hc,G,I):=LN B;dsimp only at L ks;refine ti g e (ks 0 _ rfl) rfl (ti g e (ks 1 _ rfl) rfl (ti g e (ks 2 _ rfl) rfl (ti g e (ks 3 _ rfl) rfl (((by show 4<=sizeLine;decide),λl hl=>?_)))));have y:x≠l:=λz=>by rw[<- z,g]at hl;cases hl
 have M:VB l H (upd H l (.lst [.bl (Nat.beq 0 j),.bl (Nat.beq 1 j),.bl (Nat.beq 2 j),.bl (Nat.beq 3 j)])):=(eh hl _).but;have h0:upd H l (.lst [.bl (Nat.beq 0 j),.bl (Nat.beq 1 j),.bl (Nat.beq 2 j),.bl (Nat.beq 3 j)]) l= ↑(.lst _):=ak;have m:=M _ _ y g;refine kQ (zs:=[.bl (Nat.beq 4 j),.bl (Nat.beq 5 j),.bl (Nat.beq 6 j),.bl (Nat.beq 7 j)]) h0 rfl (by show 4+4<=sizeLine;decide) (by show 4<=sizeLine;decide) (λQ q=>ti m e (ks 4 _ rfl) rfl (ti m e (ks 5 _ rfl) rfl (ti m e (ks 6 _ rfl) rfl (ti m e (ks 7 _ rfl) rfl (q))))) λG1 b h1=>?_;have b1:=M.trans b;have r:=b1 _ _ y g;refine kQ (zs:=[.bl (Nat.beq 8 j),.bl (Nat.beq 9 j),.bl (Nat.beq 10 j),.bl (Nat.beq 11 j)]) h1 rfl (by show 8+4<=sizeLine;decide) (by show 4<=sizeLine;decide) (λQ q=>ti r e (ks 8 _ rfl) rfl (ti r e (ks 9 _ rfl) rfl (ti r e (ks 10 _ rfl) rfl (ti r e (ks 11 _ rfl) rfl (q))))) λG2 b h2=>?_;have N:=b1.trans b;have u:=N _ _ y g;refine kQ (zs:=[.bl (Nat.beq 12 j),.bl (Nat.beq 13 j)]) h2 rfl (by show 12+2<=sizeLine;decide) (by show 2<=sizeLine;decide) (λQ q=>ti u e (ks 12 _ rfl) rfl (ti u e (ks 13 _ rfl) rfl (q))) λG3 b t=>?_;have O:=N.trans b;have J:=O _ _ y g;have t:G3 l= ↑(.lst (YA (Yt j))):=t;refine(_,rfl,.inl (rfl,_,RP.of t),l,Yt j,rfl,rfl,t,_,_,rfl,rfl,_,rfl,?_);rw[show(!((((Yt j).count true:Nat):Int)==1))=false by rw[hc];rfl];refine(_,rfl,x,D,.ty "ValueError",true,rfl,.inr (_,rfl),J,e,L,true,rfl,?_);refine(_,rfl,.inl (rfl,_,RP.of t),l,Yt j,j,rfl,rfl,t,(by show 14<=1000;decide),G,I,(by show 2<=sizeLine;decide),λp hp=>post _ _ (Sk.trans (λb o U=>O b o (bo U hl) U) (eh hp _)) (.tupI (RW.of ak) (.cons (.Yc _) (.cons (.Yb _) .nil))))
end
end My
namespace My
open PySem L2 EV PyProof.Rows
section
theorem pZ{K:qs}(T:Txt P w K mg):Binds K T.L8 ["size","most"] [.int 10000 T.Mj]:=by
 let(oc,k,m,doc,p,q,f,ct,g,e,lk,i):=T.LU.ex;let(o,n,l,h):=T.LU.df;intro s d j hl;have a:d.length=1:=by simpa using hl
 match d,a with
 |[r],_=>rw[e];exact .of_defaults (T:=T.Ml) rfl (j _ _ l) h rfl rfl
theorem sk{K:qs}(T:Txt P w K mg):Vals [V.int 10000] [Value.int 10000 T.Mj]:=.cons (_,rfl) .nil
theorem nJ{K:qs}(T:Txt P w K mg):Binds K T.L8 ["size","most"] []:=by let(oc,j,k,doc,m,p,a,ct,d,e,lk,f):=T.LU.ex;let(o,n,l,h):=T.LU.df;intro s g i hl;let(q,r,rfl):=Ig (show g.length=2 by simpa using hl);rw[e];exact .of_defaults (T:=T.Ml) rfl (i _ _ l) h rfl rfl
theorem tJ{α:Type}{z d bs:List α}(h:(fZ a b z d bs).length=n+1):d.length=a/\bs.length=b:=by
 unfold fZ at h;split at h
 ·rename_i q r;exact(NJ q,NJ r)
 ·cases h
theorem pV(h:Vals e f)(k:Vals bs g)(d:Vals i j):Vals (fZ a b i e bs) (fZ a b j f g):=by
 unfold fZ;rw[h.length,k.length];split
 ·exact(h.append k).append d
 ·exact .nil
theorem AE(h:Rs g H m e f)(k:Rs g H m bs i)(d:Rs g H m j l):Rs g H m (fZ a b j e bs) (fZ a b l f i):=by
 unfold fZ;rw[h.length,k.length];split
 ·exact(h.append k).append d
 ·exact .nil
theorem Hr{K:qs}(T:Txt P w K mg):eK K T.MO ["code","args","size","steps"] ["size"] (fZ 2 1 [.int 1000 T.Nm]) (fZ 2 1 [.int 1000]):=by refine(λs f g a hl=>?_,λh k=>pV h k (.cons (_,rfl) .nil));let(h1,d):=tJ hl;let(x,y,rfl):=Ig h1;let(z,rfl):=zr d;exactλM A E Q e=>(W.Looks.of_peek a (T.XH _ _ _ _)).here e
theorem vX{K:qs}(T:Txt P w K mg):eK K T.Mc ["piece","size"] ["size"] (fZ 1 1 []) (fZ 1 1 []):=by let(oc,i,j,doc,l,m,a,ct,d,e,lk,f):=T.Mz.ex;refine(λs p q r hl=>?_,λh k=>pV h k .nil);let(h1,g):=tJ hl;let(x,rfl):=zr h1;let(z,rfl):=zr g;rw[e];exact .of_eq rfl
theorem jX{K:qs}(T:Txt P w K mg):Binds K T.LQ ["self","some"] [.none]:=by let(oc,j,k,doc,m,p,a,ct,d,e,lk,f):=T.LZ.ex;let(o,n,l,h):=T.LZ.df;intro s g i hl;let(q,rfl):=zr (show g.length=1 by simpa using hl);rw[e];exact .of_defaults (T:=T.Mh) rfl (i _ _ l) h rfl rfl
theorem j9{K:qs}(T:Txt P w K mg):Vals [V.Ro] [Value.none]:=.cons rfl .nil
theorem sI{K:qs}(T:Txt P w K mg):eK K T.L7 ["self","name","args","size"] ["size"] (fZ 3 1 []) (fZ 3 1 []):=by let(oc,i,j,doc,l,m,a,ct,d,e,lk,f):=T.ML.ex;refine(λs p q r hl=>?_,λh k=>pV h k .nil);let(h1,g):=tJ hl;let(x,y,t,rfl):=KP h1;let(z,rfl):=zr g;rw[e];exact .of_eq rfl
theorem gS{K:qs}(T:Txt P w K mg):Binds K T.LV ["self","cells","given","size","pile"] []:=T.Mf.binds λ_ _ _ _ _ _ a hl=>by let(_,_,_,_,_,rfl):=KQ hl;rfl
end
theorem Hq:ST.Nodup:=⋯
section
variable{P:Program}{w:World}{K:qs}{mg:za}{base:Heap}{ns:zb}
noncomputable def Ky(T:Txt P w K mg):Nat->Addr
 |0=>T.LR
 |1=>T.MG
 |2=>T.MH
 |3=>T.ME
 |4=>T.MF
 |5=>T.Mw
 |6=>T.MT
 |7=>T.Mv
 |8=>T.L9
 |9=>T.LP
 |10=>T.Mu
 |11=>T.L6
 |12=>T.Ma
 |13=>T.Mm
 |14=>T.L5
 |_=>0
noncomputable def tbF(T:Txt P w K mg):Nat->Addr
 |0=>T.Mb
 |_=>T.Mp
noncomputable abbrev gx(T:Txt P w K mg)(ns:zb):Gx:=(K,ST,Hq,Ky T,tbF T,ns)
noncomputable def VO(ns:zb):Dl:=λp q m=>((WG ns (.ofNat p) q (.ofNat m)).1.toNat,(WG ns (.ofNat p) q (.ofNat m)).2.1.toNat,(WG ns (.ofNat p) q (.ofNat m)).2.2)
theorem GR(m:zz)(H:Hp):Rs (gx T ns) H m [] []:=.nil
theorem GS(m:zz)(H:Hp):Rs (gx T ns) H m [.Ro] [.Ro]:=.cons R.Ro .nil
theorem Dj(m:zz)(H:Hp):Rs (gx T ns) H m [.int (.ofNat 10000)] [.int 10000]:=.cons (R.int _) .nil
theorem Bt:∀p∈ZE,∃j,p.2=.flat (.int j):=λp a=>by simp only[ZE,NB,NU,Ou]at a;rcases a with rfl|rfl|rfl<;>exact(_,rfl)
theorem j7:fg (gx T ns) TL bF:=rY (show lX ST TL bF=true by decide +kernel) (show jO bF ST.length=true by decide +kernel)
theorem ip:fg (gx T ns) TB a6:=rY (show lX ST TB a6=true by decide +kernel) (show jO a6 ST.length=true by decide +kernel)
theorem fJ:fg (gx T ns) TM Rx:=rY (show lX ST TM Rx=true by decide +kernel) (show jO Rx ST.length=true by decide +kernel)
theorem lY:fg (gx T ns) TF bO:=rY (show lX ST TF bO=true by decide +kernel) (show jO bO ST.length=true by decide +kernel)
theorem i9:fg (gx T ns) ZE bx:=rY (show lX ST ZE bx=true by decide +kernel) (show jO bx ST.length=true by decide +kernel)
theorem j6:Sd (gx T ns) (Rx.map (·.1)) ["hole","gap","slot"]:=.cons rfl (.cons rfl (.cons rfl .nil))
theorem yu(T:Txt P w K mg):∀c,aG c [13]=true->W.exmOne K ⇑((gx T ns).cls c) ⇑T.Mm= ↑true:=λc h=>by
 have e:13=c:=by unfold aG at h;cases q:Nat.beq 13 c with|true=>exact NJ q|false=>rw[q]at h;cases h
 subst e;exact T.MM
theorem sZ(T:Txt P w K mg):∀c,aG c [9]=true->W.exmOne K ⇑((gx T ns).cls c) ⇑T.LP= ↑true:=λc h=>by
 have e:9=c:=by unfold aG at h;cases q:Nat.beq 9 c with|true=>exact NJ q|false=>rw[q]at h;cases h
 subst e;exact T.Ms
theorem KZ(T:Txt P w K mg):XF (gx T ns) [0,1,2]:=by intro i a j d x y e hy;simp only[NB,NU,Ou]at a d;rcases a with rfl|rfl|rfl<;>rcases d with rfl|rfl|rfl<;>(cases e;cases hy;decide +kernel)
noncomputable def Vq:Ts where
 fl:=("need_size",2)::("_law_draw",81)::("is_name",82)::("_law_ask",83)::FT.map λp=>(p.1,p.2.2)
 cl:=(IL.map λp=>(p.1,EV.A.int p.2))++([("INSTRUCTIONS",aU),("STRAIGHT",kB),("AHEAD",uH),("BEHIND",qk),("WAYS",sP),("TRIED_NUMS",iz),("BASIC",Mn)]:List (Str×EV.A))
 tl:=[(("MOST_IN_LEAF":Str),bF),(("TREES_IN_BRANCH":Str),a6),(("MARK_LENGTHS":Str),Rx),(("FILLED_FROM":Str),bO),(("MOST_TOLD":Str),bx)]
 bl:=BL
 xl:=[(("NoSet":Str),8),(("NoCover":Str),9),(("NoName":Str),11),(("Taken":Str),12)]
 ml:=(M0.map λp=>Prod.mk 0 (p.1,p.2.2))++M1.map λp=>Prod.mk 1 (p.1,p.2.2)
 dl:=[(0,("cells":Str)),(0,("given":Str)),(0,("size":Str)),(0,("pile":Str)),(0,("place":Str)),(0,("kept":Str)),(0,("ended":Str)),(1,("ready":Str)),(1,("orders":Str))]
 hl:=[(("Fault":Str),[13]),(("NoCover":Str),[9])]
 mz:=[("Machine",0,15,[]),("Shop",1,57,[.Ro])]
 df:=[("need_size",2,[.int (.ofNat 10000)])]
 kw:=[("failing",44,kS,"size"),("run_machine",23,yE,"size")]
 km:=[("run",1,66,eG,"size")]
 kl:=[("MOST_TOLD",bx),("MARK_LENGTHS",Rx)]
 wl:=[("MARK_LENGTHS",Rx)]
theorem Rr.map{β:Type}{f:α->β}{Φ:β->Prop}:∀{l:List α},Rr (λp=>Φ (f p)) l->Rr Φ (l.map f)
 |[],_=>trivial
 |_::_,h=>(h.1,Rr.map h.2)
theorem Rr.imp:∀{l:List α},(∀p∈l,Φ p->Ψ p)->Rr Φ l->Rr Ψ l
 |[],_,_=>trivial
 |_::_,i,h=>(i _ (.head _) h.1,Rr.imp (λp m=>i p (.tail _ m)) h.2)
theorem Rr.app:∀{l r:List α},Rr Φ l->Rr Φ r->Rr Φ (l++r)
 |[],_,_,h=>h
 |_::_,_,h,k=>(h.1,Rr.app h.2 k)
noncomputable abbrev FA:List (Str×Stmt×Nat):=FT++(M0++(M1++SPL))
noncomputable def hs(i:Nat):List (Nat×List Nat):=match HT.lookup i with
 |some l=>l
 |none=>[]
noncomputable def nM(B:Bn)(st:Stmt)(h:List (Nat×List Nat)):Cs:=match cL (cR B 40) (Xs st h,ag st,λ_=>true,true,true,h) (bh st)with
 |some o=>o.c
 |none=>eA
theorem nN{B:Bn}{st:Stmt}(F:Fx P w B.g.K mg base B.g B.j B.call B.t):Up P w B.g mg base (Xs st h) q st f B.j (nM B st h):=λa A outer s H E e d=>by
 unfold nM;split
 ·rename_i o _;exact o.h (d,F,rfl,rfl,(λ_ _=>rfl),(λ_=>(zX,rfl,rfl)),λ_=>(E,rfl,G7))
 ·exact⟨λ_ _ _ _ _ _ ⟨_,_,_,_,_,h⟩=>h.elim⟩
structure YL(base:Heap)(T:Txt P w K mg)(ns:zb)(k:Nat)(call:Nat->List EV.A->Rm->Res EV.A):Prop where
 f:∀p∈FA,∀{x q a d},Va K x q p.2.1 a d->Rt P w K mg base (RT P w) k a d (gH p.2.1) (R9 (gx T ns) (call p.2.2))
 d:∀p∈FA,∀{x q a d u ds},VC K x q p.2.1 a d u ds->Rt P w K mg base (RT P w) k a d (gH p.2.1) (R9 (gx T ns) (call p.2.2))
 nm:Rt P w K mg base (RT P w) k T.LY.a T.LY.d ["thing"] (R9 (gx T ns) (call 82))
 dr:Rt P w K mg base (RT P w) k T.LS.a T.LS.d ["_law_script","_law_town","_law_many"] (R9 (gx T ns) (call 81))
 ask:Rt P w K mg base (RT P w) k T.LW.a T.LW.d ["_law_shop","_law_what","_law_one","_law_other"] (R9 (gx T ns) (call 83))
theorem cT(T:Txt P w K mg)(h:CL.lookup x= ↑f)(k:Wc (gx T ns) d=true)(e:SR (gx T ns) d=f):∃v u,mg x= ↑u/\RelV v u/\∀H m,R (gx T ns) H m (.tup d) v:=by let(a,h1,g):=Rr.look (Φ:=λp=>∃a,mg p.1= ↑⇑a/\dW K (.tup p.2) ⇑a=true) T.co h;exact(⇑a,_,h1,rfl,Hz g k e)
theorem tA{T:Txt P w K mg}{t:List (Str×KTD.Dat)}{ks:List (Nat×EV.A)}(h:TBL.lookup x= ↑t)(k:fg (gx T ns) t ks):∃a t,mg x= ↑⇑a/\fg (gx T ns) t ks/\eL K a t:=by let(a,h1,d):=Rr.look (Φ:=λp=>∃a,mg p.1= ↑⇑a/\eL K a p.2) T.ta h;exact(a,t,h1,k,d)
theorem tAi{T:Txt P w K mg}{t:List (Str×KTD.Dat)}{ks:List (Nat×EV.A)}(h:TBL.lookup x= ↑t)(k:fg (gx T ns) t ks)(i:∀p∈t,∃j,p.2=.flat (.int j)):∃a t,mg x= ↑⇑a/\fg (gx T ns) t ks/\(∀p∈t,∃j,p.2=.flat (.int j))/\eL K a t:=by let(a,h1,d):=Rr.look (Φ:=λp=>∃a,mg p.1= ↑⇑a/\eL K a p.2) T.ta h;exact(a,t,h1,k,i,d)
theorem Yu{i:Nat}{p:Str×Stmt×Nat}(h:SPL[i]?= ↑p):p∈FA:=NO _ (NO _ (NO _ (Oq h)))
theorem uU{T:Txt P w K mg}{call:Nat->List EV.A->Rm->Res EV.A}(O:YL base T ns j call):Fx P w K mg base (gx T ns) j call Vq where
 fn _ _ e:=Rr.look (l:=Vq.fl) (Φ:=λp=>∃f,mg p.1= ↑⇑f/\W.keepIn K ⇑f=true/\FnE P w K mg base (gx T ns) j f (call p.2)) ⟨(_,T.MC,T.LU.kp,_,_,nJ T,O.d _ (Yu (i:=0) rfl) T.LU),
  (_,T.LS.m,T.LS.f.kp,_,_,T.LS.b,O.dr),(_,T.LY.m,T.LY.f.kp,_,_,T.LY.b,O.nm),(_,T.LW.m,T.LW.f.kp,_,_,T.LW.b,O.ask),
  Rr.map (Rr.imp (λp m ⟨_,_,a,d,F,h,b⟩=>(a,h,F.kp,d,_,b,O.f p (Oj _ m) F)) T.fs)⟩ e
 con _ _ e:=Rr.look (l:=Vq.cl) (Φ:=λp=>∃v u,mg p.1= ↑u/\RelV v u/\∀H m,R (gx T ns) H m p.2 v) (Rr.app (Rr.map (Rr.imp (λp _ ⟨t,h⟩=>(.int p.2,_,h,(_,rfl),λ_ _=>R.int _)) T.il)) (cT T rfl rfl rfl,cT T rfl rfl rfl,cT T rfl rfl rfl,cT T rfl rfl rfl,cT T rfl rfl rfl,cT T rfl rfl rfl,(⇑T.MP,_,T.Ng,rfl,Hy T.Mn (by rfl) (by rfl)),trivial)) e
 tab _ _ e:=Rr.look (l:=Vq.tl) (Φ:=λp=>∃a t,mg p.1= ↑⇑a/\fg (gx T ns) t p.2/\eL K a t) (tA rfl j7,tA rfl ip,tA rfl fJ,tA rfl lY,tA rfl i9,trivial) e
 bi _ e:=Rr.has (l:=Vq.bl) (Φ:=λx=>mg x=none) T.bi e
 exc _ _ e:=Rr.look (l:=Vq.xl) (Φ:=λp=>gL K ((gx T ns).cls p.2) [.type "ValueError",.type "Exception",.type "BaseException",.type "object"] "ValueError.__new__" none=true/\mg p.1= ↑⇑((gx T ns).cls p.2)) ((T.Ni,T.MV),(T.M5,T.MA),(T.Nd,T.MS),(T.Nj,T.MW),trivial) e
 met k m i e:=Rr.has (x:=(k,m,i)) (l:=Vq.ml) (Φ:=λp=>Uz K ((gx T ns).tb p.1)/\∃f,Meth K ((gx T ns).tb p.1) p.2.1 f/\FnE P w K mg base (gx T ns) j f (call p.2.2))
  (Rr.app (Rr.map (Rr.imp (λp m ⟨_,_,a,d,F,h,b⟩=>(T.Us,a,h,d,_,b,O.f p (NO _ (Oj _ m)) F)) T.m0)) (Rr.map (Rr.imp (λp m ⟨_,_,a,d,F,h,b⟩=>(T.U5,a,h,d,_,b,O.f p (NO _ (NO _ (Oj _ m))) F)) T.m1))) e
 han _ _ e:=Rr.look (l:=Vq.hl) (Φ:=λp=>∃C,mg p.1= ↑C/\∀c,aG c p.2=true->W.exmOne K ⇑((gx T ns).cls c) C= ↑true) ((_,T.MU,yu T),(_,T.MA,sZ T),trivial) e
 mz _ _ e:=Rr.look (l:=Vq.mz) (Φ:=λ(p:Str×Nat×Nat×List EV.A)=>∃f g q y z,Mk K ((gx T ns).tb p.2.1) f/\mg p.1= ↑⇑((gx T ns).tb p.2.1)/\Binds K g q z/\Vals y z/\(∀m H,Rs (gx T ns) H m p.2.2.2 y)/\Rt P w K mg base (RT P w) j f g q (R9 (gx T ns) (call p.2.2.1)))
  ((_,_,_,_,_,T.VN,T.MX,gS T,.nil,GR,O.f _ (Yu (i:=3) rfl) T.Mf),(_,_,_,_,_,T.VW,T.Np,jX T,j9 T,GS,O.d _ (Yu (i:=4) rfl) T.LZ),trivial) e
 df _ _ e:=Rr.look (l:=Vq.df) (Φ:=λ(p:Str×Nat×List EV.A)=>∃f g q y z,mg p.1= ↑⇑f/\W.keepIn K ⇑f=true/\Binds K g q z/\Vals y z/\(∀m H,Rs (gx T ns) H m p.2.2 y)/\Rt P w K mg base (RT P w) j f g q (R9 (gx T ns) (call p.2.1)))
  ((_,_,_,_,_,T.MC,T.LU.kp,pZ T,sk T,Dj,O.d _ (Yu (i:=0) rfl) T.LU),trivial) e
 kw _ _ e:=Rr.look (l:=Vq.kw) (Φ:=λ(p:Str×Nat×(List EV.A->List EV.A->List EV.A)×Str)=>∃f g q I B,mg p.1= ↑⇑f/\W.keepIn K ⇑f=true/\eK K g q [p.2.2.2] I B/\(∀{m H E bs G r},Rs (gx T ns) H m E G->Rs (gx T ns) H m bs r->Rs (gx T ns) H m (p.2.2.1 E bs) (B G r))/\Rt P w K mg base (RT P w) j f g q (R9 (gx T ns) (call p.2.1)))
  ((_,_,_,_,_,T.M4,T.Mz.kp,vX T,λh k=>AE h k .nil,O.f _ (Yu (i:=2) rfl) T.Mz),(_,_,_,_,_,T.Ut,T.M8.kp,Hr T,λh k=>AE h k (.cons (R.int _) .nil),O.f _ (Yu (i:=1) rfl) T.M8),trivial) e
 km _ _ e:=Rr.look (l:=Vq.km) (Φ:=λ(p:Str×Nat×Nat×(List EV.A->List EV.A->List EV.A)×Str)=>Uz K ((gx T ns).tb p.2.1)/\∃f g q I B,Meth K ((gx T ns).tb p.2.1) p.1 f/\eK K g q [p.2.2.2.2] I B/\(∀{m H E bs G r},Rs (gx T ns) H m E G->Rs (gx T ns) H m bs r->Rs (gx T ns) H m (p.2.2.2.1 E bs) (B G r))/\Rt P w K mg base (RT P w) j f g q (R9 (gx T ns) (call p.2.2.1)))
  ((T.U5,_,_,_,_,_,T.Vk,sI T,λh k=>AE h k .nil,O.f _ (Yu (i:=5) rfl) T.ML),trivial) e
 kl _ _ e:=Rr.look (l:=Vq.kl) (Φ:=λp=>∃a t,mg p.1= ↑⇑a/\fg (gx T ns) t p.2/\(∀p∈t,∃j,p.2=.flat (.int j))/\eL K a t) (tAi rfl i9 Bt,tAi rfl fJ Eb,trivial) e
 wl _ _ e:=Rr.look (l:=Vq.wl) (Φ:=λp=>∃a r,mg p.1= ↑⇑a/\mH P w K a r/\Sd (gx T ns) (p.2.map (·.1)) r) ((let⟨a,h1,J⟩:=T.ky;(a,_,h1,J,j6)),trivial) e
 fld k f e:=Rr.has (x:=(k,f)) (l:=Vq.dl) (Φ:=λ(p:Nat×Str)=>Uz K ((gx T ns).tb p.1)/\R0 K ((gx T ns).tb p.1) p.2) (Rr.app (l:=[_,_,_,_,_,_,_]) (Rr.map (f:=λx=>Prod.mk 0 (x)) (Rr.imp (λ_ _ h=>(T.Us,h)) T.na0)) (Rr.map (f:=λx=>Prod.mk 1 (x)) (Rr.imp (λ_ _ h=>(T.U5,h)) T.na1))) e
end
section
variable{P:Program}{w:World}{K:qs}{mg:za}{n:Nat}{ns:zb}
theorem Ip:∀n x,ST[n]?= ↑x->rh x=aG n nms/\x.length<=100:=by
 have h:(List.range ST.length).all (λn=>match ST[n]? with|some x=>(rh x==aG n nms)&&decide (x.length<=100)|none=>true)=true:=by decide +kernel
 intro n x e;have:=NX.mp h n (Q6.mpr (LD.mp e).1);rw[e,Nt]at this;exact(eq_of_beq this.1,NT this.2)
theorem Cg{T:Txt P w K mg}:Rt P w K mg base (RT P w) (3+2*n+1+1) T.LY.a T.LY.d ["thing"] (EV.R9 (gx T ns) ju) :=
 (Rt.imp (tZ (k:=3+2*n+1) T) λz H Q E ⟨m,S,g,s,r,h⟩=>by
  match g,r with
  |[a],r =>let(v,t,rfl,i,j):=r.RN;cases j.SE;let(k,l,h):=(show Out (gx T ns) m S H (rO (Um a) λn=>bA ↑(aG n nms) S) (An (gx T ns) Q) E from h).rd;let(x,e,rfl):=Um.of i l;have f:=Ip k x e;refine(x,rfl,iM (by have:=f.2;lia),λB sm=>?_);let(p,u):=s.same sm;rw[f.1];let(G,y,q):=Out.bA (h.ext u) p;cases y;exact q
  |[],_=>exact h.elim
  |_::_::_,_=>exact h.elim).cx0
theorem BM{T:Txt P w K mg}:Rt P w K mg base (RT P w) (3+2*n+1+1) T.LS.a T.LS.d ["_law_script","_law_town","_law_many"] (EV.R9 (gx T ns) (eH (VO ns))) :=
 (Rt.imp (o9 (k:=3+2*n+1) T) λvs H Q E ⟨m,S,as,s,r,h⟩=>by
  unfold eH at h;split at h
  ·rename_i t m0;let(va,l,rfl,M,N):=r.RN;let(vt,l,rfl,O,U):=N.RN;let(vl,l,rfl,Y,r6):=U.RN;cases r6.SE;let(a,rfl,sc):=M.scrE;let((i,xs),e1,h):=h.rd;let(I,ws,rfl,et,ht,hT,rs):=T3.of s O e1;dsimp only at h;split at h
   ·rename_i x y z;let(p,e2,h):=h.rd;let(q,e3,h):=h.rd;let(k,e4,h):=h.rd;let(f,h):=h.gd;rw[Nt]at f;have h1:=NF f.1;have h2:=NF f.2;let(v1,l,rfl,q1,rs):=rs.RN;let(v2,l,rfl,q2,rs):=rs.RN;let(J,l,rfl,q3,rs):=rs.RN;cases rs.SE;cases Uk.of q1 e2;cases SD.of q2 e3;cases Uk.of Y e4;refine(a,I,ns,k,p,q,[J],rfl,sc,hT,⋯,⋯,⋯,λj L g u e bt v hp B hrm=>?_)
    have ed:VO ns p q k=(j.toNat,g.toNat,u):=by have e:WG ns (.ofNat p) q (.ofNat k)=(j,g,u):=e;unfold VO;rw[e]
    rw[bW,ed]at h;have i1:Int.ofNat j.toNat=j:=Int.toNat_of_nonneg B;have i2:Int.ofNat g.toNat=g:=Int.toNat_of_nonneg hp;dsimp only at h;rw[i1,i2]at h;let(s2,x2):=s.write (c:=.lst [.int g,.int u,z]) (o:=.lst [.int g,.int u,J]) et ht rfl λx=>(_,ak,.cons (R.int _) (.cons (R.int _) (.cons (R.mono x s z q3) .nil)))
    let(s3,x3):=s2.same (H':=L) λb o f=>by
     by_cases G:b=I
     ·subst G;rw[ak]at f;cases f;exact v
     ·rw[ao G]at f;exact bt b o G f
    exact h m L (x2.trans x3) s3 _ (R.int _)
   ·exact h.elim
  ·exact h.elim).cx0
theorem Ka(T:Txt P w K mg):∀c,aG c [8,9,11,12]=true->W.exmOne K ⇑((gx T ns).cls c) ⇑T.LR= ↑true/\W.exmOne K ⇑((gx T ns).cls c) ⇑T.L5= ↑false/\jE T ((gx T ns).cls c) (c - 1):=λc h=>by
 have e:=lB h;simp only[NB,NU,Ou]at e;rcases e with rfl|rfl|rfl|rfl
 ·exact(T.Mq,T.MJ,.head _)
 ·exact(T.Mi,T.Mx,.tail _ (.head _))
 ·exact(T.Mo,T.MD,.tail _ (.tail _ (.head _)))
 ·exact(T.Mr,T.MK,.tail _ (.tail _ (.tail _ (.head _))))
theorem Dz{T:Txt P w K mg}{E G:L2.St->XK}{g:Cs}{e:List Nat}{D:Ends}{I:L2.St}(h:tS (gx T ns) E (jT g i r e) D I H)(L:ST[r]?=some "refused")(M:∀c,aG c e=true->jE T ((gx T ns).cls c) (c - 1))
  (N:∀c d j k,aG c e=true->(∀a,k a=none->(G4 (vS (pO T) [] (λ_ _ _=>False) (gR (rX i) rW))) (D.gone i) (d.set i ↑⇑a) (upd k a (je a ((gx T ns).cls c))))->G d ⇑((gx T ns).cls c) j k):tS (gx T ns) G g D I H:=by
 let(m,J,S,s,O,h):=h;refine(m,J,S,s,O,?_);unfold jT at h
 cases q:g J S with
 |bad=>rw[q]at h;exact h
 |ok f Q=>rw[q]at h;cases f<;>exact h
 |exc c l Q =>
  rw[q]at h;dsimp only at h
  cases qc:aG c e with
  |false=>rw[qc]at h;exact h.elim
  |true =>
   rw[qc]at h;dsimp only at h
   cases y:l[i]? with
   |none=>rw[y]at h;exact h.elim
   |some o =>
    rw[y]at h;intro m1 U z j Y s1 T8;refine N c z j U qc λa ha=>(⇑a,PV (by rw[<- T8.len];exact(LD.mp y).1),a,_,c - 1,rfl,ak,M c qc,λv H2 sm dv=>?_)
    have B:=(eh ha (je a ((gx T ns).cls c))).trans sm;let(s2,x2):=s1.same B;refine h m1 H2 v (Y.trans x2) s2 ?_;let(p,vs,rfl,sq,ds):=dv.Yd;let(u,t,rfl,d1,d2):=ds.RN;let(u',t,rfl,d3,d4):=d2.RN;have d4:=d4.SE;subst d4;rw[d1.Zc,d3.Wv]at sq;exact R.tup sq (.cons (R.str L) (.cons (R.int _) .nil))
noncomputable abbrev tWh(T:Txt P w K mg)(i:Nat):TS:=G4 (vS (pO T) [] (λ_ _ _=>False) (gR (rX i) rW))
theorem C8{X:Cx}(T:Txt X.prog X.w X.K X.mg){E:L2.St->XK}{g:Cs}{body a p:List Stmt}{i r:Nat}{u:List Nat}{x:Str}
  (B:∀(pn:qa)(xe:ql)(E:L2.St->XK),aY (RT X.prog X.w) {X with pn:=pn,xe:=xe} E->Su {X with pn:=pn,xe:=xe} body (tS (gx T ns) E g)) (j:Gl X "Broken") (G:Gl X "PieceError") (I:X.N.Nodup) (v:X.N[i]?= ↑x) (hl:X.env.kindOf x=some .local)
  (J:∀e:Value,Su (X.hand e) (f::p) (tWh T i)) (L:ST[r]?=some "refused") (d:∀c,aG c u=true->W.exmOne X.K ⇑((gx T ns).cls c) ⇑T.LR= ↑true/\W.exmOne X.K ⇑((gx T ns).cls c) ⇑T.L5= ↑false/\jE T ((gx T ns).cls c) (c - 1))
  (k:X.stack=X.env::X.outer:=by rfl) (l:X.env.frame= ↑X.env.locals:=by rfl):PS X (.Try body [.ExceptHandler ↑(.Name "Broken" Y) ↑x (y::a) z,.ExceptHandler ↑(.Name "PieceError" M) ↑x (f::p) Zk] [] [] O) (tS (gx T ns) E (jT g i r u)) :=
 U0 (Ap (i:=i) (i':=i) (th:=λ_ _ _=>False) (t:=λE=>tS (gx T ns) E g) B j T.MR I v hl (λ_ _ _ _ _ _ _ Q=>Q.elim) G T.MQ v hl J k l) λD σ H h=>Dz h L (λc m=>(d c m).2.2) λc U dx H' m q=>.inr ((d c m).2.1,(d c m).1,_,rfl,q)
theorem frA{T:Txt P w K mg}{a:FuncData}{d:zl}{G:List EV.A->Rm->Res EV.A}(F:Rt P w K mg base (RT P w) k f a d (EV.R9 (gx T ns) G)):Rt P w K mg base (RT P w) k f a d (EV.R9 (gx T ns) (ax G)):=Rt.frame (g:=gx T ns) F
theorem cuA{T:Txt P w K mg}{a:FuncData}{d:zl}{G:List EV.A->Rm->Res EV.A}(F:Rt P w K mg base (RT P w) k f a d (EV.R9 (gx T ns) G)):Rt P w K mg base (RT P w) k f a d (EV.R9 (gx T ns) (aM G)):=Rt.cut (g:=gx T ns) F
noncomputable def wrK(k:Nat)(F:List EV.A->Rm->Res EV.A):List EV.A->Rm->Res EV.A:=match k with
 |0=>F
 |1=>ax F
 |_=>aM F
theorem Bl{T:Txt P w K mg}{a:FuncData}{d:zl}{G:List EV.A->Rm->Res EV.A}(F:Rt P w K mg base (RT P w) k f a d (EV.R9 (gx T ns) G)):∀{i:Nat},Rt P w K mg base (RT P w) k f a d (EV.R9 (gx T ns) (wrK i G))
 |0=>F
 |1=>frA F
 |_+2=>cuA F
noncomputable abbrev BN(T:Txt P w K mg)(ns:zb)(n:Nat):Bn:=(gx T ns,3+2*n,cN (VO ns) n,Vq,[0,1,2],KZ T)
theorem fsA:FA.all (λp=>fsB p.2.1 (hs p.2.2))=true:=by kernel_rfl
theorem eqs:FA.map (λp=>cN (VO ns) (n+1) p.2.2)=FA.map λp=>wrK (WR.getD p.2.2 0) (av (gH p.2.1).length (Xs p.2.1 (hs p.2.2)).length (nM (BN T ns n) p.2.1 (hs p.2.2))):=by kernel_rfl
theorem GW{Z:Zx}{X:Cx}(a:At (BN T ns n) Z X E)(e:(cL (cR (BN T ns n) 40) Z b).map Ob.c= ↑c):QL X (gx T ns) E b c:=by
 cases q:cL (cR (BN T ns n) 40) Z b with
 |none=>rw[q]at e;cases e
 |some o=>rw[q]at e;cases e;exact o.h a
theorem HF{T:Txt P w K mg}(O:YL base T ns (3+2*n) (cN (VO ns) n)):Rt P w K mg base (RT P w) (3+2*n+1+1) T.LW.a T.LW.d ["_law_shop","_law_what","_law_one","_law_other"] (EV.R9 (gx T ns) (bz (cN (VO ns) n))):=by refine uh (g:=gx T ns) T.LW.f jV (Up.of jV ?_);intro j p outer s H k q l;have hs:=l.hs;have r:=l.nd;refine⟨DT (C8 (X:=dQ (RT P w) P w K mg base _ _ (ag eg) _ j p outer s H k) T (i:=4) (λpn xe E t=>QL.h (GW (Z:=(Xs eg [],ag eg,λ_=>true,false,false,[])) (l.tr t,uU O,rfl,rfl,(λ_ _=>rfl),(λh=>nomatch h),λh=>nomatch h) (by kernel_rfl))) rfl rfl r rfl rfl (λe=>dk (eS (z0 (E:=λ_ _ _=>False) (my T) q.h.mark rfl T.LX.m T.LX.f.kp T.LX.b .nil (bH (pv 4) aZ)))) rfl (Ka T))⟩
theorem okS(O:YL base T ns (3+2*n) (cN (VO ns) n)):YL base T ns (3+2*n+1+1) (cN (VO ns) (n+1)) where
 f p a:=λD=>by rw[List.map_inj_left.mp (eqs (T:=T)) p a];exact Bl (uh (g:=gx T ns) D (m7 (NX.mp fsA p a)) (Up.of (m7 (NX.mp fsA p a)) (nN (B:=BN T ns n) (uU O))))
 d p a:=λD=>by rw[List.map_inj_left.mp (eqs (T:=T)) p a];exact Bl (C0 (g:=gx T ns) D (m7 (NX.mp fsA p a)) (Up.of (m7 (NX.mp fsA p a)) (nN (B:=BN T ns n) (uU O))))
 nm:=Cg
 dr:=BM
 ask:=cuA (HF O)
theorem alN(T:Txt P w K mg):∀n,YL base T ns (3+2*n) (cN (VO ns) n)
 |0=>(λ_ _=>λ_=>kr,λ_ _=>λ_=>kr,kr,kr,kr)
 |n+1=>okS (alN T n)
theorem DJ{T:Txt P w K mg}(O:YL base T ns (3+2*n) (cN (VO ns) n)):Rt P w K mg base (RT P w) (3+2*n+1+1) T.Mt.a T.Mt.d ["_law_script"] (EV.R9 (gx T ns) (uN (cN (VO ns) n))):=by rw[show uN (cN (VO ns) n)=av 1 (Xs rR []).length (nM (BN T ns n) rR []) by kernel_rfl];exact uh (g:=gx T ns) (N:=Xs rR []) (ps:=gH rR) T.Mt.f (m7 (by kernel_rfl)) (Up.of (m7 (by kernel_rfl)) (nN (B:=BN T ns n) (uU O)))
end
end My
namespace My
open EV
inductive Op where
 |add|sub|mul|less
noncomputable def Op.s:Op->Nat
 | .add=>4
 | .sub=>5
 | .mul=>53
 | .less=>3
inductive Tr where
 |num (n:Nat)|arg (k:Nat)|two (o:Op) (a b:Tr)|pick (a b c:Tr)
inductive Pa where
 |hole (i:Nat)|gap (i m:Nat)|slot (i:Nat)|num (n:Nat)|two (o:Op) (a b:Pa)
noncomputable abbrev nA(n:Nat):A:=.int (.ofNat n)
noncomputable def tR:Tr->A
 | .num n=>.tup [.str 6,nA n]
 | .arg n=>.tup [.str 7,nA n]
 | .two o a b=>.tup [.str o.s,tR a,tR b]
 | .pick a b c=>.tup [.str 8,tR a,tR b,tR c]
noncomputable def pA:Pa->A
 | .hole i=>.tup [.str 35,nA i]
 | .gap i m=>.tup [.str 34,nA i,nA m]
 | .slot i=>.tup [.str 37,nA i]
 | .num n=>.tup [.str 6,nA n]
 | .two o a b=>.tup [.str o.s,pA a,pA b]
noncomputable abbrev Fd:=List Tr×List Nat×List Nat
noncomputable def Fd.add(f g:Fd):Fd:=(f.1++g.1,f.2.1++g.2.1,f.2.2++g.2.2)
instance:DecidableEq Op:=λa b=>by cases a<;>cases b<;>first|exact isTrue rfl|exact isFalse (λh=>nomatch h)
noncomputable def fit:Pa->Tr->Option Fd
 | .hole _,t=>↑([t],[],[])
 | .gap _ m,.num n=>if n<=m then ↑([],[n],[])else none
 | .slot _,.arg k=>↑([],[],[k])
 | .num n,.num m=>if m=n then ↑([],[],[])else none
 | .two o a b,.two d x y=>if d=o then (fit a x).bind λf=>(fit b y).map f.add else none
 |_,_=>none
noncomputable def Pa.sz:Pa->Nat
 | .two _ a b=>a.sz+b.sz+1
 |_=>1
section
theorem aa(h:s d S=.ok (.nx a) e)(k:l a e=r):sq s l d S=r:=by unfold sq;rw[h];exact k
theorem bC(h:s a S=.ok (.rt x) d):sq s l a S=.ok (.rt x) d:=by unfold sq;rw[h]
theorem Lq(h:s d S=.ok (.ct a) e):sq s l d S=.ok (.ct a) e:=by unfold sq;rw[h]
theorem mE(h:s d S=.exc c a e):sq s l d S=.exc c a e:=by unfold sq;rw[h]
theorem aP(h:c d S=.ok v e)(k:a d e=r)(f:v=true:=by rfl):Rw c a b d S=r:=by subst f;unfold Rw Res.x;rw[h];exact k
theorem af(h:c d S=.ok v e)(k:b d e=r)(f:v=false:=by rfl):Rw c a b d S=r:=by subst f;unfold Rw Res.x;rw[h];exact k
theorem iw{S:Rm}{e1 e2:Ce}(h:e1 a S=.ok (.bl true) d)(k:e2 a d=r):UZ e1 e2 a S=r:=by unfold UZ Res.b;rw[h];exact k
theorem vW{S:Rm}{e1 e2:Ce}(h:e1 a S=.ok (.bl false) d):UZ e1 e2 a S=.ok (.bl false) d:=by unfold UZ Res.b;rw[h];rfl
theorem aV(h:e a S=.ok x d):ah e a S=.ok (.rt x) d:=by unfold ah Res.x;rw[h]
theorem aW(h:e ρ S=.ok x S'):aw i e ρ S=.ok (.nx (ρ.set i ↑x)) S':=by unfold aw Res.x;rw[h];rfl
theorem Vc(h:e a S=.ok (.bl v) d):Sn (tV e) a S=.ok (nb v) d:=by unfold Sn tV Res.b;rw[h];rfl
theorem WW(h:e a S=.ok (.bl v) d):tV e a S=.ok v d:=by unfold tV Res.b;rw[h];rfl
theorem bj:∀{l:List α}{n:Nat},l.length<=n->few n l=true
 |[],n,_=>by cases n<;>rfl
 |_::l,n+1,h=>bj (l:=l) (n:=n) (by simpa using h)
theorem Ke{S:Rm}(h:look i S.cs= ↑(.lst a))(q:a.length<=900):dB ⇑i x S=.ok .Ro (S.nx,put i (.lst (a++[x])) S.cs):=by unfold dB T3;simp only[h,rO,gB,bj q,bW,aL]
theorem eZ(d:o a S=.ok ⇑i S)(f:e a S=.ok x S)(h:look i S.cs= ↑(.lst xs))(q:xs.length<=900):RX (cM dB o e) a S=.ok (.nx a) (S.nx,put i (.lst (xs++[x])) S.cs):=by
 have hl:Rv S ⇑i= ↑xs:=by unfold Rv RL;simp only[h]
 unfold RX cM Res.x Res.b;simp only[d,f,hl,rO,Ke h q]
theorem RG{a:List A}(h:body (a.map some++List.replicate (m - a.length) none) S=.ok (.rt x) S')(hl:Nat.beq a.length k=true:=by rfl):av k m body a S=.ok x S':=by unfold av;simp only[rO,gB,hl,aL,h];rfl
theorem rL{a:List A}(h:body (a.map some++List.replicate (m - a.length) none) S=.exc c e d)(hl:Nat.beq a.length k=true:=by rfl):av k m body a S=.exc c d:=by unfold av;simp only[hl,aL,h];rfl
theorem gm{a:List A}(h:body (a.map some++List.replicate (m - a.length) none) S=.ok (.nx e) d)(hl:Nat.beq a.length k=true:=by rfl):av k m body a S=.ok .Ro d:=by unfold av;simp only[hl,aL,h];rfl
end
variable{dl:Dl}
noncomputable def Sf(h g s:List A):Rm:=(4,[(3,.dct [(35,⇑0),(34,⇑1),(37,⇑2)]),(2,.lst s),(1,.lst g),(0,.lst h)])
noncomputable def WH(f:Fd):Rm:=Sf (f.1.map tR) (f.2.1.map nA) (f.2.2.map nA)
theorem E5{h:List A}(q:h.length<=900):cN dl (n+2) 37 [.tup [.str 35,i],a,⇑3] (Sf h g s)=.ok (.bl true) (Sf (h++[a]) g s) :=
 XG▸RG (aa rfl (bC (aP rfl (aa (af rfl rfl) (aa (eZ rfl rfl rfl q) rfl)))))
theorem Im{g:List A}(q:g.length<=900)(hk:Nat.ble k m=true):cN dl (n+2) 37 [pA (.gap i m),tR (.num k),⇑3] (Sf h g s)=.ok (.bl true) (Sf h (g++[nA k]) s) :=
 XG▸RG (aa rfl (bC (aP rfl (aa (af rfl rfl (NZ nb hk)) (aa (eZ rfl rfl rfl q) rfl)))))
theorem E4(hk:Nat.ble k m=false):cN dl (n+2) 37 [pA (.gap i m),tR (.num k),⇑3] S=.ok (.bl false) S :=
 XG▸RG (aa rfl (bC (aP rfl (bC (aP rfl rfl (NZ nb hk))))))
theorem E8{s:List A}(q:s.length<=900):cN dl (n+2) 37 [pA (.slot i),tR (.arg k),⇑3] (Sf h g s)=.ok (.bl true) (Sf h g (s++[nA k])) :=
 XG▸RG (aa rfl (bC (aP rfl (aa (af rfl rfl) (aa (eZ rfl rfl rfl q) rfl)))))
noncomputable def Fd.len(f:Fd):Nat:=f.1.length+f.2.1.length+f.2.2.length
theorem Fd.VX(f g:Fd):(f.add g).len=f.len+g.len:=by simp[len,add];lia
theorem eF:∀(p:Pa)(t:Tr){g:Fd},fit p t= ↑g->g.len<=p.sz
 | .hole _,t,g,h=>by cases h;exact Nu _
 | .gap _ m,.num n,g,h=>by unfold fit at h;split at h<;>cases h;exact Nu _
 | .slot _,.arg k,g,h=>by cases h;exact Nu _
 | .num n,.num m,g,h=>by unfold fit at h;split at h<;>cases h;exact Om _
 | .two o a b,.two j x y,g,h=>by
  unfold fit at h;split at h
  ·let(f,h1,d):=Oo.mp h;let(e,i,rfl):=N1.mp d;have:=eF a x h1;have:=eF b y i;rw[Fd.VX];unfold Pa.sz;lia
  ·cases h
noncomputable def mSp(dl:Dl)(n:Nat)(p:Pa)(t:Tr)(f:Fd):Option Fd->Prop
 |some g=>cN dl n 37 [pA p,tR t,⇑3] (WH f)=.ok (.bl true) (WH (f.add g))
 |none=>∃a,cN dl n 37 [pA p,tR t,⇑3] (WH f)=.ok (.bl false) a
theorem E7:∀(p:Pa)(t:Tr)(n:Nat)(f:Fd),f.len+p.sz<=900->mSp dl (n+p.sz+1) p t f (fit p t)
 | .hole i,t,n,f,h=>by have q:=E5 (dl:=dl) (n:=n) (i:=nA i) (a:=tR t) (h:=f.1.map tR) (g:=f.2.1.map nA) (s:=f.2.2.map nA) (by simp[Fd.len]at *;lia);show cN dl (n+2) 37 _ _=_;simp only[WH,Fd.add,NY,N9];exact q
 | .gap i m,.num k,n,f,h=>by
  unfold fit;split
  ·rename_i z;have q:=Im (dl:=dl) (n:=n) (i:=i) (h:=f.1.map tR) (g:=f.2.1.map nA) (s:=f.2.2.map nA) (by simp[Fd.len]at *;lia) (NP z);show cN dl (n+2) 37 _ _=_;simp only[WH,Fd.add,NY,N9];exact q
  ·rename_i z;exact(_,E4 (by cases q:Nat.ble k m with|true=>exact absurd (NF q) z|false=>rfl))
 | .slot i,.arg k,n,f,h=>by have q:=E8 (dl:=dl) (n:=n) (i:=i) (k:=k) (h:=f.1.map tR) (g:=f.2.1.map nA) (s:=f.2.2.map nA) (by simp[Fd.len]at *;lia);show cN dl (n+2) 37 _ _=_;simp only[WH,Fd.add,NY,N9];exact q
 | .num i,.num k,n,f,h=>by
  unfold fit;have q:cN dl (n+2) 37 [pA (.num i),tR (.num k),⇑3] (WH f)=.ok (.bl (Nat.beq k i)) (WH f):=rfl;by_cases z:k=i
  ·subst z;rw[NL rfl];show cN dl (n+2) 37 _ _=_;rw[q,N2];simp only[WH,Fd.add,N9]
  ·rw[NH z];refine(WH f,?_);show cN dl (n+2) 37 _ _=_;rw[q]
   cases w:Nat.beq k i with
   |true=>exact absurd (NJ w) z
   |false=>rfl
 | .two o a b,.two l x y,n,f,h=>by
  unfold Pa.sz at h;have d:=E7 a x (n+b.sz) f ⋯;rw[show n+(Pa.two o a b).sz+1=(n+b.sz+a.sz+1)+1 by show n+(a.sz+b.sz+1)+1=_;lia];unfold fit;by_cases z:l=o
  ·subst z;rw[NL rfl]
   cases r:fit a x with
   |none =>rw[r]at d;let(u,d):=d;exact(u,XG▸RG (aa rfl (by cases l<;>exact aa (af rfl rfl) (aa (af rfl rfl) (aa (af rfl rfl) (aV (vW d)))))))
   |some v =>
    rw[r]at d;have:=eF a x r;have j:=E7 b y (n+a.sz) (f.add v) (by rw[Fd.VX];lia);rw[show n+a.sz+b.sz+1=n+b.sz+a.sz+1 by lia]at j
    cases B:fit b y with
    |none =>rw[B]at j;let(u,j):=j;exact(u,XG▸RG (aa rfl (by cases l<;>exact aa (af rfl rfl) (aa (af rfl rfl) (aa (af rfl rfl) (aV (iw d j)))))))
    |some E =>
     rw[B]at j;have e:(f.add v).add E=f.add (v.add E):=by simp[Fd.add]
     show cN dl (n+b.sz+a.sz+1+1) 37 _ _=_;rw[<- e];exact XG▸RG (aa rfl (by cases l<;>exact aa (af rfl rfl) (aa (af rfl rfl) (aa (af rfl rfl) (aV (iw d j))))))
  ·rw[NH z];exact(WH f,XG▸RG (aa rfl (by cases l<;>cases o<;>first|exact absurd rfl z|exact aa (af rfl rfl) (bC (aP rfl rfl)))))
 | .gap i m,.arg k,n,f,h=>(_,rfl)
 | .gap i m,.two o x y,n,f,h=>by cases o<;>exact(_,rfl)
 | .gap i m,.pick x y z,n,f,h=>(_,rfl)
 | .slot i,.num k,n,f,h=>(_,rfl)
 | .slot i,.two o x y,n,f,h=>by cases o<;>exact(_,rfl)
 | .slot i,.pick x y z,n,f,h=>(_,rfl)
 | .num i,.arg k,n,f,h=>(_,rfl)
 | .num i,.two o x y,n,f,h=>by cases o<;>exact(_,rfl)
 | .num i,.pick x y z,n,f,h=>(_,rfl)
 | .two o a b,.num k,n,f,h=>by cases o<;>exact(_,rfl)
 | .two o a b,.arg k,n,f,h=>by cases o<;>exact(_,rfl)
 | .two o a b,.pick x y z,n,f,h=>by cases o<;>exact(_,rfl)
inductive Cl where
 |lit (n:Nat)|low (i:Nat)|high (i:Nat)|arg (i:Nat)
noncomputable def WX:Cl->A
 | .lit n=>nA n
 | .low i=>.tup [.str 38,nA i]
 | .high i=>.tup [.str 39,nA i]
 | .arg i=>.tup [.str 7,nA i]
structure Pc where
 nm:Nat
 pat:Pa
 cells:List Cl
noncomputable def Rn(p:Pc):A:=.tup [.str p.nm,pA p.pat,.tup (p.cells.map WX)]
theorem dX:∀{a d:List A},ba a=true->ba d=true->ba (a++d)=true
 |[],_,_,h=>h
 |x::a,d,h,k=>have h:=(Nt _ _).mp h;(Nt _ _).mpr (h.1,dX h.2 k)
theorem aI{α:Type}{f:α->A}(h:∀x,aQ (f x)=true):∀l:List α,ba (l.map f)=true
 |[]=>rfl
 |x::l=>(Nt _ _).mpr (h x,aI h l)
theorem ED(a:aQ x=true)(hy:aQ y=true)(h:aQ z=true):aQ (.tup [.str n,x,y])=true/\aQ (.tup [.str n,x,y,z])=true:=by simp[Vn,SQ,Tg,a,hy,h]
theorem aF:∀t:Tr,aQ (tR t)=true
 | .num _=>rfl
 | .arg _=>rfl
 | .two o a b=>(ED (aF a) (aF b) (aF b)).1
 | .pick a b c=>(ED (aF a) (aF b) (aF c)).2
theorem uP:∀t:Pa,aQ (pA t)=true
 | .hole _=>rfl
 | .gap _ _=>rfl
 | .slot _=>rfl
 | .num _=>rfl
 | .two o a b=>(ED (uP a) (uP b) (uP b)).1
theorem qB(c:Cl):aQ (WX c)=true:=by cases c<;>rfl
theorem aO(p:Pc):aQ (Rn p)=true:=by simp[Rn,Vn,SQ,Tg,uP,aI qB]
theorem bI(n:Nat):aQ (nA n)=true:=rfl
section
theorem bp(h:aQ x=true)(r:fG S a k= ↑(Prod.mk (bs) d)):fG S (x::a) k= ↑(Prod.mk (x::bs) d):=by cases x<;>first | (simp only[fG,gB,rO,h,r];done)|cases h
theorem bP(h:RL S i= ↑a)(d:ba a=true)(r:fG S e (k+1)= ↑(Prod.mk (bs) f))(g:gG i e=true:=by rfl):fG S (⇑i::e) k= ↑(⇑k::bs,(k,.RK a)::f):=by simp only[fG,gB,rO,h,d,r,g]
theorem o7(h:aQ x=true):gG i (x::a)=gG i a:=by cases x<;>first|rfl|cases h
theorem o8(h:RL S i= ↑a)(d:RL S j= ↑e)(ne:a≠e):gG i [⇑j]=true:=by
 show(match Nat.beq i j with|true=>false|false=>true)=true
 cases q:Nat.beq i j with
 |true=>rw[NJ q,d]at h;cases h;exact absurd rfl ne
 |false=>rfl
theorem TJ(d:fG S e 0= ↑(Prod.mk (bs) a))(h:F bs (a.length,a)=.ok x g)(f:aQ x=true):ax F e S=.ok x S:=by unfold ax;simp only[d,rO,uT,h,YE,f]
theorem De(d:fG S e 0= ↑(Prod.mk (bs) a))(h:F bs (a.length,a)=.exc c f):ax F e S=.exc c S:=by unfold ax;simp only[d,rO,uT,h,YE]
theorem jx(a:fG S d 0= ↑(Prod.mk (bs) cs))(h:F bs (cs.length,cs)=.ok ⇑i e)(f:Nat.ble cs.length i=true)(hl:look i e.cs= ↑(.lst xs))(g:ba xs=true):ax F d S=.ok ⇑S.nx (S.nx+1,(S.nx,.lst xs)::S.cs):=by unfold ax;simp only[a,rO,uT,h,YE,show aQ ⇑i=false from rfl,T3,hl,gB,f,g,b8]
end
noncomputable def XI:Option Fd->A
 |none=>.Ro
 |some f=>.tup [.tup (f.1.map tR),.tup (f.2.1.map nA),.tup (f.2.2.map nA)]
theorem HC(f:Option Fd):aQ (XI f)=true:=by
 cases f with
 |none=>rfl
 |some f=>simp[XI,Vn,SQ,aI aF,aI bI]
theorem yC(p:Pc)(t:Tr)(hs:p.pat.sz<=900):cN dl (n+p.pat.sz+2) 38 [Rn p,tR t] S=.ok (XI (fit p.pat t)) S:=by
 have h:=E7 (dl:=dl) p.pat t n ([],[],[]) (by simpa[Fd.len]using hs)
 cases q:fit p.pat t with
 |none =>rw[q]at h;let(a,h):=h;exact TJ (F:=gY _) (bp (aO p) (bp (aF t) rfl)) (RG (aa rfl (bC (aP (Vc h) rfl)))) rfl
 |some g =>rw[q]at h;exact TJ (F:=gY _) (bp (aO p) (bp (aF t) rfl)) (RG (aa rfl (aa (af (Vc h) rfl) rfl))) (HC ↑g)
end My
namespace My
open EV
section
theorem EA{S:Rm}{e1 e2 e3:Ce}(d:e1 a S=.ok (.int i) S)(e:e2 a S=.ok (.int j) S)(f:e3 a S=.ok (.int k) S)(h:UG i j=true):WU e1 e2 e3 a S=.ok (.bl (UG j k)) S:=by unfold WU Res.b;simp only[d,e,f,oLe,wj,h,rO,SD,UO]
theorem cv(h:i<=j):UG (.ofNat i) (.ofNat j)=true:=NP h
theorem gM(h:i<j):UG (.ofNat j) (.ofNat i)=false:=by
 cases q:UG (.ofNat j) (.ofNat i)with
 |true=>exact absurd (NF q) ⋯
 |false=>rfl
mutual
theorem oP:∀(x:A),aQ x=true->oO n x=true
 | .Ro,_=>rfl
 | .bl _,_=>rfl
 | .int _,_=>rfl
 | .str _,_=>rfl
 | .tup a,h=>Uu a h
theorem Uu:∀(a:List A),ba a=true->jQ n a=true
 |[],_=>rfl
 |x::a,h=>have h:=(Nt _ _).mp h;(Nt _ _).mpr (oP x h.1,Uu a h.2)
end
theorem qX(h:ba a=true):jQ n a=true:=Uu a h
theorem br(h:aQ x=true)(r:eW n a=true):eW n (↑x::a)=true:=(Nt _ _).mpr (oP x h,r)
theorem eP(h:Nat.blt i n=true)(r:eW n a=true):eW n (↑⇑i::a)=true:=(Nt _ _).mpr (h,r)
theorem zx(r:eW n a=true):eW n (none::a)=true:=r
theorem bB(h:ba xs=true)(r:cP n a=true):cP n ((i,.lst xs)::a)=true/\cP n ((i,.RK xs)::a)=true:=by constructor<;>exact(Nt _ _).mpr ((QM _ _).mpr (.inr (qX h)),r)
theorem Nh(h:b a S=.ok (.nx ρ') S')(d:eW S.nx (kill ds ρ')=true)(e:cP S.nx S'.cs=true):sG ds b a S=.ok (.nx (kill ds ρ')) (S.nx,old S.nx S'.cs):=by unfold sG YF;simp only[h,aL,d,jZ,e]
theorem II{S:Rm}(h:look i S.cs= ↑(.lst (xs++[x]))):lg ⇑i S=.ok x (S.nx,put i (.lst xs) S.cs):=by unfold lg T3;simp only[h,rO,aL,bW];simp
theorem KC{S:Rm}(h:look i S.cs= ↑(.lst a))(k:look j S.cs= ↑(.lst d))(q:(a++d).length<=900):oU ⇑i ⇑j S=.ok .Ro (S.nx,put i (.lst (a++d)) S.cs):=by unfold oU T3;simp only[h,k,rO,gB,bj q,aL,bW]
theorem AM(g:o d S=.ok ⇑i S)(l:Rv S ⇑i≠none)(m:e d S=.ok ⇑j a)(h:look i a.cs= ↑(.lst xs))(k:look j a.cs= ↑(.lst f))(q:(xs++f).length<=900):RX (cM oU o e) d S=.ok (.nx d) (a.nx,put i (.lst (xs++f)) a.cs):=by
 unfold RX cM Res.x Res.b;simp only[rO,gB,g]
 cases z:Rv S ⇑i with
 |none=>exact absurd z l
 |some _=>simp only[m,rO,KC h k q]
end
variable{n:Nat}
theorem gu(h:a<=k)(d:k<=b):cN dl (n+1) 0 [nA k,nA a,nA b] S=.ok (.bl true) S :=
 c0▸RG (aV (iw rfl (iw rfl ((EA rfl rfl rfl (cv h)).trans (by rw[cv d])))))
noncomputable def Tr.ok:Tr->Prop
 | .num n=>n<=9999
 | .arg k=>k<=3
 | .two _ a b=>a.ok/\b.ok
 | .pick a b c=>a.ok/\b.ok/\c.ok
noncomputable def Tr.dep:Tr->Nat
 | .two _ a b=>max a.dep b.dep+1
 | .pick a b c=>max a.dep (max b.dep c.dep)+1
 |_=>1
noncomputable def Tr.kids:Tr->List Tr
 | .two _ a b=>[a,b]
 | .pick a b c=>[a,b,c]
 |_=>[]
noncomputable def Tr.cnt:Tr->Nat
 | .two _ a b=>a.cnt+b.cnt+1
 | .pick a b c=>a.cnt+b.cnt+c.cnt+1
 |_=>1
theorem Cj{t:Tr}(h:t.ok):cN dl (n+2) 4 [tR t] S=.ok (.bl true) S:=by
 cases t with
 |num k=>rw[c4];exact RG (aa rfl (aa rfl (bC (aP rfl (aV (iw rfl (gu (dl:=dl) (n:=n) (Om _) h)))))))
 |arg k=>rw[c4];exact RG (aa rfl (aa rfl (bC (aP rfl (aV (iw rfl (gu (dl:=dl) (n:=n) (Om _) h)))))))
 |two o a b=>cases o<;>rfl
 |pick a b c=>rfl
theorem uX:cN dl (n+1) 5 [tR t] S=.ok (.tup (t.kids.map tR)) S:=by
 cases t with
 |two o a b=>cases o<;>rfl
 |_=>rfl
noncomputable abbrev wA(w:Tr×Nat):A:=.tup [tR w.1,nA w.2]
theorem ym(w:Tr×Nat):aQ (wA w)=true:=by simp only[wA,Vn,SQ,Tg,OM,aF]
noncomputable def Sw(a:List (Tr×Nat)):Rm:=(1,[(0,.lst (a.map wA))])
noncomputable def fL:List (Tr×Nat)->Nat
 |[]=>0
 |w::r=>w.1.cnt+fL r
theorem kG:∀(a b:List (Tr×Nat)),fL (a++b)=fL a+fL b
 |[],b=>by simp[fL]
 |w::a,b=>by simp[fL,kG a b];lia
theorem uL(t:Tr):0<t.cnt:=by cases t<;>simp[Tr.cnt]
theorem yh(t:Tr)(d:Nat):t.cnt=fL (t.kids.map λx=>(x,d))+1:=by cases t<;>simp[Tr.cnt,Tr.kids,fL]<;>lia
theorem qq:∀a:List (Tr×Nat),a.length<=fL a
 |[]=>Nu _
 |w::r=>by have:=uL w.1;have:=qq r;simp[fL];lia
section
theorem l7(h:e ρ S=.ok x d)(k:t x ρ= ↑a):dJ t e ρ S=.ok (.nx a) d:=by unfold dJ Res.x;simp only[rO,gB,h,k]
theorem wW(h:c a S=.ok v S)(k:d a S=.ok w S)(e:v=false)(f:w=false):Tf c d a S=.ok false S:=by subst e f;unfold Tf Res.b;simp only[h,k]
end
theorem xo{t:Tr}(e:t.ok)(f:d<=8)(hk:k+1<=40)(hl:(ws++t.kids.map λx=>(x,d+1)).length<=900) :
  gE (cN dl (n+2)) [↑(tR a),↑⇑0,↑(nA k),z,z'] (Sw (ws++[Prod.mk t d]))=.ok (.nx [↑(tR a),↑⇑0,↑(nA (k+1)),↑(tR t),↑(nA d)]) (Sw (ws++t.kids.map λx=>(x,d+1))):=by
 have g:lg ⇑0 (Sw (ws++[Prod.mk t d]))=.ok (wA (t,d)) (Sw ws):=II (xs:=ws.map wA) (by show ↑(C.lst ((ws++[Prod.mk t d]).map wA))=_;rw[NY];rfl)
 have i:ay (iT (ae (cN dl (n+2) 5) %[1.3|0])) 1 [4] 4.0 tT (au %[1.0,(cO bg 1.1 2.1)|0]) [↑(tR a),↑⇑0,↑(nA (k+1)),↑(tR t),↑(nA d)] (Sw ws)=.ok ⇑1 (2,[(1,.lst ((t.kids.map λx=>(x,d+1)).map wA)),(0,.lst (ws.map wA))]):=by
  cases t with
  |two o x y=>cases o<;>rfl
  |_=>rfl
 refine(Nh (aa (l7 g rfl) (aa rfl (aa (af (wW rfl (wW rfl (Vc (Cj e)) (NZ nb (cv f)) rfl) (NZ nb (cv hk)) rfl) rfl) (AM rfl (by intro z;cases z) i rfl rfl (by rw[<- NY,NC];exact hl))))) ?_ ?_).trans ?_
 ·exact br (aF a) (eP rfl (br rfl (br (aF t) (br rfl rfl))))
 ·exact(bB (aI ym _) (bB (dX (aI ym _) (aI ym _)) rfl).1).1
 ·rw[show Sw (ws++t.kids.map λx=>(x,d+1))=(1,[(0,.lst (ws.map wA++(t.kids.map λx=>(x,d+1)).map wA))]) by unfold Sw;rw[NY]];rfl
noncomputable def XJ:List (Tr×Nat)->Prop
 |[]=>True
 |w::r=>w.1.ok/\w.2+w.1.dep<=9/\XJ r
theorem U6:∀{a b:List (Tr×Nat)},XJ (a++b)↔XJ a/\XJ b
 |[],b=>by simp[XJ]
 |w::a,b=>by simp[XJ,U6 (a:=a),and_assoc]
theorem zP{t:Tr}(h:t.ok)(e:d+t.dep<=9):XJ (t.kids.map λx=>(x,d+1)):=by
 cases t with
 |two o a b=>exact(h.1,by simp[Tr.dep]at *;lia,h.2,by simp[Tr.dep]at *;lia,trivial)
 |pick a b c=>exact(h.1,by simp[Tr.dep]at *;lia,h.2.1,by simp[Tr.dep]at *;lia,h.2.2,by simp[Tr.dep]at *;lia,trivial)
 |_=>trivial
theorem fB(t:Tr):0<t.dep:=by cases t<;>simp[Tr.dep]
theorem nC:∀(f:Nat)(i:List (Tr×Nat))(k:Nat)(z j:Option A),fL i<f->k+fL i<=40->XJ i->∃l y m,wl (tV 1.1) (gE (cN dl (n+2))) f [↑(tR a),↑⇑0,↑(nA k),z,j] (Sw i)=.ok (.nx [↑(tR a),↑⇑0,↑(nA l),y,m]) (Sw [])
 |0,_,_,_,_,h,_,_=>by lia
 |f+1,i,k,z,j,h,hk,v=>by
  rcases List.eq_nil_or_concat i with rfl|⟨g,⟨t,d⟩,rfl⟩
  ·exact(k,z,j,rfl)
  ·rw[List.concat_eq_append]at *;let(w,p,r,_):=U6.mp v;rw[kG]at h hk;have e:=yh t (d+1);have e1:fL [(t,d)]=t.cnt:=by simp[fL]
   have hl:fL (g++t.kids.map λx=>(x,d+1))+1=fL g+t.cnt:=by rw[kG];lia
   have:=qq (g++t.kids.map λx=>(x,d+1));have:=fB t;have q:=xo (dl:=dl) (n:=n) (a:=a) (ws:=g) (t:=t) (d:=d) (k:=k) (z:=z) (z':=j) p (by simp at r;lia) (by have:=uL t;lia) ⋯;let(l,y,m,B):=nC f (g++t.kids.map λx=>(x,d+1)) (k+1) ↑(tR t) ↑(nA d) ⋯ ⋯ (U6.mpr (w,zP p r));refine(l,y,m,?_)
   have E:tV 1.1 [↑(tR a),↑⇑0,↑(nA k),z,j] (Sw (g++[Prod.mk t d]))=.ok true (Sw (g++[Prod.mk t d])):=by show(match some (Xx ((g++[Prod.mk t d]).map wA))with|some a=>Res.ok a _|none=>.bad)=_;rw[NY];cases g.map wA<;>rfl
   show(tV 1.1 _ _).x _ _=_;rw[E];show(match gE (cN dl (n+2)) _ _ with | .ok (.nx u) S=>_ | .ok (.ct u) S=>_ | .ok (.bk u) S=>_|x=>x)=_;rw[q];exact B
theorem Dy{t:Tr}(h:t.ok)(d:t.dep<=8)(e:t.cnt<=40):cN dl (n+3) 6 [tR t] S=.ok (.bl true) S:=by let(k,y,f,q):=nC (dl:=dl) (n:=n) (a:=t) 90 [(t,1)] 0 none none (by simp[fL];lia) (by simp[fL];lia) (h,by show 1+t.dep<=9;lia,trivial);rw[c6];exact TJ (bp (aF t) rfl) (RG (aa rfl (aa rfl (aa q rfl)))) rfl
theorem iR{t:Tr}(h:t.ok)(a:t.dep<=8)(d:t.cnt<=40):cN dl (n+4) 7 [tR t] S=.ok .Ro S:=by rw[c7];exact TJ (bp (aF t) rfl) (gm (af (Vc (Dy h a d)) rfl)) rfl
end My
namespace My
open EV
section
theorem fD(g:a x d= ↑e)(i:b e S=.ok (.nx f) j)(k:lp a b l f j=r):lp a b (x::l) d S=r:=by show(match a x d with|none=>_|some d=>_)=r;simp only[g,i];exact k
theorem Ik(g:a x d= ↑e)(i:b e S=.ok (.ct f) j)(k:lp a b l f j=r):lp a b (x::l) d S=r:=by show(match a x d with|none=>_|some d=>_)=r;simp only[g,i];exact k
theorem KU(f:e x a= ↑d)(g:b d S=.ok (.rt y) i):lp e b (x::j) a S=.ok (.rt y) i:=by show(match e x a with|none=>_|some a=>_)=_;simp only[f,g]
theorem yU(h:e d S=.ok x a)(hl:Rv a x= ↑f):iL e d S=.ok (f,[x]) a:=by unfold iL Res.b;simp only[rO,h,hl,rO]
theorem KM(h:e d S=.ok x a)(hl:Rv a x= ↑f):qP e d S=.ok (f.reverse,[x]) a:=by unfold qP Res.b;simp only[h,hl,rO,aL]
theorem HW(h:e a S=.ok (.tup d) f):iT e a S=.ok (d,[]) f:=by unfold iT Res.b;simp only[h,Ul,rO]
theorem iH(d:it a S=.ok (xs,[]) e)(h:lp g b xs a e=.ok f i):dI it g b a S=.ok f i:=by unfold dI Res.x;simp only[d,cB,h,XR.back,bJ]
theorem yB(e:it a S=.ok (g,[⇑i]) d)(hk:look i d.cs= ↑(.RK l))(h:lp j b g a d=.ok f k):dI it j b a S=.ok f k:=by unfold dI Res.x;simp only[e,cB,hk,h,XR.back,bJ]
theorem mZ(j:it d S=.ok (k,[⇑i]) a)(hk:look i a.cs= ↑(.lst e))(h:lp l b k d (a.nx,put i (.RK e) a.cs)=.ok f g):dI it l b d S=.ok f (g.nx,put i (.lst e) g.cs):=by unfold dI Res.x;simp only[j,cB,hk,bW,h,XR.back,bJ]
theorem nW{ρ:Env}{S:Rm}{c:Ct}{e:Ce}{α:Type}{f:α->A}{p:α->Bool}{g:α->A}:∀(l:List α)(z:Option A)(a:List A),(∀x∈l,c (↑(f x)::ρ) S=.ok (p x) S/\(p x=true->e (↑(f x)::ρ) S=.ok (g x) S))->Ti 4.0 c e (l.map f) (z::ρ) a S=.ok (a++(l.filter p).map g) S
 |[],z,a,_=>by simp[Ti]
 |x::d,z,a,h=>by
  let(h1,j):=h x (.head _);have i:=λa=>nW d ↑(f x) a λy hy=>h y (.tail _ hy);show(c (↑(f x)::ρ) S).b _=_;rw[h1]
  cases q:p x with
  |true =>show(e (↑(f x)::ρ) S).b _=_;rw[j q];show Ti 4.0 c e (d.map f) (↑(f x)::ρ) (a++[g x]) S=_;rw[i];simp[q]
  |false =>show Ti 4.0 c e (d.map f) (↑(f x)::ρ) a S=_;rw[i];simp[q]
theorem dG{a:Env}{S:Rm}{e:Ce}{α:Type}{f g:α->A}(l:List α)(z:Option A)(h:∀x∈l,e (↑(f x)::a) S=.ok (g x) S):Ti 4.0 tT e (l.map f) (z::a) [] S=.ok (l.map g) S:=by rw[nW (p:=λ_=>true) (g:=g) l z [] λx d=>(rfl,λ_=>h x d),Q5.mpr λ_ _=>rfl];simp
theorem nX(d:it ρ S=.ok (a,[⇑i]) S)(hk:look i S.cs= ↑(.RK l))(f:a.length<=900)(h:Ti g c e a (Sy k fr ρ) [] S=.ok zs S)(j:zs.length<=900):ay it k fr g c e ρ S=.ok ⇑S.nx (S.nx+1,(S.nx,.lst zs)::S.cs):=by unfold ay Res.b;simp only[d,bj f,gB,aL,cB,hk,h,Res.UU,Res.back,bJ,new,bj j,b8]
theorem nY(d:it ρ S=.ok (xs,[⇑i]) S)(hk:look i S.cs= ↑(.lst ys))(f:xs.length<=900)(h:Ti g c e xs (Sy k fr ρ) [] (S.nx,put i (.RK ys) S.cs)=.ok a (S.nx,put i (.RK ys) S.cs))(j:put i (.lst ys) (put i (.RK ys) S.cs)=S.cs)(l:a.length<=900):ay it k fr g c e ρ S=.ok ⇑S.nx (S.nx+1,(S.nx,.lst a)::S.cs):=by unfold ay Res.b;simp only[d,bj f,gB,aL,cB,hk,bW,h,Res.UU,Res.back,bJ,j,new,bj l,b8]
theorem sR(d:it ρ S=.ok (xs,[]) S)(f:xs.length<=900)(h:Ti g c e xs (Sy k fr ρ) [] S=.ok a S)(i:a.length<=900):ay it k fr g c e ρ S=.ok ⇑S.nx (S.nx+1,(S.nx,.lst a)::S.cs):=by unfold ay Res.b;simp only[d,bj f,gB,aL,cB,h,Res.UU,Res.back,bJ,new,bj i,b8]
end
noncomputable def Tr.parts:Tr->List Tr
 | .two o a b=>.two o a b::(a.parts++b.parts)
 | .pick a b c=>.pick a b c::(a.parts++b.parts++c.parts)
 |t=>[t]
theorem bG:∀t:Tr,t.parts.length=t.cnt
 | .num _=>rfl
 | .arg _=>rfl
 | .two o a b=>by simp[Tr.parts,Tr.cnt,bG a,bG b]
 | .pick a b c=>by simp[Tr.parts,Tr.cnt,bG a,bG b,bG c];lia
noncomputable def Sx(a:List Tr):Rm:=(1,[(0,.lst (a.map tR))])
theorem fe(h:∀S,P 10 [tR c] S=.ok ⇑S.nx (S.nx+1,(S.nx,.lst (c.parts.map tR))::S.cs))(hl:(xs++c.parts).length<=900):su P [↑(tR t),↑⇑0,↑(tR c)] (Sx xs)=.ok (.nx [↑(tR t),↑⇑0,↑(tR c)]) (Sx (xs++c.parts)):=by
 refine(Nh (AM rfl (by intro z;cases z) (h (Sx xs)) rfl rfl (by rw[<- NY,NC];exact hl)) ?_ ?_).trans ?_
 ·exact br (aF t) (eP rfl (br (aF c) rfl))
 ·exact(bB (aI aF _) (bB (dX (aI aF _) (aI aF _)) rfl).1).1
 ·rw[show Sx (xs++c.parts)=(1,[(0,.lst (xs.map tR++c.parts.map tR))]) by unfold Sx;rw[NY]];rfl
theorem dO:∀(t:Tr){n:Nat}{S:Rm},t.cnt<=40->cN dl (n+t.dep+1) 10 [tR t] S=.ok ⇑S.nx (S.nx+1,(S.nx,.lst (t.parts.map tR))::S.cs)
 | .num k,n,S,_=>by rw[c10];exact jx (bp rfl rfl) (RG (aa rfl (aa (iH rfl rfl) rfl))) rfl rfl rfl
 | .arg k,n,S,_=>by rw[c10];exact jx (bp rfl rfl) (RG (aa rfl (aa (iH rfl rfl) rfl))) rfl rfl rfl
 | .two o a b,n,S,h=>by have:=bG a;have:=bG b;unfold Tr.cnt at h;have d:=λS=>dO (dl:=dl) a (n:=n+(max a.dep b.dep - a.dep)) (S:=S) ⋯;have e:=λS=>dO (dl:=dl) b (n:=n+(max a.dep b.dep - b.dep)) (S:=S) ⋯;rw[show n+(max a.dep b.dep - a.dep)+a.dep+1=n+max a.dep b.dep+1 by lia]at d;rw[show n+(max a.dep b.dep - b.dep)+b.dep+1=n+max a.dep b.dep+1 by lia]at e;rw[show n+(Tr.two o a b).dep+1=n+max a.dep b.dep+1+1 by show n+(max a.dep b.dep+1)+1=_;lia,c10];refine jx (bp (aF _) rfl) (RG (aa rfl (aa (iH (HW (uX (dl:=dl) (n:=n+max a.dep b.dep))) (fD rfl (fe (xs:=[.two o a b]) d (by simp;lia)) (fD rfl (fe e (by simp;lia)) rfl))) rfl))) rfl rfl ?_;exact aI aF _
 | .pick a b c,n,S,h=>by have:=bG a;have:=bG b;have:=bG c;unfold Tr.cnt at h;let m:=max a.dep (max b.dep c.dep);have d:=λS=>dO (dl:=dl) a (n:=n+(m - a.dep)) (S:=S) ⋯;have e:=λS=>dO (dl:=dl) b (n:=n+(m - b.dep)) (S:=S) ⋯;have f:=λS=>dO (dl:=dl) c (n:=n+(m - c.dep)) (S:=S) ⋯;rw[show n+(m - a.dep)+a.dep+1=n+m+1 by lia]at d;rw[show n+(m - b.dep)+b.dep+1=n+m+1 by lia]at e;rw[show n+(m - c.dep)+c.dep+1=n+m+1 by lia]at f;rw[show n+(Tr.pick a b c).dep+1=n+m+1+1 by show n+(m+1)+1=_;lia,c10];refine jx (bp (aF _) rfl) (RG (aa rfl (aa (iH (HW (uX (dl:=dl) (n:=n+m) (t:=.pick a b c))) (fD rfl (fe (xs:=[.pick a b c]) d (by simp;lia)) (fD rfl (fe e (by simp;lia)) (fD rfl (fe f (by simp;lia)) rfl)))) rfl))) rfl rfl ?_;exact aI aF _
noncomputable def h0:Pa:=.hole 0
noncomputable def h1:Pa:=.hole 1
noncomputable def YM:Pa:=.gap 0 99
noncomputable def VY:List Pc:=[(70,YM,[.lit 1,.low 0]),(71,.gap 0 9999,[.lit 2,.low 0,.high 0]),(37,.slot 0,[.lit 3,.arg 0]),(4,.two .add h0 h1,[.lit 4]),(5,.two .sub h0 h1,[.lit 5]),(53,.two .mul h0 h1,[.lit 6]),(3,.two .less h0 h1,[.lit 7]),(26,.two .add h0 YM,[.lit 12,.low 0])]
noncomputable def Uv:List Pc:=[(54,.two .add h0 (.num 1),[.lit 12,.lit 1]),(55,.two .add (.slot 0) (.slot 1),[.lit 3,.arg 0,.lit 3,.arg 1,.lit 4]),(56,.two .mul h0 (.num 2),[.lit 13,.lit 4]),(57,.two .sub h0 YM,[.lit 1,.low 0,.lit 5]),(58,.two .add (.two .mul h0 h1) YM,[.lit 6,.lit 12,.low 0]),(59,.two .less YM h0,[.lit 1,.low 0,.lit 14,.lit 7]),(23,.two .add h0 (.gap 0 9999),[.lit 2,.low 0,.high 0,.lit 4]),(60,.two .sub YM (.gap 1 99),[.lit 1,.low 0,.lit 1,.low 1,.lit 5])]
theorem E3:cN dl (n+1) 76 [] S=.ok ⇑S.nx (S.nx+1,(S.nx,.lst (Uv.map Rn))::S.cs):=by rw[c76];exact jx (bs:=[]) (cs:=[]) rfl rfl rfl rfl rfl
noncomputable abbrev Uc:List Pc:=VY++Uv
theorem lI(h:p∈Uc):cN dl (n+12) 32 [Rn p] S=.ok (.bl true) S:=by
 have q:∀p∈Uc,∃a,gZ (cN dl (n+11)) [Rn p] (0,[])=.ok (.bl true) a:=by simp only[Uc,VY,Uv,List.cons_append,QY,List.forall_mem_cons];refine((_,rfl),(_,rfl),(_,rfl),(_,rfl),(_,rfl),(_,rfl),(_,rfl),(_,rfl),(_,rfl),(_,rfl),(_,rfl),(_,rfl),(_,rfl),(_,rfl),(_,rfl),(_,rfl),by simp)
 let(a,q):=q p h;rw[c32];exact TJ (bp (aO p) rfl) q rfl
structure So(ps:List Pc):Prop where
 pos:1<=ps.length
 le:ps.length<=16
 all:∀p∈ps,p∈Uc
 nd:(ps.map (·.nm)).Nodup
section
theorem RY(h:e a S=.ok (.bl v) d):Rq e a S=.ok v d:=by unfold Rq Res.b;simp only[h,rO,UO]
theorem tnt(h:c a S=.ok v d):Sn c a S=.ok (nb v) d:=by unfold Sn Res.b;simp only[h]
theorem Sb(h:e a S=.ok x S')(k:u x S'=r):cU u e a S=r:=by unfold cU Res.b;rw[h];exact k
theorem RB{S:Rm}{e2:Ce}(h:e a S=.ok x S')(d:e2 a S'=.ok y S2)(k:o x y S2=r):cO o e e2 a S=r:=by unfold cO Res.b;simp only[h,d];exact k
theorem RI(h:e a S=.ok x d)(r:f a d=.ok g i):aC e f a S=.ok (x::g) i:=by unfold aC Res.b;simp only[h,r]
theorem xp(h:d e S=.ok a f)(hl:few 900 a=true:=by rfl):au d e S=.ok (.tup a) f:=by unfold au Res.b;rw[h];show gB (few 900 a) _=_;rw[hl];rfl
theorem aj(h:es a S=.ok d e)(k:F d e=r):ae F es a S=r:=by unfold ae Res.b;rw[h];exact k
theorem qZ{α β:Type}{f:A->Option β}{k:α->A}{h:α->β}(e:∀x,f (k x)= ↑(h x)):∀l:List α,mapR f (l.map k)= ↑(l.map h)
 |[]=>rfl
 |x::l=>by show rO (f (k x)) (λy=>rO (mapR f (l.map k)) _)=_;rw[e x,qZ e l];rfl
theorem uC{α:Type}{l:List α}(h:Rv S x= ↑(l.map λ_=>.bl true)):j8 x S=.ok (.bl true) S:=by unfold j8;rw[h];show rO (mapR UO _) _=_;rw[qZ (h:=λ_=>true) λ_=>rfl];show Res.ok (A.bl ((l.map λ_=>true).all id)) S=_;simp
theorem D1{S:Rm}{α:Type}{l:List α}{q:α->Bool}(h:Rv S x= ↑(l.map λx=>.bl (q x))):xA x S=.ok (.bl (l.any q)) S:=by unfold xA;rw[h];show rO (mapR UO _) _=_;rw[qZ (h:=q) λ_=>rfl];show Res.ok (A.bl ((l.map q).any id)) S=_;rw[List.any_map];rfl
theorem DY(l:List Nat):strsOf (l.map A.str)= ↑l:=(qZ (k:=A.str) (h:=id) (λ_=>rfl) l).trans (by rw[List.map_id])
theorem Uw:∀{l:List Nat},aG n l=true↔n∈l
 |[]=>by simp[aG]
 |k::l=>by
  unfold aG;by_cases h:k=n
  ·subst h;simp[N2]
  ·have:Nat.beq k n=false:=by
    cases q:Nat.beq k n with
    |true=>exact absurd (NJ q) h
    |false=>rfl
   rw[this];simp[Uw (l:=l),OB h]
theorem HD:∀{l a:List Nat},(a++l).Nodup->mr a l=a++l
 |[],a,_=>by simp[mr]
 |n::l,a,h=>by
  have d:aG n a=false:=by
   cases q:aG n a with
   |true=>exact absurd rfl ((Rk.mp h).2.2 n (Uw.mp q) n (.head _))
   |false=>rfl
  unfold mr;rw[d];show mr (a++[n]) l=_;rw[HD (by simpa using h)];simp
end
noncomputable def Ss(a:List Pc):Rm:=(1,[(0,.RK (a.map Rn))])
theorem wJ(h:So a)(f:RL S i= ↑(a.map Rn)):cN dl (n+13) 34 [⇑i] S=.ok (.bl true) S:=by
 have le:=h.le;have j:=nX (it:=iL 1.0) (k:=1) (fr:=[]) (ρ:=[↑⇑0]) (S:=Ss a) (i:=0) (c:=tT) (e:=ae (cN dl (n+12) 32) %[1.0|0]) rfl rfl (by simp;lia) (dG (g:=λ_=>.bl true) a none λp d=>lI (h.all p d)) (by simp;lia);have l:=nX (it:=iL 1.0) (k:=1) (fr:=[]) (ρ:=[↑⇑0]) (S:=(2,[(1,.lst (a.map λ_=>.bl true)),(0,.RK (a.map Rn))])) (i:=0) (c:=tT) (e:=cO Rp 1.0 2.0) rfl rfl (by simp;lia) (dG (g:=λp=>.str p.nm) a none λp d=>rfl) (by simp;lia);have m:∀S,j8 ⇑1 (2,(1,.lst (a.map λ_=>.bl true))::S)=.ok (.bl true) (2,(1,.lst (a.map λ_=>.bl true))::S):=λS=>uC rfl
 have a4:∀S,Hc ⇑2 (3,(2,.lst (a.map λp=>.str p.nm))::S)=.ok (.UY a.length) (3,(2,.lst (a.map λp=>.str p.nm))::S):=λS=>by show gB (few 90 (a.map λp=>A.str p.nm)) (rO (strsOf (a.map λp=>A.str p.nm)) _)=_;rw[bj (by simp;lia),show(a.map λp=>A.str p.nm)=(a.map (·.nm)).map A.str by simp,DY];show Res.ok (A.UY (mr [] (a.map (·.nm))).length) _=_;rw[HD (by simpa using h.nd)];simp
 have q:∀S,A5 (.UY a.length) S=.ok (nA a.length) S:=λS=>by show gB (Nat.ble a.length 900) _=_;rw[NP (show a.length<=900 by lia)];rfl
 rw[c34];refine TJ (bP f (aI aO a) rfl) (RG (S':=(3,[(2,.lst (a.map λp=>.str p.nm)),(1,.lst (a.map λ_=>.bl true)),(0,.RK (a.map Rn))])) ?_) rfl;refine aa (af (wW rfl (tnt (RY (EA rfl rfl rfl (cv (show 1<=(a.map Rn).length by simpa using h.pos))))) rfl (NZ nb (cv (show(a.map Rn).length<=16 by simpa using h.le)))) rfl) ?_;refine aa (af (Vc (Sb j (m _))) rfl) ?_;refine aV (RB (Sb (Sb l (a4 _)) (q _)) rfl ?_);show Res.ok (A.bl (Nat.beq a.length (a.map Rn).length)) _=_;rw[NC,N2]
theorem gj(h:So a)(d:RL S i= ↑(a.map Rn)):cN dl (n+14) 35 [⇑i] S=.ok .Ro S:=by rw[c35];exact TJ (bP d (aI aO a) rfl) (gm (af (Vc (wJ h rfl)) rfl)) rfl
noncomputable def mF(w:Pc×Fd):A:=.tup [.str w.1.nm,.tup (w.1.cells.map WX),.tup (w.2.1.map tR)]
theorem uQ(w:Pc×Fd):aQ (mF w)=true:=by simp only[mF,Vn,SQ,Tg,OM,aI qB,aI aF]
noncomputable def bR(a:List Pc)(t:Tr):List (Pc×Fd):=a.filterMap λp=>(fit p.pat t).map (Prod.mk p ·)
noncomputable def Sv(a:List Pc)(d:List (Pc×Fd)):Rm:=(2,[(1,.lst (d.map mF)),(0,.RK (a.map Rn))])
theorem jC:∀(d:List Pc)(a:List (Pc×Fd))(z g:Option A),(∀p∈d,∀S,P 38 [Rn p,tR t] S=.ok (XI (fit p.pat t)) S)->a.length+d.length<=900 ->
  ∃y e,lp 4.3 (nG P) (d.map Rn) [↑(tR t),↑⇑0,↑⇑1,z,g] (Sv ps a)=.ok (.nx [↑(tR t),↑⇑0,↑⇑1,y,e]) (Sv ps (a++bR d t))
 |[],a,z,g,_,_=>(z,g,by simp[bR,lp])
 |p::d,a,z,g,h,hl=>by
  rw[N6]at hl;have i:=h p (.head _)
  cases q:fit p.pat t with
  |none =>rw[q]at i;let(y,e,j):=jC d a ↑(Rn p) (some .Ro) (λr k=>h r (.tail _ k)) ⋯;refine(y,e,?_);rw[show bR (p::d) t=bR d t by simp[bR,q]];exact fD rfl (aa (aW (i _)) (af rfl rfl)) j
  |some f =>rw[q]at i;let(y,e,j):=jC d (a++[Prod.mk p f]) ↑(Rn p) ↑(XI (some f)) (λr k=>h r (.tail _ k)) (by simp;lia);refine(y,e,?_);rw[show a++bR (p::d) t=a++[Prod.mk p f]++bR d t by simp[bR,q]];rw[show Sv ps (a++[Prod.mk p f])=(2,[(1,.lst (a.map mF++[mF (p,f)])),(0,.RK (ps.map Rn))]) by simp[Sv]]at j;exact fD rfl (aa (aW (i _)) (aP rfl (eZ (xs:=a.map mF) rfl rfl rfl (by simp;lia)))) j
theorem DG(e:∀a b c,t≠.pick a b c)(h:∀p∈d,∀S,P 38 [Rn p,tR t] S=.ok (XI (fit p.pat t)) S)(hl:d.length<=900)(f:RL S i= ↑(d.map Rn)):ax (gz P) [tR t,⇑i] S=.ok ⇑S.nx (S.nx+1,(S.nx,.lst ((bR d t).map mF))::S.cs):=by
 let(y,j,q):=jC (ps:=d) d [] none none h (by simpa using hl)
 have g:Rq (cO oEq (cO Rp 1.0 2.0) 3.8) [↑(tR t),↑⇑0,none,none,none] (Ss d)=.ok false (Ss d):=by
  cases t with
  |two o a b=>cases o<;>rfl
  |pick a b c=>exact absurd rfl (e a b c)
  |_=>rfl
 exact jx (bp (aF t) (bP f (aI aO d) rfl)) (RG (aa (af g rfl) (aa rfl (aa (yB (i:=0) rfl rfl q) rfl)))) rfl rfl (aI uQ _)
theorem xE{d:List Pc}(e:RL S i= ↑(d.map Rn)):ax (gz P) [tR (.pick a b c),⇑i] S=.ok ⇑S.nx (S.nx+1,(S.nx,.lst [.tup [.str 8,.tup [],.tup [tR a,tR b,tR c]]])::S.cs) :=
 jx (bp (aF (.pick a b c)) (bP e (aI aO d) rfl)) (RG (bC (aP rfl rfl))) rfl rfl (by simp[Vn,SQ,Tg,aF])
noncomputable def jmp(a b k:Nat):List Nat:=if k<=9 then [a,k]else [b,k%100,k / 100]
theorem B5:fU P [nA k,.tup [nA a,nA b]] S=.ok ⇑S.nx (S.nx+1,(S.nx,.lst ((jmp a b k).map nA))::S.cs):=by
 unfold jmp;split
 ·rename_i h;exact RG (aa rfl (bC (aP rfl rfl (cv h))))
 ·rename_i h;exact RG (aa rfl (aa (af rfl rfl (gM ⋯)) rfl))
noncomputable def ov(k:Nat):Nat:=if k<=9 then 2 else 3
theorem bX:(jmp a b k).length=ov k:=by unfold jmp ov;split<;>rfl
theorem yV(h:∀a b k S,P 45 [nA k,.tup [nA a,nA b]] S=.ok ⇑S.nx (S.nx+1,(S.nx,.lst ((jmp a b k).map nA))::S.cs)) :
  dE P [nA b,nA c] S=.ok (.tup [⇑(S.nx+1),⇑S.nx]) (S.nx+2,(S.nx+1,.lst ((jmp 10 11 (b+ov c)).map nA))::(S.nx,.lst ((jmp 8 9 c).map nA))::S.cs):=by
 have l:((jmp 8 9 c).map nA).length=ov c:=by rw[NC,bX]
 have e:RL (S.nx+1,(S.nx,.lst ((jmp 8 9 c).map nA))::S.cs) S.nx= ↑((jmp 8 9 c).map nA):=by unfold RL;rw[show look S.nx ((S.nx,C.lst ((jmp 8 9 c).map nA))::S.cs)=some (.lst ((jmp 8 9 c).map nA)) by unfold look;rw[N2]]
 have u:cU aX 1.2 [↑(nA b),↑(nA c),↑⇑S.nx,none] (S.nx+1,(S.nx,.lst ((jmp 8 9 c).map nA))::S.cs)=.ok (nA (ov c)) (S.nx+1,(S.nx,.lst ((jmp 8 9 c).map nA))::S.cs):=by refine Sb rfl ?_;show rO (RL _ S.nx) (λd=>fM (.ofNat d.length) _)=_;rw[e,<- l];rfl
 refine RG (aa (aW (h 8 9 c S)) (aa (aW (x:= ⇑(S.nx+1)) (S':=(S.nx+2,(S.nx+1,.lst ((jmp 10 11 (b+ov c)).map nA))::(S.nx,.lst ((jmp 8 9 c).map nA))::S.cs)) ?_) rfl));exact aj (RI (RB rfl u rfl) rfl) (h 10 11 (b+ov c) _)
theorem DK(a:List Nat):intsOf (a.map nA)= ↑(a.map Int.ofNat):=qZ (k:=nA) (f:=SD) (h:=Int.ofNat) (λ_=>rfl) a
theorem vR:∀a:List Nat,(a.map Int.ofNat).sum=.ofNat a.sum
 |[]=>rfl
 |n::a=>by rw[NR,List.sum_cons,vR a];rfl
theorem sj{ls:List Nat}(h:Rv S x= ↑(ls.map nA)):pT x S=.ok (nA ls.sum) S:=by unfold pT;simp only[rO,h,DK,vR];rfl
theorem er(h:SO S x= ↑xs)(l:xs.length=k):aX x S=.ok (nA k) S:=by unfold aX;simp only[rO,gB,h,l];rfl
theorem wM{a:List Nat}(e:Nat.beq nm 8=false)(f:ba d=true)(g:RL S i= ↑(a.map nA)):ax (eE P) [.str nm,.tup d,⇑i] S=.ok (nA (d.length+a.sum)) S :=
 TJ (bp rfl (bp f (bP g (aI bI _) rfl))) (RG (aa rfl (aa (af rfl rfl e) (aV (RB rfl (Sb rfl (sj rfl)) rfl))))) rfl
theorem zt(h:∀S:Rm,P 46 [nA b,nA c] S=.ok (.tup [⇑(S.nx+1),⇑S.nx]) (S.nx+2,(S.nx+1,.lst ((jmp 10 11 (b+ov c)).map nA))::(S.nx,.lst ((jmp 8 9 c).map nA))::S.cs))(d:RL S i=some [nA a,nA b,nA c]):ax (eE P) [.str 8,.tup [],⇑i] S=.ok (nA (ov (b+ov c)+ov c+(a+(b+c)))) S :=
 TJ (bp rfl (bp rfl (bP d rfl rfl))) (RG (aa rfl (aa (aP rfl (aa (l7 (h _) rfl) (aW (RB (Sb rfl (er rfl (by rw[NC,bX]))) (Sb rfl (er rfl (by rw[NC,bX]))) rfl)))) (aV (RB rfl (Sb rfl (sj (ls:=[a,b,c]) rfl)) rfl))))) rfl
noncomputable abbrev Bs:=Nat×A×List Nat
noncomputable abbrev UJ(b:Bs):A:=.tup [nA b.1,b.2.1]
noncomputable def R3:Option Bs->A
 |none=>.Ro
 |some b=>UJ b
noncomputable def de(B:Tr->Option Bs):List Tr->Option (List Bs)
 |[]=>some []
 |t::a=>match B t,de B a with
  |some b,↑bs=>↑(b::bs)
  |_,_=>none
noncomputable def aR(a ks:List Nat):Cl->Nat
 | .lit n=>n
 | .low i=>a.getD i 0%100
 | .high i=>a.getD i 0 / 100
 | .arg i=>ks.getD i 0
noncomputable def eB(w:Pc×Fd)(bs:List Bs):Bs:=(w.1.cells.length+(bs.map (·.1)).sum,.tup [.str w.1.nm,.tup (bs.map (·.2.1))],bs.flatMap (·.2.2)++w.1.cells.map (aR w.2.2.1 w.2.2.2))
noncomputable def XM(best:Option Bs)(b:Bs):Option Bs:=match best with
 |none=>↑b
 |some c=>if b.1<c.1 then ↑b else ↑c
noncomputable def bV(B:Tr->Option Bs)(best:Option Bs)(w:Pc×Fd):Option Bs:=match de B w.2.1 with
 |none=>best
 |some bs=>XM best (eB w bs)
noncomputable def We(b:Option Bs):Prop:=∀c,b= ↑c->aQ c.2.1=true
theorem ni:∀{a:List Tr}{bs:List Bs},de B a= ↑bs->a.map (R3∘B)=bs.map UJ/\bs.length=a.length
 |[],_,h=>by cases h;exact(rfl,rfl)
 |t::a,bs,h=>by
  unfold de at h;split at h
  ·rename_i b g h1 d;cases h;let(e,f):=ni d;exact(by simp only[NR,Function.comp,h1,R3];rw[<- e],by simp[f])
  ·cases h
theorem jt:∀{a:List Tr},de B a=none->(a.any λt=>(B t).isNone)=true
 |[],h=>by cases h
 |t::a,h=>by
  unfold de at h;rw[Pk]
  cases h1:B t with
  |none=>rfl
  |some b =>
   cases d:de B a with
   |none=>rw[jt d];rfl
   |some e=>rw[h1,d]at h;cases h
theorem lj:∀{a:List Tr}{bs:List Bs},de B a= ↑bs->(a.any λt=>(B t).isNone)=false
 |[],_,h=>rfl
 |t::a,bs,h=>by
  unfold de at h;split at h
  ·rename_i b e h1 d;rw[Pk,h1,lj d];rfl
  ·cases h
noncomputable abbrev S4(W:List A)(a:List Pc)(d:List Tr)(bs:List A):List (Nat×C):=[(3,.RK W),(0,.RK (a.map Rn)),(1,.RK (d.map tR)),(2,.RK bs)]
noncomputable abbrev E6(t:Tr)(b nm a d:A)(z e:Option A):Env:=[↑(tR t),↑⇑0,↑⇑1,↑⇑2,↑b,↑nm,↑a,↑d,z,e]
noncomputable abbrev YN:Ce:=cO Rp 1.2 (cM zA 1.1 1.0)
section
theorem HR{W:List A}{d:List Pc}{e:List Tr}{bs:List A}{t:Tr}{b nm cs:A}{a:List Tr}{z z':Option A}{B:Tr->Option Bs}(f:∀h∈a,YN [↑(tR h),↑⇑1,↑⇑2] (4,S4 W d e bs)=.ok (R3 (B h)) (4,S4 W d e bs))(hl:a.length<=900) :
  ay (iT 1.7) 1 [2,3] 4.0 tT YN (E6 t b nm cs (.tup (a.map tR)) z z') (4,S4 W d e bs)=.ok ⇑4 (5,(4,.lst (a.map (R3∘B)))::S4 W d e bs) :=
 sR rfl (by simpa using hl) (dG (g:=R3∘B) a none f) (by simpa using hl)
theorem HS{a:List Tr}{xs:List Tr}(hl:a.length<=900)(d:ρ[8]?= ↑(some ⇑4)) :
  ay (iL 1.8) 1 [] 4.0 tT (cU iq 1.0) ρ (5,(4,.lst (a.map (R3∘B)))::cs')=.ok ⇑5 (6,(5,.lst (a.map λh=>.bl (B h).isNone))::(4,.lst (a.map (R3∘B)))::cs'):=by
 refine nY (i:=4) (ys:=a.map (R3∘B)) (by unfold iL cV Res.b;simp only[rO,d];rfl) rfl (by simpa using hl) ?_ rfl (by simpa using hl);refine dG (f:=R3∘B) (g:=λh=>.bl (B h).isNone) a none λh e=>?_;show iq (R3 (B h)) _=_;cases B h<;>rfl
theorem HU{bs:List Bs}(hl:bs.length<=900)(d:ρ[8]?= ↑(some ⇑4))(a:look 4 cs'= ↑(.lst (bs.map UJ)))(j:put 4 (.lst (bs.map UJ)) (put 4 (.RK (bs.map UJ)) cs')=cs')(l:∀b S,e [↑(UJ b)] S=.ok (g b) S) :
  ay (iL 1.8) 1 [] 4.0 tT e ρ (k,cs')=.ok ⇑k (k+1,(k,.lst (bs.map g))::cs'):=by
 refine nY (i:=4) (ys:=bs.map UJ) ?_ a (by simpa using hl) (dG (f:=UJ) (g:=g) bs none λb _=>l b _) j (by simpa using hl);unfold iL cV Res.b Rv RL;simp only[rO,d,a]
theorem Nr(h:b f S=.ok (.ct a) d)(g:eW S.nx (kill e a)=true)(i:cP S.nx d.cs=true):sG e b f S=.ok (.ct (kill e a)) (S.nx,old S.nx d.cs):=by unfold sG YF;simp only[h,aL,g,jZ,i]
theorem zw(r:eW n a=true):eW n (some .any::a)=true:=r
theorem bb(h:Nat.ble n i=true)(r:cP n a=true):cP n (Prod.mk i c::a)=true:=by unfold cP;rw[h];exact r
theorem Ii(a:ba W=true)(d:ba bs=true):cP 4 (S4 W ps ds bs)=true:=(bB a (bB (aI aO _) (bB (aI aF _) (bB d rfl).2).2).2).2
noncomputable def XN:Option A->Prop
 |none=>True
 |some x=>aQ x=true
theorem vh{a:List Tr}(e:aQ b=true)(f:aQ nm=true)(g:aQ i=true)(j:XN d):eW 4 (E6 t b nm i (.tup (a.map tR)) (some .any) d)=true:=by
 refine br (aF t) (eP rfl (eP rfl (eP rfl (br e (br f (br g (br (aI aF a) (zw ?_))))))))
 cases d with
 |none=>rfl
 |some x=>exact br j rfl
theorem AY(g:∀h∈ts,YN [↑(tR h),↑⇑1,↑⇑2] (4,S4 W d e bs)=.ok (R3 (B h)) (4,S4 W d e bs))(hl:ts.length<=900)(i:ba W=true)(j:ba bs=true)(k:aQ b=true)(l:aQ nm=true)(m:aQ f=true)(p:XN z')(q:de B ts=none) :
  cK P (E6 t b nm f (.tup (ts.map tR)) z z') (4,S4 W d e bs)=.ok (.ct (E6 t b nm f (.tup (ts.map tR)) (some .any) z')) (4,S4 W d e bs):=by
 have a:xA ⇑5 (6,(5,.lst (ts.map λh=>.bl (B h).isNone))::(4,.lst (ts.map (R3∘B)))::S4 W d e bs)=.ok (.bl true) (6,(5,.lst (ts.map λh=>.bl (B h).isNone))::(4,.lst (ts.map (R3∘B)))::S4 W d e bs):=by rw[D1 rfl,jt q]
 refine(Nr (aa (aW (HR g hl)) (Lq (aP (WW (Sb (HS (xs:=ts) hl rfl) a)) rfl))) ?_ ?_).trans rfl
 ·exact vh k l m p
 ·exact bb rfl (bb rfl (Ii i j))
theorem qA{b:Bs}(h:aQ b.2.1=true):aQ (UJ b)=true:=by show(aQ b.2.1&&true)=true;rw[h];rfl
theorem ID(h:c a S=.ok false S)(k:d a S=.ok w e):Tf c d a S=.ok w e:=by unfold Tf Res.b;simp only[h,k]
theorem AZ(Q:∀h∈ts,YN [↑(tR h),↑⇑1,↑⇑2] (4,S4 W d f bs)=.ok (R3 (B h)) (4,S4 W d f bs))(hl:ts.length<=900)(T:ba W=true)(U:ba bs=true)(y:aQ nm=true)(G:aQ j=true)(H:de B ts= ↑rs)
  (Y:We best) (L:∀r∈rs,aQ r.2.1=true) (M:∀S i,RL S i= ↑((rs.map (·.1)).map nA)->P 48 [nm,j,⇑i] S=.ok (nA m) S) :
  cK P (E6 t (R3 best) nm j (.tup (ts.map tR)) z I) (4,S4 W d f bs)=.ok (.nx (E6 t (R3 (XM best (m,.tup [nm,.tup (rs.map (·.2.1))],k))) nm j (.tup (ts.map tR)) (some .any) ↑(nA m))) (4,S4 W d f bs):=by
 let(e,el):=ni H;have l:rs.length<=900:=by lia
 have v:=HR (t:=t) (b:=R3 best) (nm:=nm) (cs:=j) (z:=z) (z':=I) Q hl;have w:=HS (xs:=ts) (B:=B) hl (cs':=S4 W d f bs) (ρ:=E6 t (R3 best) nm j (.tup (ts.map tR)) ↑⇑4 I) rfl;rw[e]at v w
 have a:xA ⇑5 (6,(5,.lst (ts.map λh=>.bl (B h).isNone))::(4,.lst (rs.map UJ))::S4 W d f bs)=.ok (.bl false) (6,(5,.lst (ts.map λh=>.bl (B h).isNone))::(4,.lst (rs.map UJ))::S4 W d f bs):=by rw[D1 rfl,lj H]
 have E:=HU (e:=cO Rp 1.0 2.0) (g:=λb=>nA b.1) (k:=6) (cs':=(5,.lst (ts.map λh=>.bl (B h).isNone))::(4,.lst (rs.map UJ))::S4 W d f bs) l (ρ:=E6 t (R3 best) nm j (.tup (ts.map tR)) ↑⇑4 I) rfl rfl rfl (λ_ _=>rfl);have N:=HU (e:=cO Rp 1.0 2.1) (g:=λb=>b.2.1) (k:=7) (cs':=(6,.lst (rs.map λb=>nA b.1))::(5,.lst (ts.map λh=>.bl (B h).isNone))::(4,.lst (rs.map UJ))::S4 W d f bs) l (ρ:=E6 t (R3 best) nm j (.tup (ts.map tR)) ↑⇑4 ↑(nA m)) rfl rfl rfl (λ_ _=>rfl);have p:=M (7,(6,.lst (rs.map λb=>nA b.1))::(5,.lst (ts.map λh=>.bl (B h).isNone))::(4,.lst (rs.map UJ))::S4 W d f bs) 6 (by show ↑(rs.map λb=>nA b.1)=_;rw[PY];rfl)
 have O:aQ (.tup [nm,.tup (rs.map (·.2.1))])=true:=by
  have:ba (rs.map (·.2.1))=true:=by
   clear H e el v w a E N p M l
   induction rs with
   |nil=>rfl
   |cons r rs ih=>show(aQ r.2.1&&ba (rs.map (·.2.1)))=true;rw[L r (.head _)];exact ih λx hx=>L x (.tail _ hx)
  simp only[Vn,SQ,Tg,OM,y,this]
 have set:aw 4 (au %[1.9,(au %[1.5,(cU ir (ay (iL 1.8) 1 [] 4.0 tT (cO Rp 1.0 2.1)))|0])|0]) (E6 t (R3 best) nm j (.tup (ts.map tR)) ↑⇑4 ↑(nA m)) (7,(6,.lst (rs.map λb=>nA b.1))::(5,.lst (ts.map λh=>.bl (B h).isNone))::(4,.lst (rs.map UJ))::S4 W d f bs)=.ok (.nx (E6 t (UJ (m,.tup [nm,.tup (rs.map (·.2.1))],k)) nm j (.tup (ts.map tR)) ↑⇑4 ↑(nA m))) (8,(7,.lst (rs.map λb=>b.2.1))::(6,.lst (rs.map λb=>nA b.1))::(5,.lst (ts.map λh=>.bl (B h).isNone))::(4,.lst (rs.map UJ))::S4 W d f bs):=by exact aW (xp (RI rfl (RI (xp (RI rfl (RI (Sb (u:=ir) N rfl) rfl))) rfl)))
 have lo:=Ii (ps:=d) (ds:=f) T U;have J:XN ↑(nA m):=rfl
 cases best with
 |none =>
  refine(Nh (aa (aW v) (aa (af (WW (Sb w a)) rfl) (aa (aW (aj (RI rfl (RI rfl (RI E rfl))) p)) (aP rfl set)))) ?_ ?_).trans rfl
  ·exact vh (b:=UJ (m,.tup [nm,.tup (rs.map (·.2.1))],k)) (qA O) y G J
  ·exact bb rfl (bb rfl (bb rfl (bb rfl lo)))
 |some c =>
  by_cases q:m<c.1
  ·rw[show XM ↑c (m,A.tup [nm,.tup (rs.map (·.2.1))],k)= ↑(m,.tup [nm,.tup (rs.map (·.2.1))],k) from NL q];refine(Nh (aa (aW v) (aa (af (WW (Sb w a)) rfl) (aa (aW (aj (RI rfl (RI rfl (RI E rfl))) p)) (aP (ID rfl rfl) set (NZ nb (gM q)))))) ?_ ?_).trans rfl
   ·exact vh (b:=UJ (m,.tup [nm,.tup (rs.map (·.2.1))],k)) (qA O) y G J
   ·exact bb rfl (bb rfl (bb rfl (bb rfl lo)))
  ·rw[show XM ↑c (m,A.tup [nm,.tup (rs.map (·.2.1))],k)= ↑c from NH q];refine(Nh (aa (aW v) (aa (af (WW (Sb w a)) rfl) (aa (aW (aj (RI rfl (RI rfl (RI E rfl))) p)) (af (ID rfl rfl) rfl (NZ nb (cv ⋯)))))) ?_ ?_).trans rfl
   ·exact vh (b:=UJ c) (qA (Y c rfl)) y G J
   ·exact bb rfl (bb rfl (bb rfl lo))
end
noncomputable def bL(x y z:Bs):Bs:=(ov (y.1+ov z.1)+ov z.1+(x.1+(y.1+z.1)),.tup [.str 8,.tup [x.2.1,y.2.1,z.2.1]],x.2.2++jmp 10 11 (y.1+ov z.1)++y.2.2++jmp 8 9 z.1++z.2.2)
noncomputable def bT(d:List Pc)(B:Tr->Option Bs):Tr->Option Bs
 | .pick a b c=>match B a,B b,B c with
  |some x,↑y,↑z=>↑(bL x y z)
  |_,_,_=>none
 |t=>(bR d t).foldl (bV B) none
noncomputable def best(a:List Pc):Nat->Tr->Option Bs
 |0,_=>none
 |n+1,t=>bT a (best a n) t
theorem ou:∀(p:Pa)(t:Tr){f:Fd},fit p t= ↑f->∀h∈f.1,h∈t.parts
 | .hole _,t,f,e,h,d=>by cases e;rw[NI.mp d];cases t<;>simp[Tr.parts]
 | .gap _ m,.num n,f,e,h,d=>by unfold fit at e;split at e<;>cases e;cases d
 | .slot _,.arg k,f,e,h,d=>by cases e;cases d
 | .num n,.num m,f,e,h,d=>by unfold fit at e;split at e<;>cases e;cases d
 | .two o a b,.two g x y,f,e,h,d=>by
  unfold fit at e;split at e
  ·let(i,e1,e2):=Oo.mp e;let(j,e3,rfl):=N1.mp e2;rcases NS.mp d with z|z
   ·have:=ou a x e1 h z;simp[Tr.parts,this]
   ·have:=ou b y e3 h z;simp[Tr.parts,this]
  ·cases e
noncomputable def Pa.nh:Pa->Bool
 | .hole _=>false
 |_=>true
theorem iF{p:Pa}(g:p.nh=true)(e:fit p t= ↑f):∀h∈f.1,∃k∈t.kids,h∈k.parts:=by
 intro h d
 cases p with
 |hole=>cases g
 |gap i m=>cases t<;>first|cases e | (unfold fit at e;split at e<;>cases e;cases d)
 |slot i=>cases t<;>cases e;cases d
 |num n=>cases t<;>first|cases e | (unfold fit at e;split at e<;>cases e;cases d)
 |two o a b =>
  cases t with
  |two j x y =>
   unfold fit at e;split at e
   ·let(l,e1,e2):=Oo.mp e;let(q,e3,rfl):=N1.mp e2;rcases NS.mp d with z|z
    ·exact(x,by simp[Tr.kids],ou a x e1 h z)
    ·exact(y,by simp[Tr.kids],ou b y e3 h z)
   ·cases e
  |_=>cases e
theorem b7:∀(t:Tr){h:Tr},h∈t.parts->h.dep<=t.dep
 | .num _,h,e=>by rw[NI.mp e];exact Nu _
 | .arg _,h,e=>by rw[NI.mp e];exact Nu _
 | .two o a b,h,e=>by
  simp only[Tr.parts,NB,NS]at e;rcases e with rfl|e|e
  ·exact Nu _
  ·have:=b7 a e;simp[Tr.dep];lia
  ·have:=b7 b e;simp[Tr.dep];lia
 | .pick a b c,h,e=>by
  simp only[Tr.parts,NB,NS]at e;rcases e with rfl | (e|e)|e
  ·exact Nu _
  ·have:=b7 a e;simp[Tr.dep];lia
  ·have:=b7 b e;simp[Tr.dep];lia
  ·have:=b7 c e;simp[Tr.dep];lia
theorem iE{t:Tr}(h:k∈t.kids):k.dep<t.dep:=by
 cases t<;>simp[Tr.kids]at h
 ·rcases h with rfl|rfl<;>simp[Tr.dep]<;>lia
 ·rcases h with rfl|rfl|rfl<;>simp[Tr.dep]<;>lia
theorem lq:∀{a:List Tr},(∀t∈a,B t=d t)->de B a=de d a
 |[],_=>rfl
 |t::a,h=>by unfold de;rw[h t (.head _),lq λx e=>h x (.tail _ e)]
theorem eX(h:w∈bR a t):w.1∈a/\fit w.1.pat t= ↑w.2:=by let(p,d,e):=PJ.mp h;let(f,e1,rfl):=N1.mp e;exact(d,e1)
theorem tU{t:Tr}(j:∀p∈f,p.pat.nh=true)(h:∀k∈t.kids,∀u∈k.parts,B u=g u):bT f B t=bT f g t:=by
 have self:∀u:Tr,u∈u.parts:=λu=>by cases u<;>simp[Tr.parts]
 have l:∀(d:List (Pc×Fd))(b:Option Bs),(∀w∈d,w∈bR f t)->d.foldl (bV B) b=d.foldl (bV g) b:=by
  intro d
  induction d with
  |nil=>intros;rfl
  |cons w d m =>
   intro b i;let(h1,q):=eX (i w (.head _))
   rw[O4,O4,show bV B b w=bV g b w by
    unfold bV;rw[lq λu r=>let⟨k,hk,e⟩:=iF (j _ h1) q u r;h k hk u e]]
   exact m _ λx v=>i x (.tail _ v)
 cases t with
 |pick a b c=>simp only[bT,h a (by simp[Tr.kids]) a (self a),h b (by simp[Tr.kids]) b (self b),h c (by simp[Tr.kids]) c (self c)]
 |_=>exact l _ none λ_ h=>h
theorem jf(a:∀p∈d,p.pat.nh=true):∀(n:Nat)(t:Tr),t.dep<=n->best d (n+1) t=best d n t
 |0,t,h=>by have:=fB t;lia
 |n+1,t,h=>tU a λk hk u e=>jf a n u (by have:=iE hk;have:=b7 k e;lia)
inductive Sq{α β:Type}(Q:α->β->Prop):List α->List β->Prop
 |nil:Sq Q [] []
 |cons {a:α} {b:β} {as:List α} {bs:List β}:Q a b->Sq Q as bs->Sq Q (a::as) (b::bs)
theorem iP(h:∀t b,B t= ↑b->Q t b):∀{a:List Tr}{bs:List Bs},de B a= ↑bs->Sq Q a bs
 |[],_,e=>by cases e;exact .nil
 |t::a,bs,e=>by
  unfold de at e;split at e
  ·rename_i b f h1 d;cases e;exact .cons (h t b h1) (iP h d)
  ·cases e
theorem rj(l:∀t w bs,w∈bR i t->Sq Q w.2.1 bs->Q t (eB w bs))(hk:∀a b c x y z,Q a x->Q b y->Q c z->Q (.pick a b c) (bL x y z))(g:∀t b,B t= ↑b->Q t b)(e:bT i B t= ↑b):Q t b:=by
 have m:∀(f:List (Pc×Fd))(c:Option Bs),(∀w∈f,w∈bR i t)->(∀d,c= ↑d->Q t d)->∀d,f.foldl (bV B) c= ↑d->Q t d:=by
  intro f
  induction f with
  |nil=>intro c _ h d e;exact h d e
  |cons w f u =>
   intro c j h d e;refine u _ (λx v=>j x (.tail _ v)) (λd e=>?_) d e;unfold bV at e
   cases q:de B w.2.1 with
   |none=>rw[q]at e;exact h d e
   |some bs =>
    rw[q]at e;have k:=l t w bs (j w (.head _)) (iP g q)
    cases c with
    |none=>cases e;exact k
    |some c =>
     unfold XM at e;dsimp only at e;split at e
     ·cases e;exact k
     ·cases e;exact h _ rfl
 cases t with
 |pick x y z =>
  simp only[bT]at e;split at e
  ·rename_i p q r h1 E G;cases e;exact hk _ _ _ _ _ _ (g _ _ h1) (g _ _ E) (g _ _ G)
  ·cases e
 |_=>exact m _ none (λ_ h=>h) (λ_ h=>nomatch h) b e
theorem iy(d:∀t w bs,w∈bR f t->Sq Q w.2.1 bs->Q t (eB w bs))(hk:∀a b c x y z,Q a x->Q b y->Q c z->Q (.pick a b c) (bL x y z)):∀(n:Nat)(t:Tr)(b:Bs),best f n t= ↑b->Q t b
 |0,_,_,e=>nomatch e
 |n+1,t,b,e=>rj d hk (iy d hk n) e
theorem qC:∀{a:List Tr}{bs:List Bs},Sq (λ_ b=>aQ b.2.1=true) a bs->ba (bs.map (·.2.1))=true
 |_,_,.nil=>rfl
 |_,_,.cons h r=>by show(aQ _&&ba (List.map _ _))=true;rw[h];exact qC r
theorem jc(t:Tr)(w:Pc×Fd)(bs:List Bs)(h:Sq (λ_ b=>aQ b.2.1=true) w.2.1 bs):aQ (eB w bs).2.1=true:=by simp only[eB,Vn,SQ,Tg,OM,qC h]
theorem iY(x y z:Bs)(h1:aQ x.2.1=true)(a:aQ y.2.1=true)(d:aQ z.2.1=true):aQ (bL x y z).2.1=true:=by simp only[bL,Vn,SQ,Tg,OM,h1,a,d]
theorem ix(a:List Pc)(n:Nat)(t:Tr):We (best a n t):=λb e=>iy (Q:=λ_ b=>aQ b.2.1=true) (λt w bs _ h=>jc t w bs h) (λ_ _ _ x y z=>iY x y z) n t b e
end My
namespace My
open EV
variable{P:RC}{S:Rm}
section
variable{W:List A}{ps:List Pc}{ds:List Tr}{bs:List A}{B:Tr->Option Bs}
noncomputable abbrev hBk(W:List A)(ps:List Pc)(ds:List Tr)(bs:List A)(B:Tr->Option Bs)(a:List Tr):Prop:=∀h∈a,YN [↑(tR h),↑⇑1,↑⇑2] (4,S4 W ps ds bs)=.ok (R3 (B h)) (4,S4 W ps ds bs)
noncomputable abbrev hLn(P:RC)(w:Pc×Fd):Prop:=∀(a:List Nat)(S:Rm)(i:Nat),RL S i= ↑(a.map nA)->P 48 [.str w.1.nm,.tup (w.1.cells.map WX),⇑i] S=.ok (nA (w.1.cells.length+a.sum)) S
theorem vy(a:∀t,We (B t))(t:Tr):We (bT ps B t):=λ_ e=>rj (Q:=λ_ b=>aQ b.2.1=true) (λt w bs _ h=>jc t w bs h) (λ_ _ _ x y z=>iY x y z) a e
theorem og(h:We b):aQ (R3 b)=true:=by
 cases b with
 |none=>rfl
 |some c=>exact qA (h c rfl)
theorem Cw(d:∀t,We (B t))(h:We b)(w:Pc×Fd):We (bV B b w):=by
 intro c e;unfold bV at e
 cases q:de B w.2.1 with
 |none=>rw[q]at e;exact h c e
 |some rs =>
  rw[q]at e;have a:=jc (.num 0) w rs (iP d q)
  cases b with
  |none=>cases e;exact a
  |some b =>
   unfold XM at e;dsimp only at e;split at e
   ·cases e;exact a
   ·cases e;exact h _ rfl
theorem ku(v:ba W=true)(y:ba bs=true)(z:∀t,We (B t)):∀(d:List (Pc×Fd))(b:Option Bs)(E G H I f:Option A),We b->XN f->(∀w∈d,hBk W ps ds bs B w.2.1/\w.2.1.length<=900/\hLn P w) ->
  ∃g j l m p,lp (gT [4.5,4.6,4.7]) (cK P) (d.map mF) [↑(tR t),↑⇑0,↑⇑1,↑⇑2,↑(R3 b),E,G,H,I,f] (4,S4 W ps ds bs)=.ok (.nx [↑(tR t),↑⇑0,↑⇑1,↑⇑2,↑(R3 (d.foldl (bV B) b)),g,j,l,m,p]) (4,S4 W ps ds bs)
 |[],b,E,G,H,I,f,_,_,_=>(E,G,H,I,f,rfl)
 |w::d,b,E,G,H,I,f,J,N,h=>by
  let(h1,O,T):=h w (.head _);have U:=og J;rw[O4]
  cases q:de B w.2.1 with
  |none =>let(g,j,l,m,p,u):=ku v y z d b ↑(.str w.1.nm) ↑(.tup (w.1.cells.map WX)) ↑(.tup (w.2.1.map tR)) (some .any) f J N λx L=>h x (.tail _ L);refine(g,j,l,m,p,?_);rw[show bV B b w=b by unfold bV;rw[q]];exact Ik rfl (AY h1 O v y U rfl (aI qB _) N q) u
  |some rs =>
   have M:=Cw z J w;let(g,j,l,m,p,u):=ku v y z d (bV B b w) ↑(.str w.1.nm) ↑(.tup (w.1.cells.map WX)) ↑(.tup (w.2.1.map tR)) (some .any) ↑(nA (w.1.cells.length+(rs.map (·.1)).sum)) M rfl λx L=>h x (.tail _ L);refine(g,j,l,m,p,?_);refine fD rfl (AZ (k:=rs.flatMap (·.2.2)++w.1.cells.map (aR w.2.2.1 w.2.2.2)) h1 O v y rfl (aI qB _) q J (λr a=>?_) (λS i e=>T _ S i e)) ?_
   ·have:∀{Q:List Tr}{rs:List Bs},Sq (λ_ b=>aQ b.2.1=true) Q rs->∀r∈rs,aQ r.2.1=true:=by
     intro Q rs h
     induction h with
     |nil=>intro r a;cases a
     |cons h _ u=>intro r a;cases a with
      |head=>exact h
      |tail _ a=>exact u r a
    exact this (iP z q) r a
   ·rw[show XM b _=bV B b w by unfold bV;rw[q];rfl];exact u
theorem Eg(g:∀a b c,t≠.pick a b c)(l:∀S i,RL S i= ↑(ps.map Rn)->P 47 [tR t,⇑i] S=.ok ⇑S.nx (S.nx+1,(S.nx,.lst ((bR ps t).map mF))::S.cs))
  (d:ba bs=true) (f:∀t,We (B t)) (h:∀w∈bR ps t,hBk ((bR ps t).map mF) ps ds bs B w.2.1/\w.2.1.length<=900/\hLn P w)
  (m:RL S i= ↑(ps.map Rn)) (p:RL S j= ↑(ds.map tR)) (hk:RL S k= ↑bs) (n1:gG i [⇑j,⇑k]=true) (n2:gG j [⇑k]=true):ax (cA P) [tR t,⇑i,⇑j,⇑k] S=.ok (R3 (bT ps B t)) S:=by
 let(v,y,z,E,G,q):=ku (P:=P) (t:=t) (ps:=ps) (ds:=ds) (aI uQ (bR ps t)) d f (bR ps t) none none none none none none (λ_ h=>nomatch h) trivial h;have r:=l (3,[(0,.RK (ps.map Rn)),(1,.RK (ds.map tR)),(2,.RK bs)]) 0 rfl
 have u:Rq (cO oEq (cO Rp 1.0 2.0) 3.21) [↑(tR t),↑⇑0,↑⇑1,↑⇑2,none,none,none,none,none,none] (3,[(0,.RK (ps.map Rn)),(1,.RK (ds.map tR)),(2,.RK bs)])=.ok false (3,[(0,.RK (ps.map Rn)),(1,.RK (ds.map tR)),(2,.RK bs)]):=by
  cases t with
  |two o a b=>cases o<;>rfl
  |_=>rfl
 have e:(bR ps t).foldl (bV B) none=bT ps B t:=by
  cases t with
  |pick a b c=>exact absurd rfl (g a b c)
  |_=>rfl
 rw[e]at q;refine TJ (bp (aF t) (bP m (aI aO ps) (bP p (aI aF ds) (bP hk d rfl) n2) n1)) (RG (aa (af u rfl) (aa rfl (aa (mZ (i:=3) (yU (aj rfl r) rfl) rfl q) rfl)))) (og (vy f t))
end
end My
namespace My
open EV
theorem xO{d:List Pc}(J:∀S i,RL S i= ↑(d.map Rn)->P 47 [tR (.pick a b c),⇑i] S=.ok ⇑S.nx (S.nx+1,(S.nx,.lst [.tup [.str 8,.tup [],.tup [tR a,tR b,tR c]]])::S.cs))
  (l:ba bs=true) (p:∀t,We (B t)) (h:hBk [.tup [.str 8,.tup [],.tup [tR a,tR b,tR c]]] d u bs B [a,b,c]) (L:∀(x y z:Nat)(S:Rm)(i:Nat),RL S i=some [nA x,nA y,nA z]->P 48 [.str 8,.tup [],⇑i] S=.ok (nA (ov (y+ov z)+ov z+(x+(y+z)))) S)
  (v:RL S i= ↑(d.map Rn)) (w:RL S j= ↑(u.map tR)) (hk:RL S k= ↑bs) (n1:gG i [⇑j,⇑k]=true) (n2:gG j [⇑k]=true):ax (cA P) [tR (.pick a b c),⇑i,⇑j,⇑k] S=.ok (R3 (bT d B (.pick a b c))) S:=by
 have E:=J (3,[(0,.RK (d.map Rn)),(1,.RK (u.map tR)),(2,.RK bs)]) 0 rfl;have G:ba [.tup [.str 8,.tup [],.tup [tR a,tR b,tR c]]]=true:=by simp[Vn,SQ,Tg,aF]
 have H:=og (vy (ps:=d) p (.pick a b c))
 cases q:de B [a,b,c]with
 |none =>
  have e:bT d B (.pick a b c)=none:=by
   simp only[de]at q;simp only[bT]
   cases h1:B a with
   |none=>rfl
   |some x=>cases f:B b with
    |none=>rfl
    |some y=>cases g:B c with
     |none=>rfl
     |some z=>rw[h1,f,g]at q;cases q
  rw[e];exact TJ (bp (aF _) (bP v (aI aO d) (bP w (aI aF u) (bP hk l rfl) n2) n1)) (RG (aa (af rfl rfl) (aa rfl (aa (mZ (i:=3) (yU (aj rfl E) rfl) rfl (Ik rfl (AY (ts:=[a,b,c]) (b:=.Ro) (z':=none) h (by simp) G l rfl rfl rfl trivial q) rfl)) rfl)))) rfl
 |some rs =>
  obtain⟨x,y,z,rfl,h1,f,g⟩:∃x y z,rs=[x,y,z]/\B a= ↑x/\B b= ↑y/\B c= ↑z:=by
   simp only[de]at q
   cases h1:B a with
   |none=>rw[h1]at q;cases q
   |some x=>cases f:B b with
    |none=>rw[h1,f]at q;cases q
    |some y=>cases g:B c with
     |none=>rw[h1,f,g]at q;cases q
     |some z=>rw[h1,f,g]at q;cases q;exact(x,y,z,rfl,rfl,rfl,rfl)
  have e:bT d B (.pick a b c)= ↑(bL x y z):=by simp only[bT,h1,f,g]
  rw[e]at H ⊢;refine TJ (bp (aF _) (bP v (aI aO d) (bP w (aI aF u) (bP hk l rfl) n2) n1)) (RG (aa (af rfl rfl) (aa rfl (aa (mZ (i:=3) (yU (aj rfl E) rfl) rfl (fD rfl (AZ (ts:=[a,b,c]) (best:=none) (k:=(bL x y z).2.2) (m:=(bL x y z).1) h (by simp) G l rfl rfl q (λ_ h=>nomatch h) (λr I=>?_) (λS i e=>L _ _ _ S i e)) rfl)) rfl)))) H;simp only[NB,NU,Ou]at I;rcases I with rfl|rfl|rfl
  ·exact p _ _ h1
  ·exact p _ _ f
  ·exact p _ _ g
theorem Yv(h:(match a with|true=>b|false=>false)=true):a=true/\b=true:=by cases a with|true=>exact(rfl,h)|false=>cases h
theorem sX:∀(x y:Tr),SN (tR x) (tR y)=true->x=y
 | .num a,.num b,h=>by rw[NJ (Yv (a:=Nat.beq a b) h).1]
 | .arg a,.arg b,h=>by rw[NJ (Yv (a:=Nat.beq a b) h).1]
 | .two o a b,.two i c d,h=>by cases o<;>cases i<;>first | (cases h;done) | (let(h1,g):=Yv (a:=SN (tR a) (tR c)) h;rw[sX a c h1,sX b d (Yv (a:=SN (tR b) (tR d)) g).1])
 | .pick a b c,.pick d e f,h=>by let(h1,g):=Yv (a:=SN (tR a) (tR d)) h;let(g,j):=Yv (a:=SN (tR b) (tR e)) g;rw[sX a d h1,sX b e g,sX c f (Yv (a:=SN (tR c) (tR f)) j).1]
 | .num _,.arg _,h=>by cases h
 | .num _,.two o _ _,h=>by cases o<;>cases h
 | .num _,.pick _ _ _,h=>by cases h
 | .arg _,.num _,h=>by cases h
 | .arg _,.two o _ _,h=>by cases o<;>cases h
 | .arg _,.pick _ _ _,h=>by cases h
 | .two o _ _,.num _,h=>by cases o<;>cases h
 | .two o _ _,.arg _,h=>by cases o<;>cases h
 | .two o _ _,.pick _ _ _,h=>by cases o<;>cases h
 | .pick _ _ _,.num _,h=>by cases h
 | .pick _ _ _,.arg _,h=>by cases h
 | .pick _ _ _,.two o _ _,h=>by cases o<;>cases h
theorem kP:∀(x:Tr),SN (tR x) (tR x)=true
 | .num a=>by show(match Nat.beq a a with|true=>true|false=>false)=true;rw[N2]
 | .arg a=>by show(match Nat.beq a a with|true=>true|false=>false)=true;rw[N2]
 | .two o a b=>by have:=kP a;have:=kP b;cases o<;>(show(match SN (tR a) (tR a)with|true=>(match SN (tR b) (tR b)with|true=>true|false=>false)|false=>false)=true;simp[*])
 | .pick a b c=>by have:=kP a;have:=kP b;have:=kP c;show(match SN (tR a) (tR a)with|true=>(match SN (tR b) (tR b)with|true=>(match SN (tR c) (tR c)with|true=>true|false=>false)|false=>false)|false=>false)=true;simp[*]
theorem yP:∀{a:List Tr}{k:Nat},h∈a->∃j,UH (tR h) (a.map tR) k= ↑(k+j)/\a[j]?= ↑h
 |d::a,k,e=>by
  show ∃j,(match SN (tR d) (tR h)with|true=>↑k|false=>UH (tR h) (a.map tR) (k+1))= ↑(k+j)/\(d::a)[j]?= ↑h
  cases q:SN (tR d) (tR h)with
  |true=>exact(0,rfl,by rw[sX _ _ q];rfl)
  |false =>
   have e:h∈a:=by
    rcases NB.mp e with rfl|z
    ·rw[kP]at q;cases q
    ·exact z
   let(j,h1,f):=yP (k:=k+1) e;exact(j+1,by rw[show k+(j+1)=k+1+j by lia];exact h1,by simpa using f)
theorem iW:∀(t:Tr){n:Nat},t.dep<n->Uj n (tR t)=true
 | .num _,n+1,_=>rfl
 | .arg _,n+1,_=>rfl
 | .two o a b,n+1,h=>by simp only[Tr.dep]at h;show(match Uj n (tR a)with|true=>(match Uj n (tR b)with|true=>true|false=>false)|false=>false)=true;rw[iW a ⋯,iW b ⋯]
 | .pick a b c,n+1,h=>by simp only[Tr.dep]at h;show(match Uj n (tR a)with|true=>(match Uj n (tR b)with|true=>(match Uj n (tR c)with|true=>true|false=>false)|false=>false)|false=>false)=true;rw[iW a ⋯,iW b ⋯,iW c ⋯]
theorem zN:∀{a:List Tr},(∀t∈a,t.dep<n)->R8 n (a.map tR)=true
 |[],_=>rfl
 |t::a,h=>by show(match Uj n (tR t)with|true=>R8 n (a.map tR)|false=>false)=true;rw[iW t (h t (.head _))];exact zN λx d=>h x (.tail _ d)
theorem vg(d:h∈a)(e:∀t∈a,t.dep<20)(hl:a.length<=900):YN [↑(tR h),↑⇑1,↑⇑2] (4,S4 W f a (a.map (R3∘B)))=.ok (R3 (B h)) (4,S4 W f a (a.map (R3∘B))):=by
 let(j,h1,g):=yP (k:=0) d;rw[QO]at h1;refine RB rfl (y:=nA j) (S2:=(4,S4 W f a (a.map (R3∘B)))) ?_ ?_
 ·show gB (few 900 (a.map tR)) (gB (Uj 20 (tR h)) (gB (R8 20 (a.map tR)) (rO (UH (tR h) (a.map tR) 0) λk=>fM (.ofNat k) _)))=_;rw[bj (by simpa using hl),iW h (e h d),zN e,h1];rfl
 ·show ob ((a.map (R3∘B))[j]?) _=_;rw[NQ,g];rfl
end My
namespace My
open EV
variable{S:Rm}{ps:List Pc}{B:Tr->Option Bs}
noncomputable def kU:List Tr->Prop
 |[]=>True
 |u::r=>(∀k∈u.kids,∀h∈k.parts,h∈r)/\kU r
theorem iI:∀{a b:List Tr},kU a->kU b->kU (a++b)
 |[],_,_,h=>h
 |u::a,b,h,k=>(λx d y hy=>Oj _ (h.1 x d y hy),iI h.2 k)
theorem dc:∀t:Tr,kU t.parts
 | .num _=>((λ_ h=>nomatch h),trivial)
 | .arg _=>((λ_ h=>nomatch h),trivial)
 | .two o a b=>(λk hk h d=>by simp[Tr.kids]at hk;rcases hk with rfl|rfl<;>simp[d],iI (dc a) (dc b))
 | .pick a b c=>(λk hk h d=>by simp[Tr.kids]at hk;rcases hk with rfl|rfl|rfl<;>simp[d],iI (iI (dc a) (dc b)) (dc c))
theorem kW:∀{xs:List Tr},kU (xs++u::ys)->∀k∈u.kids,∀h∈k.parts,h∈ys
 |[],h=>h.1
 |_::xs,h=>kW (xs:=xs) h.2
noncomputable def ZG(ps:List Pc)(B:Tr->Option Bs)(L:List A)(a:List Tr):Rm:=(4,[(3,.RK L),(2,.lst (a.map (R3∘B))),(1,.lst (a.map tR)),(0,.RK (ps.map Rn))])
theorem qv(f:∀(u:Tr)(e:List Tr)(S:Rm),u.dep<20->(∀k∈u.kids,∀h∈k.parts,h∈e)->e.length<=900->(∀d∈e,d.dep<20)->RL S 0= ↑(ps.map Rn)->RL S 1= ↑(e.map tR)->RL S 2= ↑(e.map (R3∘B))->P 49 [tR u,⇑0,⇑1,⇑2] S=.ok (R3 (B u)) S) :
  ∀(a e:List Tr)(z:Option A),kU ((e++a).reverse)->(e++a).length<=900->(∀d∈e++a,d.dep<20)->∃y,lp 4.4 (fK P) (a.map tR) [↑(tR t),↑⇑0,↑⇑1,↑⇑2,z] (ZG ps B L e)=.ok (.nx [↑(tR t),↑⇑0,↑⇑1,↑⇑2,y]) (ZG ps B L (e++a))
 |[],e,z,_,_,_=>(z,by rw[N9];rfl)
 |u::a,e,z,j,hl,g=>by
  have l:∀k∈u.kids,∀h∈k.parts,h∈e:=λk hk h m=>by have:=kW (xs:=a.reverse) (u:=u) (ys:=e.reverse) (by simpa using j) k hk h m;simpa using this
  have i:e.length<=900:=by simp at hl;lia
  have p:∀d∈e,d.dep<20:=λd h=>g d (Oj _ h);have q:=f u e (ZG ps B L e) (g u (by simp)) l i p rfl rfl rfl;let(y,r):=qv f a (e++[u]) ↑(tR u) (by simpa using j) (by simpa using hl) (by simpa using g);refine(y,?_);rw[show e++u::a=e++[u]++a by simp];refine fD rfl (aa (eZ rfl q rfl (by simpa using i)) (eZ (xs:=e.map tR) rfl rfl rfl (by simpa using i))) ?_;rw[<- r];show lp _ _ _ _ (4,[(3,.RK L),(2,.lst (e.map (R3∘B)++[R3 (B u)])),(1,.lst (e.map tR++[tR u])),(0,.RK (ps.map Rn))])=_;rw[show ZG ps B L (e++[u])=(4,[(3,.RK L),(2,.lst (e.map (R3∘B)++[R3 (B u)])),(1,.lst (e.map tR++[tR u])),(0,.RK (ps.map Rn))]) by simp[ZG]];rfl
theorem B3{a:List A}{x:A}:Xm (a++[x]) (.negSucc 0)= ↑x:=by show(match Nat.ble 1 (a++[x]).length with|true=>(a++[x])[(a++[x]).length - 1]? |false=>none)=_;rw[NP (by simp)];simp
noncomputable def Jz(b:Option Bs)(S:Rm):Res A:=match b with
 |some b=>.ok (UJ b) S
 |none=>.exc 9 S
theorem zY(t:Tr):∃r,t.parts=t::r:=by cases t<;>exact(_,rfl)
theorem EC(j:∀S:Rm,P 10 [tR t] S=.ok ⇑S.nx (S.nx+1,(S.nx,.lst (t.parts.map tR))::S.cs))(f:∀(u:Tr)(e:List Tr)(S:Rm),u.dep<20->(∀k∈u.kids,∀h∈k.parts,h∈e)->e.length<=900->(∀d∈e,d.dep<20)->RL S 0= ↑(ps.map Rn)->RL S 1= ↑(e.map tR)->RL S 2= ↑(e.map (R3∘B))->P 49 [tR u,⇑0,⇑1,⇑2] S=.ok (R3 (B u)) S)
  (l:∀t,We (B t)) (p:t.cnt<=40) (v:t.dep<20) (g:RL S i= ↑(ps.map Rn)):ax (dD P) [tR t,⇑i] S=Jz (B t) S:=by
 have hl:=bG t;let(r,m):=zY t;let(y,q):=qv (t:=t) (L:=t.parts.map tR) f t.parts.reverse [] none (by simpa using dc t) (by simp;lia) (λd h=>by have:=b7 t (h:=d) (by simpa using h);lia);have e1:(t.parts.reverse.map (R3∘B))=r.reverse.map (R3∘B)++[R3 (B t)]:=by rw[m];simp
 have it:qP (ae (P 10) %[1.0|0]) [↑(tR t),↑⇑0,↑⇑1,↑⇑2,none] (3,[(2,.lst []),(1,.lst []),(0,.RK (ps.map Rn))])=.ok (t.parts.reverse.map tR,[⇑3]) (4,[(3,.lst (t.parts.map tR)),(2,.lst []),(1,.lst []),(0,.RK (ps.map Rn))]):=by rw[List.map_reverse];exact KM (aj rfl (j _)) rfl
 have a:∀S,cO Rp 1.3 (cU A7 2.1) [↑(tR t),↑⇑0,↑⇑1,↑⇑2,y] (4,[(3,.lst (t.parts.map tR)),(2,.lst (t.parts.reverse.map (R3∘B))),S,(0,.RK (ps.map Rn))])=.ok (R3 (B t)) (4,[(3,.lst (t.parts.map tR)),(2,.lst (t.parts.reverse.map (R3∘B))),S,(0,.RK (ps.map Rn))]):=λS=>by refine RB rfl rfl ?_;show ob (Xm (t.parts.reverse.map (R3∘B)) (.negSucc 0)) _=_;rw[e1,B3];rfl
 cases z:B t with
 |some b =>rw[z]at a;exact TJ (bp (aF t) (bP g (aI aO ps) rfl)) (RG (aa rfl (aa rfl (aa (mZ (i:=3) it rfl q) (aa (af (RY (Sb (a _) rfl)) rfl) (aV (a _))))))) (qA (l t b z))
 |none =>rw[z]at a;exact De (bp (aF t) (bP g (aI aO ps) rfl)) (rL (aa rfl (aa rfl (aa (mZ (i:=3) it rfl q) (mE (aP (RY (Sb (a _) rfl)) rfl))))))
end My
namespace My
open EV
variable{P:RC}{S:Rm}{ps:List Pc}
section
theorem dq(f:a x d= ↑σ1)(g:c σ1 S=.ok true S)(i:e σ1 S=.ok y j)(h:Ti a c e k σ1 (l++[y]) j=r):Ti a c e (x::k) d l S=r:=by show(match a x d with|none=>_|some m=>_)=r;simp only[f,Res.b,g,i,aL];exact h
theorem fO(f:it a S=.ok (d,[]) S')(g:few 900 d=true)(h:Ti tg c e d (Sy k fr a) [] S'=.ok zs S1)(i:few 900 zs=true):ay it k fr tg c e a S=.ok ⇑S1.nx (S1.nx+1,(S1.nx,.lst zs)::S1.cs):=by unfold ay Res.b;simp only[f,g,gB,aL,cB,h,Res.UU,Res.back,bJ,new,i,b8]
theorem pX(a:Rv S ⇑i= ↑xs)(hy:Rv S y= ↑ys)(hl:(xs++ys).length<=900):bg ⇑i y S=.ok ⇑S.nx (S.nx+1,(S.nx,.lst (xs++ys))::S.cs):=by unfold bg;simp only[rO,gB,SD,Ul,a,hy,new,bj hl,aL,b8]
theorem TY(h:e a S=.ok x d):RX e a S=.ok (.nx a) d:=by unfold RX Res.x;rw[h]
theorem lP(h:e a S=.exc c d):ah e a S=.exc c a d:=by unfold ah Res.x;rw[h]
theorem JU(h:e a S=.exc c d):dJ f e a S=.exc c a d:=by unfold dJ Res.x;rw[h]
theorem fN:fG S [] k= ↑([],[]):=rfl
theorem LG(h:e a S=.ok x d)(hl:Rv d x= ↑f)(k:XA g f a= ↑i):AK g e a S=.ok (.nx i) d:=by unfold AK Res.x;simp only[rO,gB,h,hl,k]
end
noncomputable abbrev XO(a:List Nat)(S:Rm):Res A:=.ok ⇑S.nx (S.nx+1,(S.nx,.lst (a.map nA))::S.cs)
noncomputable def sA(P:RC)(ps:List Pc)(t:Tr)(b:Bs):Prop:=∀(S:Rm)(i j:Nat),RL S i= ↑(ps.map Rn)->RL S j=some []->P 54 [tR t,⇑i,b.2.1,⇑j] S=XO b.2.2 S
theorem zk(g:sA P ps a x)(hy:sA P ps b y)(l:sA P ps c z)(m:aQ x.2.1=true)(p:aQ y.2.1=true)(q:aQ z.2.1=true)
  (d:∀(b c:Nat)(S:Rm),P 46 [nA b,nA c] S=.ok (.tup [⇑(S.nx+1),⇑S.nx]) (S.nx+2,(S.nx+1,.lst ((jmp 10 11 (b+ov c)).map nA))::(S.nx,.lst ((jmp 8 9 c).map nA))::S.cs))
  (r:y.1=y.2.2.length) (t:z.1=z.2.2.length) (hl:(bL x y z).2.2.length<=900) (u:RL S i= ↑(ps.map Rn)) (v:RL S j=some []) (w:gG i [⇑j]=true) :
  ax (fV P) [tR (.pick a b c),⇑i,(bL x y z).2.1,⇑j] S=XO (bL x y z).2.2 S:=by
 have h1:=g (2,[(0,.RK (ps.map Rn)),(1,.RK [])]) 0 1 rfl rfl;have B:=hy (3,[(2,.lst (x.2.2.map nA)),(0,.RK (ps.map Rn)),(1,.RK [])]) 0 1 rfl rfl;have E:=l (4,[(3,.lst (y.2.2.map nA)),(2,.lst (x.2.2.map nA)),(0,.RK (ps.map Rn)),(1,.RK [])]) 0 1 rfl rfl;have G:=d y.1 z.1 (6,[(5,.lst [⇑2,⇑3,⇑4]),(4,.lst (z.2.2.map nA)),(3,.lst (y.2.2.map nA)),(2,.lst (x.2.2.map nA)),(0,.RK (ps.map Rn)),(1,.RK [])]);have f:aQ (bL x y z).2.1=true:=iY x y z m p q;have e:(bL x y z).2.2=x.2.2++jmp 10 11 (y.1+ov z.1)++y.2.2++jmp 8 9 z.1++z.2.2:=rfl;rw[e]at hl;simp only[NK]at hl;refine jx (xs:=(bL x y z).2.2.map nA) (i:=11) (bp (aF _) (bP u (aI aO ps) (bp f (bP v rfl rfl)) ((o7 f).trans w))) (RG (aa (LG (fO rfl rfl (dq rfl rfl (aj rfl h1) (dq rfl rfl (aj rfl B) (dq rfl rfl (aj rfl E) rfl))) rfl) rfl rfl) (aa (l7 (aj (RI (Sb rfl (er (k:=y.1) rfl (by rw[NC,r]))) (RI (Sb rfl (er (k:=z.1) rfl (by rw[NC,t]))) rfl)) G) rfl) (aV (RB (RB (RB (RB rfl rfl (pX rfl rfl (by simp;lia))) rfl (pX rfl rfl (by simp;lia))) rfl (pX rfl rfl (by simp;lia))) rfl (pX rfl rfl (by simp;lia))))))) rfl ?_ (aI bI _);rw[e];simp only[NY];rfl
end My
namespace My
open EV
variable{ps:List Pc}
noncomputable def okC(a ks:List Nat):Cl->Prop
 | .lit _=>True
 | .low i=>i<a.length
 | .high i=>i<a.length
 | .arg i=>i<ks.length
theorem yF{l:List Nat}(h:i<l.length):(l.map nA)[i]?= ↑(nA (l.getD i 0)):=by rw[NQ,Nz h,Of,Nz h];rfl
theorem BR(h:okC a ks c):eO P [WX c,.tup (a.map nA),.tup (ks.map nA)] S=.ok (nA (aR a ks c)) S:=by
 cases c with
 |lit n=>rfl
 |low i=>exact RG (aa (af rfl rfl) (bC (aP rfl (aV (RB (RB rfl rfl (by show ob ((a.map nA)[i]?) _=_;rw[yF h];rfl)) rfl rfl)))))
 |high i=>exact RG (aa (af rfl rfl) (aa (af rfl rfl) (bC (aP rfl (aV (RB (RB rfl rfl (by show ob ((a.map nA)[i]?) _=_;rw[yF h];rfl)) rfl rfl))))))
 |arg i=>exact RG (aa (af rfl rfl) (aa (af rfl rfl) (aa (af rfl rfl) (aV (RB rfl rfl (by show ob ((ks.map nA)[i]?) _=_;rw[yF h];rfl))))))
theorem uS:∀{l:List Pc},p∈l->(l.map (·.nm)).Nodup->l.filter (λq=>Nat.beq q.nm p.nm)=[p]
 |q::l,h,d=>by
  rw[NR,Oe]at d;rcases NB.mp h with rfl|h
  ·rw[List.filter_cons_of_pos (by exact N2 _),List.filter_eq_nil_iff.mpr];intro a f e;exact d.1 (by rw[<- NJ e];exact Py f)
  ·rw[List.filter_cons_of_neg,uS h d.2];intro e;exact d.1 (by rw[NJ e];exact Py h)
noncomputable abbrev Sl(ps:List Pc)(p:Pc)(a:List Nat):List (Nat×C):=[(3,.lst (a.map nA)),(2,.lst [Rn p]),(0,.RK (ps.map Rn)),(1,.RK [])]
noncomputable abbrev El(t:Tr)(p:Pc)(f:Fd)(bs:List Bs)(z a:Option A):Env:=[↑(tR t),↑⇑0,↑(.tup [.str p.nm,.tup (bs.map (·.2.1))]),↑⇑1,↑(.str p.nm),↑(.tup (bs.map (·.2.1))),↑(Rn p),↑(.tup (f.1.map tR)),↑(.tup (f.2.1.map nA)),↑(.tup (f.2.2.map nA)),↑⇑3,z,a]
theorem qY{bs:List Bs}(j:ba (bs.map (·.2.1))=true):∀{hs:List Tr}{rs:List Bs}(d:List Nat)(z e:Option A),Sq (λh r=>sA P ps h r/\aQ r.2.1=true) hs rs->(d++rs.flatMap (·.2.2)).length<=900->XN z->XN e ->
  ∃y i,XN y/\XN i/\lp (gT [4.11,4.12]) (jd P) (zip2 (hs.map tR) (rs.map (·.2.1))) (El t p f bs z e) (4,Sl ps p d)=.ok (.nx (El t p f bs y i)) (4,Sl ps p (d++rs.flatMap (·.2.2)))
 |_,_,d,z,e,.nil,_,k,g=>(z,e,k,g,by simp[zip2,lp])
 |_,_,d,z,e,.cons (a:=h) (b:=r) (as:=hs) (bs:=rs) ⟨h1,l⟩ m,hl,k,g=>by
  let(y,i,u,v,w):=qY (t:=t) (p:=p) (f:=f) j (d++r.2.2) ↑(tR h) ↑r.2.1 m (by simpa using hl) (aF h) l;refine(y,i,u,v,?_);rw[show d++(r::rs).flatMap (·.2.2)=d++r.2.2++rs.flatMap (·.2.2) by simp];have q:=h1 (4,Sl ps p d) 0 1 rfl rfl;simp only[Qm,NK]at hl;refine fD rfl ((Nh (AM (xs:=d.map nA) rfl (by intro z;cases z) (aj rfl q) rfl rfl (by simp;lia)) ?_ ?_).trans ?_) w
  ·have d1:aQ (.tup [.str p.nm,.tup (bs.map (·.2.1))])=true:=by simp only[Vn,SQ,Tg,OM,j]
   exact br (aF t) (eP rfl (br d1 (eP rfl (br rfl (br j (br (aO p) (br (aI aF _) (br (aI bI _) (br (aI bI _) (eP rfl (br (aF h) (br l rfl))))))))))))
  ·exact(bB (aI bI _) (bB (dX (aI bI _) (aI bI _)) (bB (xs:=[Rn p]) (by simp[SQ,aO]) (bB (aI aO _) (bB rfl rfl).2).2).1).1).1
  ·rw[show Sl ps p (d++r.2.2)=[(3,.lst (d.map nA++r.2.2.map nA)),(2,.lst [Rn p]),(0,.RK (ps.map Rn)),(1,.RK [])] by simp[Sl]];rfl
theorem DH{hs:List Tr}{rs:List Bs}{Q:Tr->Bs->Prop}(h:Sq Q hs rs):hs.length=rs.length:=by
 induction h with
 |nil=>rfl
 |cons _ _ a=>simp[a]
theorem wL{w:Pc×Fd}(hs:So ps)(E:w.1∈ps)(a:∀S,P 38 [Rn w.1,tR t] S=.ok (XI ↑w.2) S)(d:∀c∈w.1.cells,∀S,P 39 [WX c,.tup (w.2.2.1.map nA),.tup (w.2.2.2.map nA)] S=.ok (nA (aR w.2.2.1 w.2.2.2 c)) S)
  (l:Sq (λh r=>sA P ps h r/\aQ r.2.1=true) w.2.1 bs) (u:w.1.cells.length<=12) (hl:(eB w bs).2.2.length<=900) (T:w.2.1.length<=900) (G:RL S i= ↑(ps.map Rn)) (H:RL S j=some []) (I:gG i [⇑j]=true) :
  ax (fA P) [tR t,⇑i,(eB w bs).2.1,⇑j] S=XO (eB w bs).2.2 S:=by
 have le:=hs.le
 have J:∀{v:List Tr}{rs:List Bs},Sq (λh r=>sA P ps h r/\aQ r.2.1=true) v rs->ba (rs.map (·.2.1))=true:=by
  intro v rs h
  induction h with
  |nil=>rfl
  |cons h _ L=>show(aQ _&&ba (List.map _ _))=true;rw[h.2];exact L
 have z:=J l;have B:aQ (.tup [.str w.1.nm,.tup (bs.map (·.2.1))])=true:=by simp only[Vn,SQ,Tg,OM,z]
 have e:(eB w bs).2.2=bs.flatMap (·.2.2)++w.1.cells.map (aR w.2.2.1 w.2.2.2):=rfl;rw[e]at hl ⊢;have M:=DH l;let(y,N,_,_,q):=qY (P:=P) (ps:=ps) (t:=t) (p:=w.1) (f:=w.2) z [] none none l (by simp at hl ⊢;lia) trivial trivial
 have m:ay (iL 1.1) 1 [4] 4.0 (Rq (cO oEq (cO Rp 1.0 2.0) 1.1)) 1.0 [↑(tR t),↑⇑0,↑(.tup [.str w.1.nm,.tup (bs.map (·.2.1))]),↑⇑1,↑(.str w.1.nm),↑(.tup (bs.map (·.2.1))),none,none,none,none,none,none,none] (2,[(0,.RK (ps.map Rn)),(1,.RK [])])=.ok ⇑2 (3,[(2,.lst [Rn w.1]),(0,.RK (ps.map Rn)),(1,.RK [])]):=by
  refine nX (i:=0) rfl rfl (by simp;lia) (zs:=[Rn w.1]) ?_ (by simp);have:=nW (c:=Rq (cO oEq (cO Rp 1.0 2.0) 1.1)) (e:=cV 0) (ρ:=[↑(.str w.1.nm)]) (S:=(2,[(0,.RK (ps.map Rn)),(1,.RK [])])) (f:=Rn) (p:=λq=>Nat.beq q.nm w.1.nm) (g:=Rn) ps none [] λq _=>(rfl,λ_=>rfl)
  rw[uS E hs.nd]at this;exact this
 have O:wI 1.7 1.5 (El t w.1 w.2 bs none none) (4,Sl ps w.1 [])=.ok (zip2 (w.2.1.map tR) (bs.map (·.2.1)),[]) (4,Sl ps w.1 []):=by show(match Nat.beq (w.2.1.map tR).length (bs.map (·.2.1)).length with|true=>_|false=>_)=_;rw[NC,NC,M,N2];rfl
 have Q:=sR (it:=iT (cO Rp 1.6 2.2)) (k:=1) (fr:=[8,9]) (c:=tT) (e:=ae (P 39) %[1.0,1.1,1.2|0]) (ρ:=El t w.1 w.2 bs y N) (S:=(4,Sl ps w.1 (bs.flatMap (·.2.2)))) (xs:=w.1.cells.map WX) rfl (by simp;lia) (dG (g:=λc=>nA (aR w.2.2.1 w.2.2.2 c)) w.1.cells none λc u=>d c u _) (by simp;lia);refine jx (i:=5) (xs:=(bs.flatMap (·.2.2)++w.1.cells.map (aR w.2.2.1 w.2.2.2)).map nA) (bp (aF t) (bP G (aI aO ps) (bp B (bP H rfl rfl)) ((o7 B).trans I))) (RG (aa rfl (aa (aW (RB m rfl rfl)) (aa (l7 (aj rfl (a _)) rfl) (aa rfl (aa (iH O q) (aV (RB rfl Q (pX (xs:=(bs.flatMap (·.2.2)).map nA) rfl rfl (by simp at hl ⊢;lia)))))))))) rfl ?_ (aI bI _);show ↑(C.lst _)=_;rw[NY,PY];rfl
end My
namespace My
open EV
variable{dl:Dl}{S:Rm}{ps:List Pc}
noncomputable def Pa.gs:Pa->Nat
 | .gap _ _=>1
 | .two _ a b=>a.gs+b.gs
 |_=>0
noncomputable def Pa.ks:Pa->Nat
 | .slot _=>1
 | .two _ a b=>a.ks+b.ks
 |_=>0
noncomputable def Cl.TH(g k:Nat):Cl->Bool
 | .lit _=>true
 | .low i=>Nat.blt i g
 | .high i=>Nat.blt i g
 | .arg i=>Nat.blt i k
structure Hn(p:Pc):Prop where
 nh:p.pat.nh=true
 nm:Nat.beq p.nm 8=false
 sz:p.pat.sz<=5
 cl:p.cells.length<=5
 fc:p.cells.all (Cl.TH p.pat.gs p.pat.ks)=true
theorem TH(h:p∈Uc):Hn p:=by have q:∀p∈Uc,(p.pat.nh&&!(Nat.beq p.nm 8)&&Nat.ble p.pat.sz 5&&Nat.ble p.cells.length 5&&p.cells.all (Cl.TH p.pat.gs p.pat.ks))=true:=NX.mp (by rfl);have:=q p h;simp only[Nt,OV]at this;let((((h1,a),d),e),h5):=this;exact(h1,a,NF d,NF e,h5)
theorem So.ne(h:So ps):ps.map Rn≠[]:=by have:=h.pos;cases ps<;>simp at *
noncomputable def gp(a:List Tr):Nat:=(a.map Tr.cnt).sum
theorem fX:∀(p:Pa)(t:Tr){f:Fd},fit p t= ↑f->f.2.1.length=p.gs/\f.2.2.length=p.ks/\gp f.1<=t.cnt/\(p.nh=true->gp f.1+1<=t.cnt)
 | .hole _,t,f,e=>by cases e;exact(rfl,rfl,by simp[gp],λh=>nomatch h)
 | .gap _ m,.num n,f,e=>by unfold fit at e;split at e<;>cases e;exact(rfl,rfl,by simp[gp,Tr.cnt],λ_=>by simp[gp,Tr.cnt])
 | .slot _,.arg k,f,e=>by cases e;exact(rfl,rfl,by simp[gp,Tr.cnt],λ_=>by simp[gp,Tr.cnt])
 | .num n,.num m,f,e=>by unfold fit at e;split at e<;>cases e;exact(rfl,rfl,by simp[gp,Tr.cnt],λ_=>by simp[gp,Tr.cnt])
 | .two o a b,.two q x y,f,e=>by
  unfold fit at e;split at e
  ·let(d,e1,e2):=Oo.mp e;let(g,e3,rfl):=N1.mp e2;let(i,j,r,_):=fX a x e1;let(b1,l,u,_):=fX b y e3;have:gp (d.1++g.1)=gp d.1+gp g.1:=by simp[gp]
   exact(by simp[Fd.add,Pa.gs,i,b1],by simp[Fd.add,Pa.ks,j,l],by simp only[Fd.add,Tr.cnt];lia,λ_=>by simp only[Fd.add,Tr.cnt];lia)
  ·cases e
theorem zO(a:Hn p)(e:fit p.pat t= ↑f):∀c∈p.cells,okC f.2.1 f.2.2 c:=λc d=>by
 let(h1,g,_):=fX p.pat t e;have:=NX.mp a.fc c d
 cases c with
 |lit n=>trivial
 |low i=>show i<f.2.1.length;rw[h1];exact NF this
 |high i=>show i<f.2.1.length;rw[h1];exact NF this
 |arg i=>show i<f.2.2.length;rw[g];exact NF this
theorem f38(h:p∈Uc)(t:Tr)(a:7<=n):cN dl n 38 [Rn p,tR t] S=.ok (XI (fit p.pat t)) S:=by
 have:=(TH h).sz;obtain⟨m,rfl⟩:∃m,n=m+p.pat.sz+2:=(n - p.pat.sz - 2,⋯)
 exact yC p t ⋯
theorem f45(a b k:Nat)(S:Rm):cN dl (n+1) 45 [nA k,.tup [nA a,nA b]] S=.ok ⇑S.nx (S.nx+1,(S.nx,.lst ((jmp a b k).map nA))::S.cs):=by rw[c45];exact B5
theorem f46(a:2<=n)(b c:Nat)(S:Rm):cN dl n 46 [nA b,nA c] S=.ok (.tup [⇑(S.nx+1),⇑S.nx]) (S.nx+2,(S.nx+1,.lst ((jmp 10 11 (b+ov c)).map nA))::(S.nx,.lst ((jmp 8 9 c).map nA))::S.cs):=by
 obtain⟨m,rfl⟩:∃m,n=m+2:=(n - 2,⋯)
 rw[c46];exact yV f45
theorem oS(h:k+1<=n):∃m,n=m+1/\k<=m:=(n - 1,⋯,⋯)
theorem f49(q:9<=n)(hs:So ps)(u:Tr)(f:List Tr)(S:Rm)(M:u.dep<20)(hk:∀k∈u.kids,∀h∈k.parts,h∈f)(hl:f.length<=900)(r:∀d∈f,d.dep<20)(h0:RL S 0= ↑(ps.map Rn))(h1:RL S 1= ↑(f.map tR))(v:RL S 2= ↑(f.map (R3∘best ps 20))):cN dl n 49 [tR u,⇑0,⇑1,⇑2] S=.ok (R3 (best ps 20 u)) S:=by
 let(n1,rfl,E):=oS q;let(n,rfl,q):=oS E;have le:=hs.le;have nh:∀p∈ps,p.pat.nh=true:=λp g=>(TH (hs.all p g)).nh;have j:ba (f.map (R3∘best ps 20))=true:=aI (λt=>og (ix ps 20 t)) f;rw[c49,<- jf nh 20 u ⋯];by_cases g:∃a b c,u=.pick a b c
 ·let(a,b,c,rfl):=g;have self:∀u:Tr,u∈u.parts:=λu=>by cases u<;>simp[Tr.parts]
  refine xO (λS i e=>by rw[c47];exact xE e) j (ix ps 20) (λh l=>vg ?_ r hl) (λx y z S i e=>by rw[c48];exact zt (f46 ⋯ y z) e) h0 h1 v rfl rfl;exact hk h l h (self h)
 ·refine Eg (λa b c e=>g (a,b,c,e)) (λS i e=>by rw[c47];exact DG (λa b c e=>g (a,b,c,e)) (λp g S=>f38 (hs.all p g) u ⋯) ⋯ e) j (ix ps 20) (λw G=>?_) h0 h1 v rfl rfl;let(H,B):=eX G;have m:=TH (hs.all _ H);refine(λh l=>vg ?_ r hl,?_,λN S i e=>?_)
  ·let(k,I,J):=iF m.nh B h l;exact hk k I h J
  ·have L:=eF _ _ B;have:=m.sz;unfold Fd.len at L;lia
  ·rw[c48,show w.1.cells.length=(w.1.cells.map WX).length by simp];exact wM m.nm (aI qB _) e
theorem f50(d:10<=n)(hs:So ps){t:Tr}(a:t.cnt<=40)(g:t.dep<=8)(e:RL S i= ↑(ps.map Rn)):cN dl n 50 [tR t,⇑i] S=Jz (best ps 20 t) S:=by
 let(n,rfl,f):=oS d;rw[c50];refine EC (λS=>?_) (f49 f hs) (ix ps 20) a ⋯ e;obtain⟨m,rfl⟩:∃m,n=m+t.dep+1:=(n - t.dep - 1,⋯)
 exact dO t a
noncomputable def WY(dl:Dl)(ps:List Pc)(t:Tr)(b:Bs):Prop:=aQ b.2.1=true/\b.1=b.2.2.length/\b.2.2.length<=6*t.cnt/\(t.cnt<=40->∀n,2*t.dep+8<=n->sA (cN dl n) ps t b)
theorem qH:∀{a:List Tr}{bs:List Bs},Sq (WY dl ps) a bs->(bs.map (·.1)).sum=(bs.flatMap (·.2.2)).length/\(bs.flatMap (·.2.2)).length<=6*gp a
 |_,_,.nil=>(rfl,Nu _)
 |_,_,.cons h r=>by let(d,e):=qH r;let(_,f,g,_):=h;simp only[NR,List.sum_cons,Qm,NK,gp]at *;lia
theorem Sq.imp{α β:Type}{Q e:α->β->Prop}{d:List α}{bs:List β}(h:Sq Q d bs):(∀a∈d,∀b,Q a b->e a b)->Sq e d bs:=by
 induction h with
 |nil=>intro _;exact .nil
 |cons h _ f=>intro k;exact .cons (k _ (.head _) _ h) (f λa g b=>k a (.tail _ g) b)
theorem vQ(h:t∈a):t.cnt<=gp a:=by
 induction a with
 |nil=>cases h
 |cons x a d =>
  simp only[gp,NR,List.sum_cons]at *;rcases NB.mp h with rfl|h
  ·lia
  ·have:=d h;lia
theorem Iq(h:d[0]?= ↑(some (tR t))):Rq (cO oEq (cO Rp 1.0 2.0) 3.21) d S=.ok false S:=by
 unfold Rq cO cV Res.b;simp only[h]
 cases t with
 |two o a b=>cases o<;>rfl
 |_=>rfl
theorem vb(hs:So ps)(t:Tr)(w:Pc×Fd)(bs:List Bs)(E:w∈bR ps t)(G:∀a b c,t≠.pick a b c)(h:Sq (WY dl ps) w.2.1 bs):WY dl ps t (eB w bs):=by
 let(p,d):=eX E;have f:=TH (hs.all _ p);let(_,_,_,v):=fX _ _ d;have v:=v f.nh;let(O,Q):=qH h;have cl:=f.cl;have T:=fB t;have r:(eB w bs).2.2.length=(bs.flatMap (·.2.2)).length+w.1.cells.length:=by simp[eB]
 refine(jc t w bs (h.imp λ_ _ _ q=>q.1),by rw[r];simp only[eB];lia,⋯,λH n y S i j g l=>?_);let(n1,rfl,I):=oS (k:=2*t.dep+7) y;let(n2,rfl,y):=oS (k:=2*t.dep+6) I;rw[c54];have z:aQ (eB w bs).2.1=true:=jc t w bs (h.imp λ_ _ _ q=>q.1)
 have J:∀{u:Env}{S:Rm},u[0]?= ↑(some (tR t))->Rq (cO oEq (cO Rp 1.0 2.0) 3.8) u S=.ok false S:=λ{u S} e=>by
  unfold Rq cO cV Res.b;simp only[e]
  cases t with
  |two o a b=>cases o<;>rfl
  |pick a b c=>exact absurd rfl (G a b c)
  |_=>rfl
 have q:∀(S:Rm)(i j:Nat),RL S i= ↑(ps.map Rn)->RL S j=some []->cN dl (n2+1) 53 [tR t,⇑i,(eB w bs).2.1,⇑j] S=XO (eB w bs).2.2 S:=λS i j g l=>by
  rw[c53];refine wL hs p (λS=>by rw[f38 (hs.all _ p) t ⋯,d]) (λc r S=>?_) (h.imp λa B b q=>(q.2.2.2 (by have:=vQ B;lia) n2 ?_,q.1)) ⋯ ⋯ ?_ g l (o8 g l hs.ne)
  ·obtain⟨n3,rfl⟩:∃m,n2=m+1:=(n2 - 1,by have:=fB t;lia)
   rw[c39];exact BR (zO f d c r)
  ·let(k,L,M):=iF f.nh d a B;have:=iE L;have:=b7 k M;lia
  ·have N:=eF _ _ d;have:=f.sz;unfold Fd.len at N;lia
 exact jx (bp (aF t) (bP g (aI aO ps) (bp z (bP l rfl rfl)) ((o7 z).trans (o8 g l hs.ne)))) (RG (aa (af (Iq rfl) rfl) (aa (af (J rfl) rfl) (aV (aj rfl (q _ 0 1 rfl rfl)))))) rfl rfl (aI bI _)
theorem yz{p:Pa}(h:p.nh=true):fit p (.pick a b c)=none:=by cases p<;>first|rfl|cases h
theorem zW(k:Nat):ov k<=3:=by unfold ov;split<;>lia
theorem uZ(hs:So ps)(a b c:Tr)(x y z:Bs)(t:WY dl ps a x)(hy:WY dl ps b y)(u:WY dl ps c z):WY dl ps (.pick a b c) (bL x y z):=by
 let(l,J,L,v):=t;let(m,w,M,B):=hy;let(p,E,N,G):=u;have O:=zW (y.1+ov z.1);have Q:=zW z.1;have H:(bL x y z).2.2.length=x.2.2.length+ov (y.1+ov z.1)+y.2.2.length+ov z.1+z.2.2.length:=by simp[bL,bX];lia
 have f:=iY x y z l m p;refine(f,by rw[H];simp only[bL];lia,by simp only[Tr.cnt];lia,λg n r S i j d e=>?_);simp only[Tr.cnt,Tr.dep]at g r;let(n1,rfl,I):=oS (k:=2*max a.dep (max b.dep c.dep)+9) (by lia:_<=n);let(n2,rfl,r):=oS (k:=2*max a.dep (max b.dep c.dep)+8) I;rw[c54]
 have q:∀(S:Rm)(i j:Nat),RL S i= ↑(ps.map Rn)->RL S j=some []->cN dl (n2+1) 52 [tR (.pick a b c),⇑i,(bL x y z).2.1,⇑j] S=XO (bL x y z).2.2 S:=λS i j d e=>by rw[c52];exact zk (v ⋯ n2 ⋯) (B ⋯ n2 ⋯) (G ⋯ n2 ⋯) l m p (f46 ⋯) w E ⋯ d e (o8 d e hs.ne)
 exact jx (bp (aF _) (bP d (aI aO ps) (bp f (bP e rfl rfl)) ((o7 f).trans (o8 d e hs.ne)))) (RG (aa (af rfl rfl) (bC (aP rfl (aV (aj rfl (q _ 0 1 rfl rfl))))))) rfl rfl (aI bI _)
theorem uY(hs:So ps)(n:Nat)(t:Tr)(b:Bs)(e:best ps n t= ↑b):WY dl ps t b :=
 iy (λt w bs d h=>vb hs t w bs d (λa b c z=>by subst z;let(g,f):=eX d;rw[yz (TH (hs.all _ g)).nh]at f;cases f) h) (uZ hs) n t b e
noncomputable def Ie(b:Option Bs)(S:Rm):Res A:=match b with
 |some b=>XO (b.2.2++[0]) S
 |none=>.exc 9 S
structure WZ(t:Tr):Prop where
 ok:t.ok
 dep:t.dep<=4
 cnt:t.cnt<=40
theorem f55(f:17<=n)(hs:So ps)(a:WZ t)(d:RL S i= ↑(ps.map Rn)):cN dl n 55 [tR t,⇑i] S=Ie (best ps 20 t) S:=by
 let(n,rfl,j):=oS f;have e:=a.cnt;have k:=a.dep;rw[c55];have q:=f50 (dl:=dl) (n:=n) (S:=Ss ps) (i:=0) ⋯ hs e ⋯ rfl
 cases z:best ps 20 t with
 |none =>rw[z]at q;exact De (bp (aF t) (bP d (aI aO ps) fN)) (rL (mE (JU (aj rfl q))))
 |some b =>rw[z]at q;let(_,_,m,g):=uY (dl:=dl) hs 20 t b z;have l:=g e n ⋯ (2,[(1,.lst []),(0,.RK (ps.map Rn))]) 0 1 rfl rfl;show ax _ _ _=XO (b.2.2++[0]) S;refine jx (F:=jj (cN dl n)) (i:=4) (xs:=(b.2.2++[0]).map nA) (bp (aF t) (bP d (aI aO ps) fN)) (RG (aa (l7 (aj rfl q) rfl) (aV (RB (aj rfl l) rfl (pX (xs:=b.2.2.map nA) (ys:=[nA 0]) rfl rfl (by simp;lia)))))) rfl ?_ (aI bI _);rw[NY];rfl
theorem f56(f:18<=n)(hs:So ps)(a:WZ t)(d:RL S i= ↑(ps.map Rn)):cN dl n 56 [tR t,⇑i] S=Ie (best ps 20 t) S:=by
 let(n,rfl,j):=oS f;have g:=a.cnt;have k:=a.dep;obtain⟨m,rfl⟩:∃m,n=m+14:=(n - 14,⋯)
 rw[c56];have q:=f55 (dl:=dl) (n:=m+14) (S:=Ss ps) (i:=0) ⋯ hs a rfl;have t1:=iR (dl:=dl) (n:=m+10) (S:=Ss ps) a.ok ⋯ g;have e:=gj (dl:=dl) (n:=m) (S:=Ss ps) (i:=0) hs rfl
 cases z:best ps 20 t with
 |none =>rw[z]at q;exact De (bp (aF t) (bP d (aI aO ps) fN)) (rL (aa (TY t1) (aa (TY e) (lP (aj rfl q)))))
 |some b =>rw[z]at q;show ax _ _ _=XO (b.2.2++[0]) S;exact jx (F:=yk (cN dl (m+14))) (i:=1) (bp (aF t) (bP d (aI aO ps) fN)) (RG (aa (TY t1) (aa (TY e) (aV (aj rfl q))))) rfl rfl (aI bI _)
end My
namespace My
open EV
noncomputable def Sm(code args:List Nat)(p:Nat)(a:List Nat)(e:Bool):Rm:=(5,[(4,.lst []),(3,.lst (a.map nA)),(2,.obj 0 [(9,⇑0),(10,.tup (args.map nA)),(11,nA 10),(12,⇑3),(13,nA p),(14,⇑4),(15,.bl e)]),(1,.lst []),(0,.RK (code.map nA))])
theorem gSm(d:aQ x=true):ie 5 (.ok x (Sm code args p a e))=.ok x (Sm code args p a e):=by
 have h:cP 5 (Sm code args p a e).cs=true:=by refine(bB rfl (bB (aI bI _) ?_).1).1;refine(Nt _ _).mpr (?_,(bB rfl (bB (aI bI _) rfl).2).1);show(oO 5 (.tup (args.map nA))&&true)=true;rw[show oO 5 (.tup (args.map nA))=true from qX (aI bI _)];rfl
 unfold ie jZ;simp only[oP x d,h];rfl
theorem Vr(h:F d (Sm code args p f e)=.ok x (Sm code args g a i))(j:aQ x=true:=by rfl):aM F d (Sm code args p f e)=.ok x (Sm code args g a i):=by unfold aM;rw[h];exact gSm j
theorem Br:Sm code args p (a++[v]) e=(5,[(4,.lst []),(3,.lst (a.map nA++[nA v])),(2,.obj 0 [(9,⇑0),(10,.tup (args.map nA)),(11,nA 10),(12,⇑3),(13,nA p),(14,⇑4),(15,.bl e)]),(1,.lst []),(0,.RK (code.map nA))]):=by simp[Sm]
theorem jY(h:c d S=.ok v e)(k:a d e=r)(f:v=true:=by rfl):T4 c a b d S=r:=by subst f;unfold T4 Res.b;rw[h];exact k
theorem kF(h:c d S=.ok v e)(k:b d e=r)(f:v=false:=by rfl):T4 c a b d S=r:=by subst f;unfold T4 Res.b;rw[h];exact k
theorem eT(h:a≠b):Nat.beq a b=false:=by
 cases q:Nat.beq a b with
 |true=>exact absurd (NJ q) h
 |false=>rfl
section
theorem Dv:aM (dS P) [⇑2] (Sm code args p (a++[v]) false)=.ok (nA v) (Sm code args p a false):=by
 have h1:tV (bc 0 12 1.0) [↑⇑2] (Sm code args p (a++[v]) false)=.ok true (Sm code args p (a++[v]) false):=by show ob ↑(Xx ((a++[v]).map nA)) _=_;rw[NY];cases a.map nA<;>rfl
 have d:lg ⇑3 (Sm code args p (a++[v]) false)=.ok (nA v) (Sm code args p a false):=II (xs:=a.map nA) (by show ↑(C.lst ((a++[v]).map nA))=_;rw[NY];rfl);exact Vr (RG (aa (af (tnt h1) rfl) (aV (Sb (u:=lg) (x:= ⇑3) (S':=Sm code args p (a++[v]) false) rfl d))))
theorem CT{a:List Nat}(h:a.length<64):aM (dR P) [⇑2,nA i] (Sm code args p a false)=.ok .Ro (Sm code args p (a++[i%10]) false):=by refine Vr ?_;rw[Br];exact gm (aa (af (RY (RB (Sb rfl (er (k:=a.length) rfl (by simp))) rfl rfl)) rfl (eT ⋯)) (eZ (i:=3) (S:=Sm code args p a false) (x:=nA (i%10)) (xs:=a.map nA) rfl rfl rfl (by simp;lia)))
noncomputable def U7:Op->Nat->Nat->Nat
 | .add,a,b=>(a+b)%10
 | .sub,a,b=>(a+10 - b)%10
 | .mul,a,b=>(a*b)%10
 | .less,a,b=>if a<b then 1 else 0
theorem zS(o:Op)(a b:Nat):U7 o a b<10:=by cases o<;>simp only[U7]<;>first|lia | (split<;>lia)
theorem JF(d:b<10):(Int.ofNat a - Int.ofNat b)%Int.ofNat 10=Int.ofNat ((a+10 - b)%10):=by simp only[Pp];lia
theorem BD{o:Op}(e:a<10)(d:b<10):dF P [.str o.s,nA a,nA b,nA 10] S=.ok (nA (U7 o a b)) S:=by
 cases o with
 |add=>rfl
 |sub=>exact RG (aa (af rfl rfl) (aa (af rfl rfl) (bC (aP rfl (aV (RB (RB rfl rfl rfl) rfl (by show Res.ok (A.int ((Int.ofNat a - Int.ofNat b)%Int.ofNat 10)) S=_;rw[JF d];rfl)))))))
 |mul =>refine RG (aa (af rfl rfl) (aa (af rfl rfl) (aa (af rfl rfl) (aV (RB (x:=nA (a*b)) (S':=S) (RB rfl rfl ?_) rfl rfl)))));show gB (Nat.ble a 99999999) (gB (Nat.ble b 99999999) _)=_;rw[NP ⋯,NP ⋯];rfl
 |less =>
  show _=Res.ok (nA (if a<b then 1 else 0)) S;by_cases h:a<b
  ·rw[NL h];exact RG (bC (aP rfl (aV (jY (RY (RB rfl rfl rfl)) rfl (NZ nb (gM h))))))
  ·rw[NH h];exact RG (bC (aP rfl (aV (kF (RY (RB rfl rfl rfl)) rfl (NZ nb (cv ⋯))))))
end
end My
namespace My
open EV
variable{P:RC}
theorem HA(h:i<=n):TU n (nA i)= ↑i:=by show ↑(match Nat.ble i n with|true=>i|false=>n)=_;rw[NP h]
theorem sl_(d:Rv S x= ↑a)(h1:l<=a.length)(e:h<=a.length)(hl:((a.drop l).take (h - l)).length<=900):Dp x (nA l) (nA h) S=.ok ⇑S.nx (S.nx+1,(S.nx,.lst ((a.drop l).take (h - l)))::S.cs):=by unfold Dp;simp only[rO,gB,d,HA h1,HA e,new,bj hl,aL,b8]
theorem Kt(d:e a S=.ok ⇑i S)(h1:lo a S=.ok (nA l) S)(f:g a S=.ok (nA h) S)(k:Dp ⇑i (nA l) (nA h) S=r):Zo e lo g a S=r:=by unfold Zo Res.b;simp only[rO,gB,d,h1,f];exact k
theorem ET(f:RL S i= ↑((pre++(a::bs++post)).map nA))(g:a<=16)(j:∀S,Rp aU (nA a) S=.ok (.tup [.str nm,nA bs.length]) S)(m:bs.length<=2)(hl:(pre++(a::bs++post)).length<=900) :
  ax (cY P) [⇑i,nA pre.length] S=.ok (.tup [.str nm,.tup (bs.map nA)]) S:=by
 let d:Rm:=(1,[(0,.RK ((pre++(a::bs++post)).map nA))])
 have len:((pre++(a::bs++post)).map nA).length=pre.length+1+bs.length+post.length:=by simp;lia
 have get:∀e:Env,e[0]?= ↑(some ⇑0)->e[1]?= ↑(some (nA pre.length))->cO Rp 1.0 1.1 e d=.ok (nA a) d:=λe h0 h1=>by refine RB (x:= ⇑0) (y:=nA pre.length) (S':=d) (S2:=d) (by unfold cV;rw[h0]) (by unfold cV;rw[h1]) ?_;show ob (((pre++(a::bs++post)).map nA)[pre.length]?) d=_;rw[NQ,N5 (Nu _)];simp[ob,rO]
 have cut:(((pre++(a::bs++post)).map nA).drop (pre.length+1)).take (pre.length+1+bs.length - (pre.length+1))=bs.map nA:=by rw[show pre.length+1+bs.length - (pre.length+1)=bs.length by lia,NY,List.drop_append,List.drop_eq_nil_of_le (by simp)];simp[List.take_left']
 have c1:Tf (Rq (cO YD 1.1 (cU aX 1.0))) (Rq (cO YD (cO Rp 1.0 1.1) (cU aX (cC aU)))) [↑⇑0,↑(nA pre.length),none,none,none] d=.ok false d :=
  wW (RY (RB rfl (Sb rfl (er rfl rfl)) rfl)) (RY (RB (get _ rfl rfl) rfl rfl)) (gM ⋯) (gM (show a<17 by lia))
 refine TJ (bP f (aI bI _) (bp rfl fN)) (RG (aa (af c1 rfl) (aa (l7 (RB rfl (get _ rfl rfl) (j _)) rfl) (aa (aW (x:=.tup (bs.map nA)) (Sb (u:=ir) (Kt rfl rfl rfl (sl_ (l:=pre.length+1) (h:=pre.length+1+bs.length) rfl ⋯ ⋯ (by rw[cut];simp;lia))) (by rw[cut];rfl))) (aa (af (RY (RB (Sb rfl (er (k:=bs.length) rfl (by simp))) rfl rfl)) rfl (NZ nb (cv (Nu _)))) rfl))))) ?_;show(ba (bs.map nA)&&true)=true;rw[aI bI];rfl
noncomputable def jA:List Nat->Nat
 |[a]=>a
 |[a,b]=>b*100+a
 |_=>0
theorem JP:ax (b6 P) [.tup []] S=.ok (nA 0) S:=rfl
theorem JQ:ax (b6 P) [.tup [nA a]] S=.ok (nA a) S:=by refine TJ (bp rfl fN) (RG (aa rfl (aa (iH rfl (fD rfl (aW (RB rfl rfl (r:=.ok (nA a) (0,[])) ?_)) rfl)) rfl))) rfl;show Res.ok (A.int (Int.ofNat (0*100+a))) _=_;rw[Nat.zero_mul,QO];rfl
theorem JR(e:b<=99):ax (b6 P) [.tup [nA a,nA b]] S=.ok (nA (b*100+a)) S:=by
 have h1:cO bg (cO tY 1.1 2.100) 1.2 [↑(.tup [nA a,nA b]),↑(nA 0),↑(nA b)] (0,[])=.ok (nA b) (0,[]):=by refine RB rfl rfl (r:=.ok (nA b) (0,[])) ?_;show Res.ok (A.int (Int.ofNat (0*100+b))) _=_;rw[Nat.zero_mul,QO]
 have d:tY (nA b) (nA 100) (0,[])=.ok (nA (b*100)) (0,[]):=by show gB (Nat.ble b 99999999) (gB (Nat.ble 100 99999999) _)=_;rw[NP ⋯];rfl
 exact TJ (bp rfl fN) (RG (aa rfl (aa (iH rfl (fD rfl (aW h1) (fD rfl (aW (RB (RB rfl rfl d) rfl rfl)) rfl))) rfl))) rfl
section
variable{code args σ:List Nat}{p:Nat}
noncomputable abbrev YO(P:RC)(code args:List Nat):Prop:=∀(p:Nat)(σ:List Nat)(v:Nat),P 16 [⇑2] (Sm code args p (σ++[v]) false)=.ok (nA v) (Sm code args p σ false)
noncomputable abbrev XQ(P:RC)(code args:List Nat):Prop:=∀(p:Nat)(σ:List Nat)(i:Nat),σ.length<64->P 17 [⇑2,nA i] (Sm code args p σ false)=.ok .Ro (Sm code args p (σ++[i%10]) false)
noncomputable abbrev hBo(P:RC):Prop:=∀(o:Op)(a b:Nat)(S:Rm),a<10->b<10->P 8 [.str o.s,nA a,nA b,nA 10] S=.ok (nA (U7 o a b)) S
theorem UB(d:o a S=.ok x S)(e:T7 S k x= ↑q)(g:look i q.2=none)(h:j a S=.ok l m)(f:F (x::l) m=r):aJ k i F o j a S=r:=by unfold aJ Res.b;simp only[rO,gB,d,e,g,h];exact f
theorem Ez(a:XQ P code args)(h:σ.length<64):aM (aK P) [⇑2,.str 22,nA i] (Sm code args p σ false)=.ok .Ro (Sm code args p (σ++[i%10]) false) :=
 Vr (RG (bC (aP rfl (aa (TY (UB rfl rfl rfl rfl (a p σ i h))) rfl))))
theorem Ey(a:XQ P code args)(h:σ.length<64):aM (aK P) [⇑2,.str 23,nA i] (Sm code args p σ false)=.ok .Ro (Sm code args p (σ++[i%10]) false) :=
 Vr (RG (bC (aP rfl (aa (TY (UB rfl rfl rfl rfl (a p σ i h))) rfl))))
theorem BF(a:XQ P code args)(h:σ.length<64)(d:args[i]?= ↑v)(e:v<10):aM (aK P) [⇑2,.str 25,nA i] (Sm code args p σ false)=.ok .Ro (Sm code args p (σ++[v]) false):=by have q:=a p σ v h;rw[P1 e]at q;exact Vr (RG (aa (af rfl rfl) (bC (aP rfl (aa (TY (UB rfl rfl rfl (RI (RB rfl rfl (by show ob ((args.map nA)[i]?) _=_;rw[NQ,d];rfl)) rfl) q)) rfl)))))
theorem BG(a:XQ P code args)(d:YO P code args)(h:σ.length<64):aM (aK P) [⇑2,.str 26,nA i] (Sm code args p (σ++[v]) false)=.ok .Ro (Sm code args p (σ++[(v+i)%10]) false) :=
 Vr (gm (aa (af rfl rfl) (aa (af rfl rfl) (aa (aW (UB rfl rfl rfl rfl (d p σ v))) (aP rfl (TY (UB rfl rfl rfl rfl (a p σ (v+i) h))))))))
theorem ye(a:XQ P code args)(f:YO P code args)(h:σ.length<63)(g:v<10):aM (aK P) [⇑2,.str 27,nA i] (Sm code args p (σ++[v]) false)=.ok .Ro (Sm code args p (σ++[v]++[v]) false):=by have d:=a p σ v ⋯;have e:=a p (σ++[v]) v (by simp;lia);rw[P1 g]at d e;exact Vr (gm (aa (af rfl rfl) (aa (af rfl rfl) (aa (aW (UB rfl rfl rfl rfl (f p σ v))) (af rfl (aP rfl (aa (TY (UB rfl rfl rfl rfl d)) (TY (UB rfl rfl rfl rfl e)))))))))
theorem yc(a:XQ P code args)(d:YO P code args)(h:σ.length<63)(g:u<10)(j:v<10):aM (aK P) [⇑2,.str 28,nA i] (Sm code args p (σ++[u]++[v]) false)=.ok .Ro (Sm code args p (σ++[v]++[u]) false):=by have e:=a p σ v ⋯;have f:=a p (σ++[v]) u (by simp;lia);rw[P1 j]at e;rw[P1 g]at f;exact Vr (gm (aa (af rfl rfl) (aa (af rfl rfl) (aa (aW (UB rfl rfl rfl rfl (d p (σ++[u]) v))) (af rfl (af rfl (aP rfl (aa (aW (UB rfl rfl rfl rfl (d p σ u))) (aa (TY (UB rfl rfl rfl rfl e)) (TY (UB rfl rfl rfl rfl f)))))))))))
theorem nU{o:Op}(d:XQ P code args)(a:YO P code args)(e:hBo P)(h:σ.length<64)(f:u<10)(g:v<10):aM (aK P) [⇑2,.str o.s,nA i] (Sm code args p (σ++[u]++[v]) false)=.ok .Ro (Sm code args p (σ++[U7 o u v]) false):=by have q:=d p σ (U7 o u v) h;rw[P1 (zS o u v)]at q;have b:=e o u v (Sm code args p σ false) f g;cases o<;>exact Vr (gm (aa (af rfl rfl) (aa (af rfl rfl) (aa (aW (UB rfl rfl rfl rfl (a p (σ++[u]) v))) (af rfl (af rfl (af rfl (TY (UB rfl rfl rfl (RI (aj (RI rfl (RI (UB rfl rfl rfl rfl (a p σ u)) rfl)) b) rfl) q)))))))))
end
noncomputable def wN(nm k:Nat):Nat:=match look nm bx with
 |some (.int (.ofNat j))=>j
 |_=>k
theorem yG(h1:a[1]?= ↑(some (.str nm)))(d:a[3]?= ↑(some (nA k))):mP bx 1.1 1.3 a S=.ok (nA (wN nm k)) S:=by unfold mP cV Res.b wN;simp only[h1,d,bx,look,rO,Um,SD];cases Nat.beq 25 nm<;>cases Nat.beq 16 nm<;>cases Nat.beq 18 nm<;>rfl
noncomputable def qS(nm:Nat):Bool:=aG nm [16,17,18,19,21,69]
theorem Hk(h1:a[1]?= ↑(some (.str nm))):Rq (cO UQ 1.1 (cC sP)) a S=.ok (qS nm) S:=by unfold Rq cO cV Res.b;simp only[h1];rfl
noncomputable abbrev hIn(P:RC)(code:List Nat):Prop:=∀(pre bs post:List Nat)(a nm:Nat)(S:Rm),code=pre++(a::bs++post)->a<=16->(∀S,Rp aU (nA a) S=.ok (.tup [.str nm,nA bs.length]) S)->bs.length<=2->RL S 0= ↑(code.map nA)->P 13 [⇑0,nA pre.length] S=.ok (.tup [.str nm,.tup (bs.map nA)]) S
noncomputable abbrev hTl(P:RC):Prop:=∀(bs:List Nat)(S:Rm),bs.length<=2->(∀b∈bs,b<=99)->P 14 [.tup (bs.map nA)] S=.ok (nA (jA bs)) S
section
theorem JE(g:hIn P code)(i:hTl P)(j:code=pre++(a::bs++post))(l:a<=16)(m:∀S,Rp aU (nA a) S=.ok (.tup [.str nm,nA bs.length]) S)(e:bs.length<=2)(p:∀b∈bs,b<=99)(hl:jA bs<=wN nm (jA bs))(r:qS nm=false)(t:Nat.beq nm 30=false)
  (h:P 20 [⇑2,.str nm,nA (jA bs)] (Sm code args pre.length f false)=.ok .Ro (Sm code args pre.length d false)) :
  aM (bU P) [⇑2] (Sm code args pre.length f false)=.ok .Ro (Sm code args (pre.length+(a::bs).length) d false):=by
 have q:=g pre bs post a nm (Sm code args pre.length f false) j l m e rfl;rw[show pre.length+(a::bs).length=pre.length+1+bs.length by simp;lia];exact Vr (gm (aa (l7 (aj rfl q) rfl) (aa (aW (aj rfl (i bs _ e p))) (aa (af (RY (RB rfl (yG rfl rfl) rfl)) rfl (NZ nb (cv hl))) (aa (aW (RB rfl (Sb rfl (er (k:=bs.length) rfl (by simp))) rfl)) (aa (af (Hk rfl) (af rfl (TY (UB rfl rfl rfl rfl h)) t) r) rfl))))))
theorem GV(g:hIn P code)(i:hTl P)(j:code=pre++(a::bs++post))(l:a<=16)(m:∀S,Rp aU (nA a) S=.ok (.tup [.str nm,nA bs.length]) S)(e:bs.length<=2)(p:∀b∈bs,b<=99)(hl:jA bs<=wN nm (jA bs))(r:qS nm=true)
  (h:P 18 [⇑2,.str nm,nA (jA bs),nA (pre.length+1+bs.length)] (Sm code args pre.length f false)=.ok (nA q) (Sm code args pre.length d false)) :
  aM (bU P) [⇑2] (Sm code args pre.length f false)=.ok .Ro (Sm code args q d false):=by
 have z:=g pre bs post a nm (Sm code args pre.length f false) j l m e rfl;exact Vr (gm (aa (l7 (aj rfl z) rfl) (aa (aW (aj rfl (i bs _ e p))) (aa (af (RY (RB rfl (yG rfl rfl) rfl)) rfl (NZ nb (cv hl))) (aa (aW (RB rfl (Sb rfl (er (k:=bs.length) rfl (by simp))) rfl)) (aa (aP (Hk rfl) (aW (UB rfl rfl rfl rfl h)) r) rfl))))))
theorem GU(a:hIn P code)(d:hTl P)(e:code=pre++(0::post))(h:P 19 [⇑2] (Sm code args pre.length [v] false)=.ok .Ro (Sm code args pre.length [v] true)) :
  aM (bU P) [⇑2] (Sm code args pre.length [v] false)=.ok .Ro (Sm code args (pre.length+1) [v] true):=by
 have z:=a pre [] post 0 30 (Sm code args pre.length [v] false) e ⋯ (λ_=>rfl) (by simp) rfl;exact Vr (gm (aa (l7 (aj rfl z) rfl) (aa (aW (aj rfl (d [] _ (by simp) (by simp)))) (aa (af (RY (RB rfl (yG rfl rfl) rfl)) rfl (NZ nb (cv (Nu _)))) (aa rfl (aa (af (Hk rfl) (aP rfl (TY (UB rfl rfl rfl rfl h)))) rfl))))))
theorem EG:aM (cQ P) [⇑2] (Sm code args p [v] false)=.ok .Ro (Sm code args p [v] true):=Vr rfl
theorem Bj(h:nm=16\/nm=17):aM (bZ P) [⇑2,.str nm,nA k,nA a] (Sm code args p d false)=.ok (nA (a+k)) (Sm code args p d false):=by rcases h with rfl|rfl<;>exact Vr rfl
theorem Bk(f:YO P code args)(h:nm=18\/nm=19):aM (bZ P) [⇑2,.str nm,nA k,nA e] (Sm code args p (a++[v]) false)=.ok (nA (if v=0 then e+k else e)) (Sm code args p a false):=by
 have c:Rq (cO oEq (aJ 0 20 (P 16) 1.0 aN) 2.0) [↑⇑2,↑(.str nm),↑(nA k),↑(nA e)] (Sm code args p (a++[v]) false)=.ok (Nat.beq v 0) (Sm code args p a false):=RY (RB (UB rfl rfl rfl rfl (f p a v)) rfl rfl);by_cases d:v=0
 ·rw[NL d];rcases h with rfl|rfl<;>exact Vr (RG (aa (af rfl rfl) (bC (aP rfl (aV (jY c rfl (by rw[d];rfl)))))))
 ·rw[NH d];rcases h with rfl|rfl<;>exact Vr (RG (aa (af rfl rfl) (bC (aP rfl (aV (kF c rfl (eT d)))))))
end
end My
namespace My
open EV
variable{dl:Dl}
theorem Xu(a:1<=n):YO (cN dl n) code args:=λp d v=>by
 obtain⟨m,rfl⟩:∃m,n=m+1:=(n - 1,⋯)
 rw[c16];exact Dv
theorem W0(a:1<=n):XQ (cN dl n) code args:=λp d i h=>by
 obtain⟨m,rfl⟩:∃m,n=m+1:=(n - 1,⋯)
 rw[c17];exact CT h
theorem f8(f:1<=n):hBo (cN dl n):=λo a b S d e=>by
 obtain⟨m,rfl⟩:∃m,n=m+1:=(n - 1,⋯)
 rw[c8];exact BD d e
theorem f13{code:List Nat}(i:1<=n)(hl:code.length<=900):hIn (cN dl n) code:=λpre bs post j nm S a d e f g=>by
 obtain⟨m,rfl⟩:∃m,n=m+1:=(n - 1,⋯)
 subst a;rw[c13];exact ET g d e f hl
theorem f14(f:1<=n):hTl (cN dl n):=λbs S e d=>by
 obtain⟨m,rfl⟩:∃m,n=m+1:=(n - 1,⋯)
 rw[c14]
 match bs,e,d with
 |[],_,_=>exact JP
 |[a],_,_=>exact JQ
 |[a,b],_,d=>exact JR (d b (by simp))
noncomputable def StM(dl:Dl)(code args:List Nat)(s a:Nat×List Nat):Prop:=∀n,3<=n->cN dl n 21 [⇑2] (Sm code args s.1 s.2 false)=.ok .Ro (Sm code args a.1 a.2 false)
inductive Go(dl:Dl)(code args:List Nat):Nat->Nat×List Nat->Nat×List Nat->Prop
 |nil {s:Nat×List Nat}:Go dl code args 0 s s
 |cons {s t u:Nat×List Nat} {k:Nat}:StM dl code args s t->Go dl code args k t u->Go dl code args (k+1) s u
theorem Go.trans(h:Go dl code args j s t)(g:Go dl code args k t u):Go dl code args (k+j) s u:=by
 induction h with
 |nil=>exact g
 |cons a _ d=>exact .cons a (d g)
section
theorem eQ{code:List Nat}(hl:code.length<=900)(f:code=pre++(a::bs++post))(g:∀S,Rp aU (nA a) S=.ok (.tup [.str nm,nA bs.length]) S)(h:∀n,1<=n->aM (aK (cN dl n)) [⇑2,.str nm,nA (jA bs)] (Sm code args pre.length i false)=.ok .Ro (Sm code args pre.length d false))(j:∀b∈bs,b<=99)(e:jA bs<=wN nm (jA bs))(k:a<=16:=by decide)(l:bs.length<=2:=by simp)(p:qS nm=false:=by rfl)(q:Nat.beq nm 30=false:=by rfl) :
  Go dl code args 1 (pre.length,i) (pre.length+(a::bs).length,d):=.cons (λn r=>by
 obtain⟨m,rfl⟩:∃m,n=m+2:=(n - 2,⋯)
 rw[c21];exact JE (f13 ⋯ hl) (f14 ⋯) f k g l j e p q (by rw[c20];exact h m ⋯)) .nil
theorem EM{code d:List Nat}(hl:code.length<=900)(e:code=pre++([1,a]++post))(f:a<=99)(h:d.length<64):Go dl code args 1 (pre.length,d) (pre.length+2,d++[a%10]):=eQ (bs:=[a]) (nm:=22) hl e (λ_=>rfl) (λn g=>Ez (W0 g) h) (by simpa using f) (Nu _)
theorem EL{code d:List Nat}(hl:code.length<=900)(e:code=pre++([2,a,b]++post))(g:a<=99)(i:b<=99)(h:d.length<64):Go dl code args 1 (pre.length,d) (pre.length+3,d++[(b*100+a)%10]):=eQ (bs:=[a,b]) (nm:=23) hl e (λ_=>rfl) (λn f=>Ey (W0 f) h) (by simp;lia) (Nu _)
theorem BV{code a:List Nat}(hl:code.length<=900)(d:code=pre++([3,k]++post))(hk:k<=3)(e:args[k]?= ↑v)(f:v<10)(h:a.length<64):Go dl code args 1 (pre.length,a) (pre.length+2,a++[v]):=eQ (bs:=[k]) (nm:=25) hl d (λ_=>rfl) (λn g=>BF (W0 g) h e f) (by simp;lia) hk
theorem BW{code d:List Nat}(hl:code.length<=900)(f:code=pre++([12,a]++post))(g:a<=99)(h:d.length<64):Go dl code args 1 (pre.length,d++[v]) (pre.length+2,d++[(v+a)%10]):=eQ (bs:=[a]) (nm:=26) hl f (λ_=>rfl) (λn e=>BG (W0 e) (Xu e) h) (by simpa using g) (Nu _)
theorem yJ{code a:List Nat}(hl:code.length<=900)(e:code=pre++([13]++post))(h:a.length<63)(f:v<10):Go dl code args 1 (pre.length,a++[v]) (pre.length+1,a++[v]++[v]):=eQ (bs:=[]) (nm:=27) hl e (λ_=>rfl) (λn d=>ye (W0 d) (Xu d) h f) (by simp) (Nu _)
theorem yI{code a:List Nat}(hl:code.length<=900)(e:code=pre++([14]++post))(h:a.length<63)(f:u<10)(g:v<10):Go dl code args 1 (pre.length,a++[u]++[v]) (pre.length+1,a++[v]++[u]):=eQ (bs:=[]) (nm:=28) hl e (λ_=>rfl) (λn d=>yc (W0 d) (Xu d) h f g) (by simp) (Nu _)
noncomputable def Op.c:Op->Nat
 | .add=>4
 | .sub=>5
 | .mul=>6
 | .less=>7
theorem EN{code g:List Nat}{o:Op}(hl:code.length<=900)(d:code=pre++([o.c]++post))(h:g.length<64)(e:u<10)(f:v<10):Go dl code args 1 (pre.length,g++[u]++[v]) (pre.length+1,g++[U7 o u v]):=by
 cases o
 ·exact eQ (bs:=[]) (nm:=4) hl d (λ_=>rfl) (λn a=>nU (o:=.add) (W0 a) (Xu a) (f8 a) h e f) (by simp) (Nu _)
 ·exact eQ (bs:=[]) (nm:=5) hl d (λ_=>rfl) (λn a=>nU (o:=.sub) (W0 a) (Xu a) (f8 a) h e f) (by simp) (Nu _)
 ·exact eQ (bs:=[]) (nm:=53) hl d (λ_=>rfl) (λn a=>nU (o:=.mul) (W0 a) (Xu a) (f8 a) h e f) (by simp) (Nu _)
 ·exact eQ (bs:=[]) (nm:=3) hl d (λ_=>rfl) (λn a=>nU (o:=.less) (W0 a) (Xu a) (f8 a) h e f) (by simp) (Nu _)
theorem oC{code:List Nat}(hl:code.length<=900)(e:code=pre++(d::bs++post))(f:∀S,Rp aU (nA d) S=.ok (.tup [.str nm,nA bs.length]) S)(h:∀n,1<=n->aM (bZ (cN dl n)) [⇑2,.str nm,nA (jA bs),nA (pre.length+1+bs.length)] (Sm code args pre.length σ false)=.ok (nA q) (Sm code args pre.length σ' false))(g:∀b∈bs,b<=99)(a:jA bs<=wN nm (jA bs))(i:d<=16:=by decide)(j:bs.length<=2:=by simp)(k:qS nm=true:=by rfl) :
  Go dl code args 1 (pre.length,σ) (q,σ'):=.cons (λn l=>by
 obtain⟨m,rfl⟩:∃m,n=m+2:=(n - 2,⋯)
 rw[c21];exact GV (f13 ⋯ hl) (f14 ⋯) e i f j g a k (by rw[c18];exact h m ⋯)) .nil
theorem BX{code:List Nat}(hl:code.length<=900)(a:code=pre++(jmp 8 9 k++post))(hk:k<=900):Go dl code args 1 (pre.length,σ) (pre.length+ov k+k,σ):=by
 unfold jmp at a;unfold ov;split
 ·rename_i h;rw[NL h]at a;exact oC (bs:=[k]) (nm:=16) hl a (λ_=>rfl) (λn d=>Bj (.inl rfl)) (by simp;lia) h
 ·rename_i h;rw[NH h]at a;have:=oC (dl:=dl) (args:=args) (σ:=σ) (σ':=σ) (bs:=[k%100,k / 100]) (nm:=17) (q:=pre.length+3+k) hl a (λ_=>rfl) (λn d=>by rw[Bj (.inr rfl)];show Res.ok (nA (pre.length+1+2+(k / 100*100+k%100))) _=_;rw[show pre.length+1+2+(k / 100*100+k%100)=pre.length+3+k by lia]) (by simp;lia) (Nu _);exact this
theorem BY{code:List Nat}(hl:code.length<=900)(a:code=pre++(jmp 10 11 k++post))(hk:k<=900):Go dl code args 1 (pre.length,σ++[v]) (pre.length+ov k+(if v=0 then k else 0),σ):=by
 unfold jmp at a;unfold ov;split
 ·rename_i h;rw[NL h]at a;have:=oC (dl:=dl) (args:=args) (σ:=σ++[v]) (σ':=σ) (bs:=[k]) (nm:=18) (q:=pre.length+2+(if v=0 then k else 0)) hl a (λ_=>rfl) (λn d=>by rw[Bk (Xu d) (.inl rfl)];show Res.ok (nA (if v=0 then pre.length+1+1+k else pre.length+1+1)) _=_;rw[show(if v=0 then pre.length+1+1+k else pre.length+1+1)=pre.length+2+(if v=0 then k else 0) by split<;>lia]) (by simp;lia) h;exact this
 ·rename_i h;rw[NH h]at a;have:=oC (dl:=dl) (args:=args) (σ:=σ++[v]) (σ':=σ) (bs:=[k%100,k / 100]) (nm:=19) (q:=pre.length+3+(if v=0 then k else 0)) hl a (λ_=>rfl) (λn d=>by rw[Bk (Xu d) (.inr rfl)];show Res.ok (nA (if v=0 then pre.length+1+2+(k / 100*100+k%100)else pre.length+1+2)) _=_;rw[show(if v=0 then pre.length+1+2+(k / 100*100+k%100)else pre.length+1+2)=pre.length+3+(if v=0 then k else 0) by split<;>lia]) (by simp;lia) (Nu _);exact this
end
noncomputable def aA(args:List Nat):Tr->Nat
 | .num n=>n%10
 | .arg k=>args.getD k 0
 | .two o a b=>U7 o (aA args a) (aA args b)
 | .pick a b c=>if aA args a=0 then aA args c else aA args b
structure Wm(args:List Nat):Prop where
 len:args.length=4
 lt:∀a∈args,a<10
theorem gy(h:Wm args)(hk:k<=3):args[k]?= ↑(args.getD k 0)/\args.getD k 0<10:=by
 have hl:k<args.length:=by rw[h.len];lia
 rw[Of,Nz hl];exact(rfl,h.lt _ (Qt hl))
theorem bN(h:Wm args):∀{t:Tr},t.ok->aA args t<10
 | .num n,_=>Nat.mod_lt _ ⋯
 | .arg k,hk=>(gy h hk).2
 | .two o a b,_=>zS _ _ _
 | .pick a b c,d=>by
  unfold aA;split
  ·exact bN h d.2.2
  ·exact bN h d.2.1
theorem bK(e:fit (.two o a b) t= ↑f):∃x y d g,t=.two o x y/\fit a x= ↑d/\fit b y= ↑g/\f=d.add g:=by
 cases t with
 |two i x y =>
  unfold fit at e;split at e
  ·rename_i h;subst h;let(d,e1,e2):=Oo.mp e;let(g,e3,rfl):=N1.mp e2;exact(x,y,d,g,rfl,e1,e3,rfl)
  ·cases e
 |_=>cases e
theorem dh(e:fit (.gap i m) t= ↑f):∃n,t=.num n/\n<=m/\f=([],[n],[]):=by
 cases t with
 |num n=>unfold fit at e;split at e<;>cases e;exact(n,rfl,‹_›,rfl)
 |_=>cases e
theorem iG(e:fit (.slot i) t= ↑f):∃k,t=.arg k/\f=([],[],[k]):=by
 cases t with
 |arg k=>cases e;exact(k,rfl,rfl)
 |_=>cases e
theorem ox(e:fit (.num n) t= ↑f):t=.num n/\f=([],[],[]):=by
 cases t with
 |num m=>unfold fit at e;split at e<;>cases e;rename_i h;exact(by rw[h],rfl)
 |_=>cases e
noncomputable abbrev Run(dl:Dl)(args:List Nat)(pre a post e d:List Nat):Prop:=∃k,k<=a.length/\Go dl (pre++(a++post)) args k (pre.length,e) (pre.length+a.length,d)
theorem Run.app(h:Run dl args pre a (d++post) i f)(g:Run dl args (pre++a) d post f e):Run dl args pre (a++d) post i e:=by let(j,l,h):=h;let(k,m,g):=g;rw[show pre++(a++(d++post))=pre++(a++d++post) by simp]at h;rw[show pre++a++(d++post)=pre++(a++d++post) by simp,NK]at g;exact(k+j,by simp;lia,by rw[show pre.length+(a++d).length=pre.length+a.length+d.length by simp;lia];exact h.trans g)
section
variable{pre post:List Nat}
noncomputable abbrev SJ(pre a post:List Nat):Prop:=(pre++(a++post)).length<=900
theorem rM{σ:List Nat}(hl:SJ pre [1,a] post)(d:a<=99)(h:σ.length<64):Run dl args pre [1,a] post σ (σ++[a%10]):=(1,by simp,EM hl rfl d h)
theorem DW{σ:List Nat}(hl:SJ pre [2,n%100,n / 100] post)(a:n<=9999)(h:σ.length<64):Run dl args pre [2,n%100,n / 100] post σ (σ++[n%10]):=(1,by simp,by have:=EL (dl:=dl) (args:=args) hl rfl (show n%100<=99 by lia) (show n / 100<=99 by lia) h;rw[show(n / 100*100+n%100)%10=n%10 by lia]at this;exact this)
theorem ui{σ:List Nat}(a:Wm args)(hl:SJ pre [3,k] post)(hk:k<=3)(h:σ.length<64):Run dl args pre [3,k] post σ (σ++[args.getD k 0]):=(1,by simp,BV hl rfl hk (gy a hk).1 (gy a hk).2 h)
theorem uj{σ:List Nat}(hl:SJ pre [12,a] post)(d:a<=99)(h:σ.length<64):Run dl args pre [12,a] post (σ++[v]) (σ++[(v+a)%10]):=(1,by simp,BW hl rfl d h)
theorem Dh{σ:List Nat}(hl:SJ pre [13] post)(h:σ.length<63)(a:v<10):Run dl args pre [13] post (σ++[v]) (σ++[v]++[v]):=(1,by simp,yJ hl rfl h a)
theorem Dg{σ:List Nat}(hl:SJ pre [14] post)(h:σ.length<63)(a:u<10)(d:v<10):Run dl args pre [14] post (σ++[u]++[v]) (σ++[v]++[u]):=(1,by simp,yI hl rfl h a d)
theorem jS{σ:List Nat}{o:Op}(hl:SJ pre [o.c] post)(h:σ.length<64)(a:u<10)(d:v<10):Run dl args pre [o.c] post (σ++[u]++[v]) (σ++[U7 o u v]):=(1,by simp,EN hl rfl h a d)
end
theorem xf{σ:List Nat}(g:Wm args)(B:p∈Uc){t:Tr}(d:t.ok)(e:fit p.pat t= ↑f)(hl:SJ pre (p.cells.map (aR f.2.1 f.2.2)) post)(G:σ.length<60) :
  Run dl args pre (p.cells.map (aR f.2.1 f.2.2)) post (σ++f.1.map (aA args)) (σ++[aA args t]):=by
 have q:∀{o:Op}{x y:Tr},x.ok->y.ok->∀{pre post:List Nat},SJ pre [o.c] post->Run dl args pre [o.c] post (σ++[aA args x,aA args y]) (σ++[aA args (.two o x y)]):=λ{o x y} H hy {pre post} hl=>by have:=jS (dl:=dl) (args:=args) (σ:=σ) (o:=o) hl ⋯ (bN g H) (bN g hy);simpa[aA]using this
 simp only[Uc,VY,Uv,List.cons_append,QY,NB,NU,Ou]at B;rcases B with rfl|rfl|rfl|rfl|rfl|rfl|rfl|rfl|rfl|rfl|rfl|rfl|rfl|rfl|rfl|rfl
 ·let(n,rfl,h1,rfl):=dh e;have:=rM (dl:=dl) (args:=args) (σ:=σ) (pre:=pre) (post:=post) (a:=n%100) hl ⋯ ⋯;rw[show n%100%10=n%10 by lia]at this;simpa[aA,aR]using this
 ·let(n,rfl,h1,rfl):=dh e;have:=DW (dl:=dl) (args:=args) (σ:=σ) hl h1 ⋯;simpa[aA,aR]using this
 ·let(k,rfl,rfl):=iG e;have:=ui (dl:=dl) (σ:=σ) g hl d ⋯;simpa[aA,aR]using this
 ·let(x,y,i,l,rfl,e1,e2,rfl):=bK e;cases e1;cases e2;exact q (o:=.add) d.1 d.2 hl
 ·let(x,y,i,l,rfl,e1,e2,rfl):=bK e;cases e1;cases e2;exact q (o:=.sub) d.1 d.2 hl
 ·let(x,y,i,l,rfl,e1,e2,rfl):=bK e;cases e1;cases e2;exact q (o:=.mul) d.1 d.2 hl
 ·let(x,y,i,l,rfl,e1,e2,rfl):=bK e;cases e1;cases e2;exact q (o:=.less) d.1 d.2 hl
 ·let(x,y,i,l,rfl,e1,e2,rfl):=bK e;cases e1;let(n,rfl,h1,rfl):=dh e2;have:=uj (dl:=dl) (args:=args) (σ:=σ) (pre:=pre) (post:=post) (a:=n%100) (v:=aA args x) hl ⋯ ⋯;rw[show(aA args x+n%100)%10=(aA args x+n%10)%10 by lia]at this;simpa[aA,aR,Fd.add,U7,Op.c]using this
 ·let(x,y,i,l,rfl,e1,e2,rfl):=bK e;cases e1;let(rfl,rfl):=ox e2;have:=uj (dl:=dl) (args:=args) (σ:=σ) (pre:=pre) (post:=post) (a:=1) (v:=aA args x) hl ⋯ ⋯;simpa[aA,aR,Fd.add,U7,Op.c]using this
 ·let(x,y,i,l,rfl,e1,e2,rfl):=bK e;let(j,rfl,rfl):=iG e1;let(k,rfl,rfl):=iG e2;have h1:=ui (dl:=dl) (σ:=σ) (pre:=pre) (post:=[3,k]++([4]++post)) (k:=j) g (by simp[SJ,aR]at hl ⊢;lia) d.1 ⋯;have w:=ui (dl:=dl) (σ:=σ++[args.getD j 0]) (pre:=pre++[3,j]) (post:=[4]++post) (k:=k) g (by simp[SJ,aR]at hl ⊢;lia) d.2 (by simp;lia);have z:=jS (dl:=dl) (args:=args) (σ:=σ) (pre:=pre++([3,j]++[3,k])) (post:=post) (o:=.add) (by simp[SJ,aR]at hl ⊢;lia) ⋯ (gy g d.1).2 (gy g d.2).2;have:=(h1.app w).app z;simpa[aA,aR,Fd.add,U7,Op.c]using this
 ·let(x,y,i,l,rfl,e1,e2,rfl):=bK e;cases e1;let(rfl,rfl):=ox e2;have r:=bN g d.1;have:=(Dh (dl:=dl) (args:=args) (σ:=σ) (pre:=pre) (post:=[4]++post) (v:=aA args x) (by simp[SJ,aR]at hl ⊢;lia) ⋯ r).app (jS (o:=.add) (by simp[SJ,aR]at hl ⊢;lia) ⋯ r r);simp only[U7]at this;rw[show(aA args x+aA args x)%10=aA args x*(2%10)%10 by lia]at this;simpa[aA,aR,Fd.add,U7,Op.c]using this
 ·let(x,y,i,l,rfl,e1,e2,rfl):=bK e;cases e1;let(n,rfl,h1,rfl):=dh e2;have r:=bN g d.1;have:=(rM (dl:=dl) (args:=args) (σ:=σ++[aA args x]) (pre:=pre) (post:=[5]++post) (a:=n%100) (by simp[SJ,aR]at hl ⊢;lia) ⋯ (by simp;lia)).app (jS (o:=.sub) (by simp[SJ,aR]at hl ⊢;lia) ⋯ r ⋯);rw[show n%100%10=n%10 by lia]at this;simpa[aA,aR,Fd.add,Op.c]using this
 ·let(x,y,i,l,rfl,e1,e2,rfl):=bK e;let(u,v,J,L,rfl,e3,I,rfl):=bK e1;cases e3;cases I;let(n,rfl,h1,rfl):=dh e2;have:=(jS (dl:=dl) (args:=args) (σ:=σ) (pre:=pre) (post:=[12,n%100]++post) (o:=.mul) (by simp[SJ,aR]at hl ⊢;lia) ⋯ (bN g d.1.1) (bN g d.1.2)).app (uj (post:=post) (a:=n%100) (by simp[SJ,aR]at hl ⊢;lia) ⋯ ⋯);rw[show(U7 .mul (aA args u) (aA args v)+n%100)%10=(U7 .mul (aA args u) (aA args v)+n%10)%10 by lia]at this;simpa[aA,aR,Fd.add,U7,Op.c]using this
 ·let(x,y,i,l,rfl,e1,e2,rfl):=bK e;cases e2;let(n,rfl,h1,rfl):=dh e1;have E:=bN g d.2;have h1:=rM (dl:=dl) (args:=args) (σ:=σ++[aA args y]) (pre:=pre) (post:=[14]++([7]++post)) (a:=n%100) (by simp[SJ,aR]at hl ⊢;lia) ⋯ (by simp;lia);have w:=Dg (dl:=dl) (args:=args) (σ:=σ) (u:=aA args y) (v:=n%100%10) (pre:=pre++[1,n%100]) (post:=[7]++post) (by simp[SJ,aR]at hl ⊢;lia) ⋯ E ⋯;have z:=jS (dl:=dl) (args:=args) (σ:=σ) (u:=n%100%10) (v:=aA args y) (pre:=pre++([1,n%100]++[14])) (post:=post) (o:=.less) (by simp[SJ,aR]at hl ⊢;lia) ⋯ ⋯ E;have:=(h1.app w).app z;rw[show n%100%10=n%10 by lia]at this;simpa[aA,aR,Fd.add,Op.c]using this
 ·let(x,y,i,l,rfl,e1,e2,rfl):=bK e;cases e1;let(n,rfl,h1,rfl):=dh e2;have r:=bN g d.1;have:=(DW (dl:=dl) (args:=args) (σ:=σ++[aA args x]) (pre:=pre) (post:=[4]++post) (n:=n) (by simp[SJ,aR]at hl ⊢;lia) h1 (by simp;lia)).app (jS (o:=.add) (by simp[SJ,aR]at hl ⊢;lia) ⋯ r ⋯);simpa[aA,aR,Fd.add,Op.c]using this
 ·let(x,y,i,l,rfl,e1,e2,rfl):=bK e;let(n,rfl,h1,rfl):=dh e1;let(m,rfl,w,rfl):=dh e2;have h1:=rM (dl:=dl) (args:=args) (σ:=σ) (pre:=pre) (post:=[1,m%100]++([5]++post)) (a:=n%100) (by simp[SJ,aR]at hl ⊢;lia) ⋯ ⋯;have w:=rM (dl:=dl) (args:=args) (σ:=σ++[n%100%10]) (pre:=pre++[1,n%100]) (post:=[5]++post) (a:=m%100) (by simp[SJ,aR]at hl ⊢;lia) ⋯ (by simp;lia);have z:=jS (dl:=dl) (args:=args) (σ:=σ) (u:=n%100%10) (v:=m%100%10) (pre:=pre++([1,n%100]++[1,m%100])) (post:=post) (o:=.sub) (by simp[SJ,aR]at hl ⊢;lia) ⋯ ⋯ ⋯;have:=(h1.app w).app z;rw[show n%100%10=n%10 by lia,show m%100%10=m%10 by lia]at this;simpa[aA,aR,Fd.add,Op.c]using this
theorem gD:∀{t h:Tr},t.ok->h∈t.parts->h.ok
 | .num _,h,d,hh=>by rw[NI.mp hh];exact d
 | .arg _,h,d,hh=>by rw[NI.mp hh];exact d
 | .two o a b,h,d,hh=>by
  simp only[Tr.parts,NB,NS]at hh;rcases hh with rfl|hh|hh
  ·exact d
  ·exact gD d.1 hh
  ·exact gD d.2 hh
 | .pick a b c,h,d,hh=>by
  simp only[Tr.parts,NB,NS]at hh;rcases hh with rfl | (hh|hh)|hh
  ·exact d
  ·exact gD d.1 hh
  ·exact gD d.2.1 hh
  ·exact gD d.2.2 hh
theorem Ft{t:Tr}(a:t.ok)(hk:k∈t.kids):k.ok:=by
 cases t<;>simp[Tr.kids]at hk
 ·rcases hk with rfl|rfl
  ·exact a.1
  ·exact a.2
 ·rcases hk with rfl|rfl|rfl
  ·exact a.1
  ·exact a.2.1
  ·exact a.2.2
noncomputable def Q2(dl:Dl)(t:Tr)(b:Bs):Prop:=t.ok->t.cnt<=40->(∀c∈b.2.2,c<=99)/\∀args,Wm args->∀pre post a,SJ pre b.2.2 post->a.length+8*t.dep<=58->Run dl args pre b.2.2 post a (a++[aA args t])
theorem m8(g:Wm args):∀{hs:List Tr}{bs:List Bs}(pre e:List Nat),Sq (Q2 dl) hs bs->(∀h∈hs,h.ok/\h.cnt<=40/\h.dep<=d)->SJ pre (bs.flatMap (·.2.2)) post->e.length+hs.length+8*d<=58->Run dl args pre (bs.flatMap (·.2.2)) post e (e++hs.map (aA args))
 |_,_,pre,e,.nil,_,_,_=>(0,by simp,by simpa using Go.nil)
 |_,_,pre,e,.cons (a:=h) (b:=b) (as:=hs) (bs:=bs) q r,ok,hl,f=>by let(h1,i,m):=ok h (.head _);rw[N6]at f;rw[Qm]at hl ⊢;have j:=(q h1 i).2 args g pre (bs.flatMap (·.2.2)++post) e (by simp[SJ]at hl ⊢;lia) ⋯;have k:=m8 g (post:=post) (pre++b.2.2) (e++[aA args h]) r (λx l=>ok x (.tail _ l)) (by simp[SJ]at hl ⊢;lia) (by simp;lia);have:=j.app k;simpa using this
theorem BQ(j:p∈Uc){t:Tr}(d:t.ok)(e:fit p.pat t= ↑f):∀c∈p.cells,aR f.2.1 f.2.2 c<=99:=by
 have num:∀(p:Pa)(t:Tr){f:Fd},t.ok->fit p t= ↑f->(∀n∈f.2.1,n<=9999)/\∀k∈f.2.2,k<=3:=by
  intro p
  induction p with
  |hole i=>intro t f _ e;cases e;simp
  |gap i m=>intro t f d e;let(n,rfl,_,rfl):=dh e;exact(by simpa[Tr.ok]using d,by simp)
  |slot i=>intro t f d e;let(k,rfl,rfl):=iG e;exact(by simp,by simpa[Tr.ok]using d)
  |num n=>intro t f d e;let(rfl,rfl):=ox e;simp
  |two o a b q r =>
   intro t f d e;let(x,y,E,G,rfl,e1,e2,rfl):=bK e;let(u,v):=q x d.1 e1;let(b1,w):=r y d.2 e2;refine(λn B=>?_,λk hk=>?_)
   ·rcases NS.mp B with z|z
    ·exact u n z
    ·exact b1 n z
   ·rcases NS.mp hk with z|z
    ·exact v k z
    ·exact w k z
 let(n1,n2):=num p.pat t d e;have lit:∀p∈Uc,(p.cells.all λc=>match c with | .lit n=>Nat.ble n 99|_=>true)=true:=NX.mp (by rfl);intro c l;have g:=zO (TH j) e c l
 cases c with
 |lit n=>exact NF (NX.mp (lit p j) _ l)
 |low i=>simp only[aR];lia
 |high i =>have g:i<f.2.1.length:=g;have:=n1 (f.2.1.getD i 0) (by rw[Of,Nz g];exact Qt g);simp only[aR];lia
 |arg i =>have g:i<f.2.2.length:=g;have:=n2 (f.2.2.getD i 0) (by rw[Of,Nz g];exact Qt g);simp only[aR];lia
theorem DF(hs:So E)(t:Tr)(w:Pc×Fd)(bs:List Bs)(G:w∈bR E t)(h:Sq (Q2 dl) w.2.1 bs):Q2 dl t (eB w bs):=λj H=>by
 let(l,g):=eX G;have r:=TH (hs.all _ l);have hl:=eF _ _ g;have sz:=r.sz;let(_,_,N,_):=fX _ _ g
 have a:∀x∈w.2.1,x.ok/\x.cnt<=40/\x.dep<=t.dep - 1:=λx e=>by have:=vQ e;let(k,u,v):=iF r.nh g x e;have:=iE u;have:=b7 k v;exact(gD (Ft j u) v,⋯,⋯)
 have O:=fB t;unfold Fd.len at hl;refine(?_,λargs y pre post B m I=>?_)
 ·have all:∀{p:List Tr}{rs:List Bs},Sq (Q2 dl) p rs->(∀x∈p,x.ok/\x.cnt<=40)->∀c∈rs.flatMap (·.2.2),c<=99:=by
   intro p rs h
   induction h with
   |nil=>intro _ c f;cases f
   |cons q _ J =>
    intro ok c f;rw[Qm]at f;rcases NS.mp f with z|z
    ·exact(q (ok _ (.head _)).1 (ok _ (.head _)).2).1 c z
    ·exact J (λx e=>ok x (.tail _ e)) c z
  intro c f;rcases NS.mp (show c∈bs.flatMap (·.2.2)++w.1.cells.map (aR w.2.2.1 w.2.2.2) from f)with z|z
  ·exact all h (λx e=>((a x e).1,(a x e).2.1)) c z
  ·let(d,d1,rfl):=OO.mp z;exact BQ (hs.all _ l) j g d d1
 ·have i:SJ pre (bs.flatMap (·.2.2)++w.1.cells.map (aR w.2.2.1 w.2.2.2)) post:=m;have L:=m8 (dl:=dl) (post:=w.1.cells.map (aR w.2.2.1 w.2.2.2)++post) y (d:=t.dep - 1) pre B h a (by simp[SJ]at i ⊢;lia) ⋯;have M:=xf (dl:=dl) (pre:=pre++bs.flatMap (·.2.2)) (post:=post) (σ:=B) y (hs.all _ l) j g (by simp[SJ]at i ⊢;lia) ⋯;exact L.app M
theorem DQ(k:Nat):2<=ov k:=by unfold ov;split<;>lia
theorem pick_run(a b c:Tr)(x y z:Bs)(U:x.2.2.length<=6*a.cnt)(Y:y.1=y.2.2.length/\y.2.2.length<=6*b.cnt)(lz:z.1=z.2.2.length/\z.2.2.length<=6*c.cnt)(H:Q2 dl a x)(hy:Q2 dl b y)(I:Q2 dl c z):Q2 dl (.pick a b c) (bL x y z):=λm r=>by
 simp only[Tr.cnt]at r;let(J,L):=H m.1 ⋯;let(M,N):=hy m.2.1 ⋯;let(O,Q):=I m.2.2 ⋯;have o2:=zW z.1
 have E:∀k,k<=900->∀p q,p<=99->q<=99->∀d∈jmp p q k,d<=99:=λk hk p q hp hq d f=>by unfold jmp at f;split at f<;>simp at f<;>lia
 have e:(bL x y z).2.2=x.2.2++jmp 10 11 (y.1+ov z.1)++y.2.2++jmp 8 9 z.1++z.2.2:=rfl;refine(λd f=>?_,λargs t pre post g hs u=>?_)
 ·rw[e]at f;simp only[NS]at f;rcases f with(((h|h)|h)|h)|h
  ·exact J d h
  ·exact E _ ⋯ _ _ ⋯ ⋯ d h
  ·exact M d h
  ·exact E _ ⋯ _ _ ⋯ ⋯ d h
  ·exact O d h
 ·rw[e]at hs ⊢;simp only[Tr.dep]at u;have w:=hs;simp only[SJ,NK,bX]at w;let(i,i1,B):=L args t pre (jmp 10 11 (y.1+ov z.1)++(y.2.2++(jmp 8 9 z.1++(z.2.2++post)))) g (by simp only[SJ,NK,bX];lia) ⋯;have g1:=BY (dl:=dl) (args:=args) (σ:=g) (v:=aA args a) (pre:=pre++x.2.2) (post:=y.2.2++(jmp 8 9 z.1++(z.2.2++post))) (k:=y.1+ov z.1) (by simp only[NK,bX];lia) rfl ⋯;rw[NK]at g1;simp only[Ow]at B g1 ⊢;have p1:=DQ (y.1+ov z.1);have p2:=DQ z.1;have len:(x.2.2++(jmp 10 11 (y.1+ov z.1)++(y.2.2++(jmp 8 9 z.1++z.2.2)))).length=x.2.2.length+ov (y.1+ov z.1)+y.1+ov z.1+z.1:=by simp[bX];lia
  unfold aA;by_cases G:aA args a=0
  ·rw[NL G]at g1 ⊢;let(j,T,l):=Q args t (pre++(x.2.2++(jmp 10 11 (y.1+ov z.1)++(y.2.2++jmp 8 9 z.1)))) post g (by simp only[SJ,NK,bX];lia) ⋯;simp only[NK,bX,Ow]at l;refine(j+(1+i),by rw[len];lia,?_);simp only[Ow];refine(B.trans g1).trans ?_;rw[len,show pre.length+x.2.2.length+ov (y.1+ov z.1)+(y.1+ov z.1)=pre.length+(x.2.2.length+(ov (y.1+ov z.1)+(y.2.2.length+ov z.1))) by lia,show pre.length+(x.2.2.length+ov (y.1+ov z.1)+y.1+ov z.1+z.1)=pre.length+(x.2.2.length+(ov (y.1+ov z.1)+(y.2.2.length+ov z.1)))+z.2.2.length by lia];exact l
  ·rw[NH G]at g1 ⊢;let(j,T,l):=N args t (pre++(x.2.2++jmp 10 11 (y.1+ov z.1))) (jmp 8 9 z.1++(z.2.2++post)) g (by simp only[SJ,NK,bX];lia) ⋯;have g2:=BX (dl:=dl) (args:=args) (σ:=g++[aA args b]) (pre:=pre++(x.2.2++(jmp 10 11 (y.1+ov z.1)++y.2.2))) (post:=z.2.2++post) (k:=z.1) (by simp only[NK,bX];lia) rfl ⋯;simp only[NK,bX,Ow]at l g2;refine(1+j+(1+i),by rw[len];lia,?_);simp only[Ow];refine(B.trans g1).trans ?_;rw[len,show pre.length+x.2.2.length+ov (y.1+ov z.1)+0=pre.length+(x.2.2.length+ov (y.1+ov z.1)) by lia];rw[show pre.length+(x.2.2.length+(ov (y.1+ov z.1)+y.2.2.length))=pre.length+(x.2.2.length+ov (y.1+ov z.1))+y.2.2.length by lia]at g2;rw[show pre.length+(x.2.2.length+ov (y.1+ov z.1)+y.1+ov z.1+z.1)=pre.length+(x.2.2.length+ov (y.1+ov z.1))+y.2.2.length+ov z.1+z.1 by lia];exact l.trans g2
theorem AH(hs:So f)(n:Nat)(t:Tr)(b:Bs)(e:best f n t= ↑b):WY dl f t b/\Q2 dl t b :=
 iy (Q:=λt b=>WY dl f t b/\Q2 dl t b) (λt w bs g h=>(vb hs t w bs g (λa b c z=>by subst z;let(k,j):=eX g;rw[yz (TH (hs.all _ k)).nh]at j;cases j) (h.imp λ_ _ _ q=>q.1),DF hs t w bs g (h.imp λ_ _ _ q=>q.2)))
  (λa b c x y z i hy d=>(uZ hs a b c x y z i.1 hy.1 d.1,pick_run a b c x y z i.1.2.2.1 (hy.1.2.1,hy.1.2.2.1) (d.1.2.1,d.1.2.2.1) i.2 hy.2 d.2)) n t b e
end My
namespace My
open EV
theorem qQ:∀(k m:Nat),(R4 k m).length=m
 |_,0=>rfl
 |k,m+1=>by simp[R4,qQ (k+1) m]
noncomputable abbrev Er(args:List Nat)(z:Option A):Env:=[↑⇑0,↑(.tup (args.map nA)),↑(nA 10),↑(nA 1000),↑⇑2,z]
theorem AG{code:List Nat}(g:3<=n)(hl:code.length<=900)(i:code=pre++(0::post))(h:Go dl code args k s e)(f:e=(pre.length,[v])):∀(a:List A)(z:Option A),k<a.length ->
  lp 4.5 (D6 (cN dl n)) a (Er args z) (Sm code args s.1 s.2 false)=.ok (.rt (nA v)) (Sm code args (pre.length+1) [v] true):=by
 induction h with
 |nil =>
  intro a z d
  cases a with
  |nil=>simp at d
  |cons x a =>
   subst f;obtain⟨m,rfl⟩:∃m,n=m+1:=(n - 1,⋯)
   have q:cN dl (m+1) 21 [⇑2] (Sm code args pre.length [v] false)=.ok .Ro (Sm code args (pre.length+1) [v] true):=by
    rw[c21];refine GU (f13 ⋯ hl) (f14 ⋯) i ?_;obtain⟨j,rfl⟩:∃j,m=j+1:=(m - 1,⋯)
    rw[c19];exact EG
   exact KU rfl (aa (TY (UB rfl rfl rfl rfl q)) (aP rfl rfl))
 |cons st _ l =>
  intro a z d
  cases a with
  |nil=>simp at d
  |cons x a=>exact fD rfl (aa (TY (UB rfl rfl rfl rfl (st n g))) (af rfl rfl)) (l f a ↑x (by simpa using d))
theorem BH{code:List Nat}(d:1<=code.length)(hl:code.length<=900)(f:∀c∈code,c<=99)(a:RL S i= ↑(code.map nA)):cN dl (n+3) 12 [⇑i] S=.ok .Ro S:=by
 have j:∀(S:Rm)(i:Nat),RL S i= ↑(code.map nA)->cN dl (n+2) 11 [⇑i] S=.ok (.bl true) S:=λS i a=>by have l:=nX (it:=iL 1.0) (k:=1) (fr:=[]) (ρ:=[↑⇑0]) (S:=(1,[(0,.RK (code.map nA))])) (i:=0) (c:=tT) (e:=ae (cN dl (n+1) 0) %[1.0,2.0,2.99|0]) rfl rfl (by simpa using hl) (dG (g:=λ_=>.bl true) code none λc m=>gu (dl:=dl) (n:=n) (Om _) (f c m)) (by simpa using hl);have p:j8 ⇑1 (2,[(1,.lst (code.map λ_=>.bl true)),(0,.RK (code.map nA))])=.ok (.bl true) (2,[(1,.lst (code.map λ_=>.bl true)),(0,.RK (code.map nA))]):=uC rfl;rw[c11];exact TJ (bP a (aI bI _) fN) (RG (aa (af (wW rfl (tnt (RY (EA rfl rfl rfl (cv (show 1<=(code.map nA).length by simpa using d))))) rfl (NZ nb (cv (show(code.map nA).length<=1000 by simp;lia)))) rfl) (aV (Sb l p)))) rfl
 rw[c12];exact TJ (bP a (aI bI _) fN) (gm (af (Vc (j _ 0 rfl)) rfl)) rfl
theorem Bv(a:Wm args):cN dl (n+2) 3 [.tup (args.map nA),nA 10] S=.ok .Ro S:=by
 have d:=sR (it:=iT 1.0) (k:=1) (fr:=[1]) (ρ:=[↑(.tup (args.map nA)),↑(nA 10)]) (S:=(0,[])) (xs:=args.map nA) (c:=tT) (e:=ae (cN dl (n+1) 0) %[1.0,2.0,(cO ij 1.1 2.1)|0]) rfl (by simp[a.len]) (dG (g:=λ_=>.bl true) args none λc f=>aj rfl (gu (b:=9) (Om _) (by have:=a.lt c f;lia))) (by simp[a.len]);have i:j8 ⇑0 (1,[(0,.lst (args.map λ_=>.bl true))])=.ok (.bl true) (1,[(0,.lst (args.map λ_=>.bl true))]):=uC rfl
 have j:cO R5 (cU aX 1.0) 2.4 [↑(.tup (args.map nA)),↑(nA 10)] (0,[])=.ok (.bl false) (0,[]):=by refine RB (Sb rfl (er (k:=4) rfl (by simp[a.len]))) rfl rfl
 rw[c3];exact TJ (bp (aI bI _) (bp rfl fN)) (gm (aa (af (wW rfl (RY j) rfl rfl) rfl) (af (Vc (Sb d i)) rfl))) rfl
theorem AS{code:List Nat}(d:Wm args)(e:1<=code.length)(hl:code.length<=900)(f:∀c∈code,c<=99) :
  cN dl (n+4) 22 [⇑0,.tup (args.map nA),nA 10,nA 1000] (1,[(0,.RK (code.map nA))])=.ok ⇑2 (Sm code args 0 [] false):=by
 have g:=BH (dl:=dl) (n:=n) (S:=(1,[(0,.RK (code.map nA))])) (i:=0) e hl f rfl;have j:=Bv (dl:=dl) (n:=n+1) (S:=(1,[(0,.RK (code.map nA))])) d;have l:=gu (dl:=dl) (n:=n+2) (S:=(1,[(0,.RK (code.map nA))])) (k:=1000) (a:=1) (b:=100000) ⋯ ⋯;have m:cN dl (n+3) 2 [nA 10,nA 10000] (1,[(0,.RK (code.map nA))])=.ok .Ro (1,[(0,.RK (code.map nA))]):=rfl;rw[c22];exact RG (aa (TY (aj rfl g)) (aa (TY m) (aa (TY (aj rfl j)) (aa (af (Vc (aj rfl l)) rfl) rfl))))
theorem f23(w:5<=n)(hs:So j)(a:WZ t)(e:best j 20 t= ↑b)(d:Wm args)(p:RL S i= ↑((b.2.2++[0]).map nA)):cN dl n 23 [⇑i,.tup (args.map nA),nA 10,nA 1000] S=.ok (nA (aA args t)) S:=by
 obtain⟨m,rfl⟩:∃m,n=m+5:=(n - 5,⋯)
 let((_,_,y,_),q):=AH (dl:=dl) hs 20 t b e;let(r,u):=q a.ok a.cnt;have f:=a.cnt;have B:=a.dep;have l:(b.2.2++[0]).length<=900:=by simp;lia
 let(k,E,g):=u args d [] [0] [] (by simp[SJ];lia) (by simp;lia);have st:=AS (dl:=dl) (n:=m) (code:=b.2.2++[0]) d (by simp) l (λc f=>by rcases NS.mp f with z|z;exact r c z;simp at z;lia);have lp:=AG (dl:=dl) (n:=m+4) (code:=b.2.2++[0]) (args:=args) (pre:=b.2.2) (post:=[]) (v:=aA args t) ⋯ l rfl (s:=(0,[])) (by simpa using g) rfl (R4 0 1000) none (by rw[qQ];lia);rw[c23];exact TJ (bP p (aI bI _) (bp (aI bI _) (bp rfl (bp rfl fN)))) (RG (aa (aW (aj rfl st)) (bC (iH rfl lp)))) rfl
end My
namespace My
open EV
variable{ps:List Pc}
theorem Cd{o:Op}(e:a<10)(d:b<10):gW P [.str o.s,nA a,nA b,nA 10] S=.ok (nA (U7 o a b)) S:=by
 cases o with
 |add=>rfl
 |sub=>exact RG (aa (af rfl rfl) (bC (aP rfl (aV (RB (RB rfl rfl rfl) rfl (by show Res.ok (A.int ((Int.ofNat a - Int.ofNat b)%Int.ofNat 10)) S=_;rw[JF d];rfl))))))
 |mul =>refine RG (aa (af rfl rfl) (aa (af rfl rfl) (bC (aP rfl (aV (RB (x:=nA (a*b)) (S':=S) (RB rfl rfl ?_) rfl rfl))))));show gB (Nat.ble a 99999999) (gB (Nat.ble b 99999999) _)=_;rw[NP ⋯,NP ⋯];rfl
 |less =>
  show _=Res.ok (nA (if a<b then 1 else 0)) S;by_cases h:a<b
  ·rw[NL h];exact RG (aa (af rfl rfl) (aa (af rfl rfl) (aa (af rfl rfl) (aV (jY (RY (RB rfl rfl rfl)) rfl (NZ nb (gM h)))))))
  ·rw[NH h];exact RG (aa (af rfl rfl) (aa (af rfl rfl) (aa (af rfl rfl) (aV (kF (RY (RB rfl rfl rfl)) rfl (NZ nb (cv ⋯)))))))
theorem ff(d:Wm args):∀(t:Tr){n:Nat}{S:Rm},t.ok->t.dep+1<=n->cN dl n 75 [tR t,.tup (args.map nA),nA 10] S=.ok (nA (aA args t)) S
 | .num k,n,S,_,f=>by
  obtain⟨m,rfl⟩:∃m,n=m+1:=(n - 1,⋯)
  rw[c75];exact RG (bC (aP rfl rfl))
 | .arg k,n,S,hk,f=>by
  obtain⟨m,rfl⟩:∃m,n=m+1:=(n - 1,⋯)
  rw[c75];exact RG (aa (af rfl rfl) (bC (aP rfl (aV (RB rfl rfl (by show ob ((args.map nA)[k]?) _=_;rw[NQ,(gy d hk).1];rfl))))))
 | .two o a b,n,S,e,f=>by
  simp only[Tr.dep]at f;obtain⟨m,rfl⟩:∃m,n=m+1:=(n - 1,⋯)
  have h1:=λS=>ff (dl:=dl) d a (n:=m) (S:=S) e.1 ⋯;have i:=λS=>ff (dl:=dl) d b (n:=m) (S:=S) e.2 ⋯
  have l:cN dl m 74 [.str o.s,nA (aA args a),nA (aA args b),nA 10] S=.ok (nA (U7 o (aA args a) (aA args b))) S:=by
   obtain⟨j,rfl⟩:∃j,m=j+1:=(m - 1,by have:=fB a;lia)
   rw[c74];exact Cd (bN d e.1) (bN d e.2)
  rw[c75];cases o<;>exact RG (aa (af rfl rfl) (aa (af rfl rfl) (aa (af rfl rfl) (aV (aj (RI rfl (RI (aj rfl (h1 _)) (RI (aj rfl (i _)) rfl))) l)))))
 | .pick a b c,n,S,e,f=>by
  simp only[Tr.dep]at f;obtain⟨m,rfl⟩:∃m,n=m+1:=(n - 1,⋯)
  have h1:=λS=>ff (dl:=dl) d a (n:=m) (S:=S) e.1 ⋯;have i:=λS=>ff (dl:=dl) d b (n:=m) (S:=S) e.2.1 ⋯;have l:=λS=>ff (dl:=dl) d c (n:=m) (S:=S) e.2.2 ⋯;rw[c75];unfold aA;by_cases g:aA args a=0
  ·rw[NL g];exact RG (aa (af rfl rfl) (aa (af rfl rfl) (bC (aP rfl (aV (aj (RI (jY (RY (RB (aj rfl (h1 _)) rfl rfl)) rfl (by rw[g];rfl)) rfl) (l _)))))))
  ·rw[NH g];exact RG (aa (af rfl rfl) (aa (af rfl rfl) (bC (aP rfl (aV (aj (RI (kF (RY (RB (aj rfl (h1 _)) rfl rfl)) rfl (eT g)) rfl) (i _)))))))
noncomputable def Sg(ps:List Pc)(L hs a ks:List A):Rm:=(6,[(5,.lst [⇑2,⇑3,⇑4]),(4,.lst ks),(3,.lst a),(2,.lst hs),(1,.lst L),(0,.RK (ps.map Rn))])
section
variable{L hs ns ks:List A}
theorem E1(q:hs.length<=900):cg P [.tup [.str 35,i],x,⇑5] (Sg ps L hs ns ks)=.ok (.bl true) (Sg ps L (hs++[x]) ns ks) :=
 RG (bC (aP rfl (aa (eZ (i:=2) (xs:=hs) rfl rfl rfl q) rfl)))
theorem qU(a:∀S,Rp (tR t) (nA 1) S=.ok x S)(q:ns.length<=900)(h:UZ (cO oEq (cO Rp 1.1 2.0) 3.6) (cO oLe (cO Rp 1.1 2.1) (cO Rp 1.0 2.2)) [↑(pA (.gap i m)),↑(tR t),↑⇑5] (Sg ps L hs (ns++[x]) ks)=.ok (.bl v) (Sg ps L hs (ns++[x]) ks)):cg P [pA (.gap i m),tR t,⇑5] (Sg ps L hs ns ks)=.ok (.bl v) (Sg ps L hs (ns++[x]) ks) :=
 RG (aa (af rfl rfl) (bC (aP rfl (aa (eZ (i:=3) (xs:=ns) rfl (RB rfl rfl (a _)) rfl q) (aV h)))))
theorem oM(a:∀S,Rp (tR t) (nA 1) S=.ok x S)(q:ks.length<=900)(h:cO oEq (cO Rp 1.1 2.0) 3.7 [↑(pA (.slot i)),↑(tR t),↑⇑5] (Sg ps L hs ns (ks++[x]))=.ok (.bl v) (Sg ps L hs ns (ks++[x]))):cg P [pA (.slot i),tR t,⇑5] (Sg ps L hs ns ks)=.ok (.bl v) (Sg ps L hs ns (ks++[x])) :=
 RG (aa (af rfl rfl) (aa (af rfl rfl) (bC (aP rfl (aa (eZ (i:=4) (xs:=ks) rfl (RB rfl rfl (a _)) rfl q) (aV h))))))
noncomputable def YQ(ps:List Pc)(L hs ns ks:List A)(r:Res A):Option Fd->Prop
 |some g=>r=.ok (.bl true) (Sg ps L (hs++g.1.map tR) (ns++g.2.1.map nA) (ks++g.2.2.map nA))
 |none=>∃a b c,r=.ok (.bl false) (Sg ps L a b c)
theorem HZ(t:Tr):∃x,∀S,Rp (tR t) (nA 1) S=.ok x S:=by cases t<;>exact(_,λ_=>rfl)
theorem Ib{t:Tr}(a:t.dep<20):cg P [pA (.num k),tR t,⇑5] S=.ok (.bl (SN (tR t) (pA (.num k)))) S:=by
 refine RG (aa (af rfl rfl) (aa (af rfl rfl) (aa (af rfl rfl) (bC (aP rfl (aV (RB rfl rfl ?_)))))));have l:Rv S (tR t)=none:=by cases t<;>rfl
 show bA (match Rv S (tR t)with|some d=>_|none=>gB (Uj 20 (tR t)) (gB (Uj 20 (pA (.num k))) ↑(SN (tR t) (pA (.num k))))) S=_;rw[l,iW t a];rfl
end
theorem zu:∀(p:Pa)(t:Tr)(n:Nat)(hs d ks:List A),t.dep<20->hs.length+d.length+ks.length+p.sz<=900->YQ ps L hs d ks (cN dl (n+p.sz) 77 [pA p,tR t,⇑5] (Sg ps L hs d ks)) (fit p t)
 | .hole i,t,n,hs,d,ks,_,hl=>by simp only[Pa.sz]at hl;show cN dl (n+1) 77 _ _=_;rw[VL];simp only[QK,N9,NR];exact E1 ⋯
 | .gap i m,t,n,hs,d,ks,_,hl=>by
  simp only[Pa.sz]at hl;let(x,g):=HZ t
  cases t with
  |num k =>
   unfold fit;split
   ·rename_i z;show cN dl (n+1) 77 _ _=_;rw[VL];simp only[QK,N9,NR];exact qU (λ_=>rfl) ⋯ (iw rfl (RB rfl rfl (by show Res.ok (A.bl (UG (.ofNat k) (.ofNat m))) _=_;rw[cv z])))
   ·rename_i z;exact(_,_,_,by show cN dl (n+1) 77 _ _=_;rw[VL];exact qU (v:=false) (λ_=>rfl) ⋯ (iw rfl (RB rfl rfl (by show Res.ok (A.bl (UG (.ofNat k) (.ofNat m))) _=_;rw[gM ⋯]))))
  |two o a b=>exact(_,_,_,by show cN dl (n+1) 77 _ _=_;rw[VL];exact qU (v:=false) g ⋯ (by cases o<;>exact vW rfl))
  |arg k=>exact(_,_,_,by show cN dl (n+1) 77 _ _=_;rw[VL];exact qU (v:=false) g ⋯ (vW rfl))
  |pick a b c=>exact(_,_,_,by show cN dl (n+1) 77 _ _=_;rw[VL];exact qU (v:=false) g ⋯ (vW rfl))
 | .slot i,t,n,hs,d,ks,_,hl=>by
  simp only[Pa.sz]at hl;let(x,g):=HZ t
  cases t with
  |arg k =>show cN dl (n+1) 77 _ _=_;rw[VL];simp only[QK,N9,NR];exact oM (λ_=>rfl) ⋯ rfl
  |two o a b=>exact(_,_,_,by show cN dl (n+1) 77 _ _=_;rw[VL];exact oM (v:=false) g ⋯ (by cases o<;>rfl))
  |num k=>exact(_,_,_,by show cN dl (n+1) 77 _ _=_;rw[VL];exact oM (v:=false) g ⋯ rfl)
  |pick a b c=>exact(_,_,_,by show cN dl (n+1) 77 _ _=_;rw[VL];exact oM (v:=false) g ⋯ rfl)
 | .num i,t,n,hs,d,ks,r,hl=>by
  have q:=Ib (P:=cN dl n) (S:=Sg ps L hs d ks) (k:=i) r;have q:cN dl (n+1) 77 [pA (.num i),tR t,⇑5] (Sg ps L hs d ks)=.ok (.bl (SN (tR t) (pA (.num i)))) (Sg ps L hs d ks):=by rw[VL];exact q
  cases t with
  |num k =>
   unfold fit;by_cases z:k=i
   ·subst z;rw[NL rfl];show cN dl (n+1) 77 _ _=_;rw[q,show SN (tR (.num k)) (pA (.num k))=true from kP (.num k)];simp
   ·rw[NH z];refine(hs,d,ks,?_);show cN dl (n+1) 77 _ _=_;rw[q]
    cases w:SN (tR (.num k)) (pA (.num i))with
    |true=>have:=sX (.num k) (.num i) w;cases this;exact absurd rfl z
    |false=>rfl
  |two o a b=>exact(hs,d,ks,by show cN dl (n+1) 77 _ _=_;rw[q];cases o<;>rfl)
  |arg k=>exact(hs,d,ks,q)
  |pick a b c=>exact(hs,d,ks,q)
 | .two o a b,t,n,hs,d,ks,r,hl=>by
  cases t with
  |two l x y =>
   simp only[Pa.sz,Tr.dep]at hl r;have j:=zu (dl:=dl) (L:=L) a x (n+b.sz) hs d ks ⋯ ⋯;rw[show n+(Pa.two o a b).sz=(n+b.sz+a.sz)+1 by show n+(a.sz+b.sz+1)=_;lia,VL];unfold fit;by_cases z:l=o
   ·subst z;rw[NL rfl]
    cases B:fit a x with
    |none =>rw[B]at j;let(u,v,w,j):=j;exact(u,v,w,by cases l<;>exact RG (aa (af rfl rfl) (aa (af rfl rfl) (aa (af rfl rfl) (aa (af rfl rfl) (aV (iw rfl (vW (aj rfl j)))))))))
    |some e =>
     rw[B]at j;have H:=eF a x B;unfold Fd.len at H;have f:=zu (dl:=dl) (L:=L) b y (n+a.sz) (hs++e.1.map tR) (d++e.2.1.map nA) (ks++e.2.2.map nA) ⋯ (by simp;lia);rw[show n+a.sz+b.sz=n+b.sz+a.sz by lia]at f
     cases G:fit b y with
     |none =>rw[G]at f;let(u,v,w,f):=f;exact(u,v,w,by cases l<;>exact RG (aa (af rfl rfl) (aa (af rfl rfl) (aa (af rfl rfl) (aa (af rfl rfl) (aV (iw rfl (iw (aj rfl j) (aj rfl f)))))))))
     |some E =>
      rw[G]at f;have f:cN dl (n+b.sz+a.sz) 77 [pA b,tR y,⇑5] (Sg ps L (hs++e.1.map tR) (d++e.2.1.map nA) (ks++e.2.2.map nA))=.ok (.bl true) (Sg ps L (hs++(e.add E).1.map tR) (d++(e.add E).2.1.map nA) (ks++(e.add E).2.2.map nA)):=by simpa[Fd.add,YQ]using f
      show cg _ _ _=_;cases l<;>exact RG (aa (af rfl rfl) (aa (af rfl rfl) (aa (af rfl rfl) (aa (af rfl rfl) (aV (iw rfl (iw (aj rfl j) (aj rfl f))))))))
   ·rw[NH z];exact(hs,d,ks,by cases l<;>cases o<;>first|exact absurd rfl z|exact RG (aa (af rfl rfl) (aa (af rfl rfl) (aa (af rfl rfl) (aa (af rfl rfl) (aV (vW rfl)))))))
  |num k=>exact(hs,d,ks,by rw[show n+(Pa.two o a b).sz=(n+b.sz+a.sz)+1 by show n+(a.sz+b.sz+1)=_;lia,VL];cases o<;>rfl)
  |arg k=>exact(hs,d,ks,by rw[show n+(Pa.two o a b).sz=(n+b.sz+a.sz)+1 by show n+(a.sz+b.sz+1)=_;lia,VL];cases o<;>rfl)
  |pick u v w=>exact(hs,d,ks,by rw[show n+(Pa.two o a b).sz=(n+b.sz+a.sz)+1 by show n+(a.sz+b.sz+1)=_;lia,VL];cases o<;>rfl)
end My
namespace My
open EV
variable{B:Tr->Option Bs}
noncomputable def Si:Option Bs->A
 |none=>.Ro
 |some b=>nA b.1
theorem CB:fS P [nA k] S=.ok (nA (ov k)) S:=by
 unfold ov;split
 ·rename_i h;exact RG (aV (jY (RY (RB rfl rfl rfl)) rfl (cv h)))
 ·rename_i h;exact RG (aV (kF (RY (RB rfl rfl rfl)) rfl (gM ⋯)))
theorem tL{d:List Pc}(p:∀(u:Tr)(S:Rm),u∈[a,b,c]->RL S 0= ↑(d.map Rn)->P 79 [tR u,⇑0] S=.ok (Si (B u)) S)(l:∀k S,P 78 [nA k] S=.ok (nA (ov k)) S)(w:RL S i= ↑(d.map Rn)):ax (dH P) [tR (.pick a b c),⇑i] S=.ok (Si (bT d B (.pick a b c))) S:=by
 have h1:=p a (Ss d) (by simp) rfl;have E:=p b (Ss d) (by simp) rfl;have G:=p c (Ss d) (by simp) rfl;have v:fG S [tR (.pick a b c),⇑i] 0= ↑([tR (.pick a b c),⇑0],[(0,.RK (d.map Rn))]):=bp (aF _) (bP w (aI aO d) fN);have t:ay (iT (cO ux 1.0 2.1)) 1 [1] 4.0 tT (ae (P 79) %[1.0,1.1|0]) [↑(tR (.pick a b c)),↑⇑0,none,none,none,none,none,none] (Ss d)=.ok ⇑1 (2,[(1,.lst [Si (B a),Si (B b),Si (B c)]),(0,.RK (d.map Rn))]):=fO (S':=Ss d) (S1:=Ss d) (zs:=[Si (B a),Si (B b),Si (B c)]) rfl rfl (dq rfl rfl (aj rfl h1) (dq rfl rfl (aj rfl E) (dq rfl rfl (aj rfl G) rfl))) rfl
 have f:bT d B (.pick a b c)=none->Rq (cO UQ (cC .Ro) 1.2) [↑(tR (.pick a b c)),↑⇑0,↑⇑1,none,none,none,none,none] (2,[(1,.lst [Si (B a),Si (B b),Si (B c)]),(0,.RK (d.map Rn))])=.ok true (2,[(1,.lst [Si (B a),Si (B b),Si (B c)]),(0,.RK (d.map Rn))]):=λe=>by
  simp only[bT]at e
  cases g:B a with
  |none=>cases B b<;>cases B c<;>rfl
  |some x=>cases j:B b with
   |none=>cases B c<;>rfl
   |some y=>cases m:B c with
    |none=>rfl
    |some z=>rw[g,j,m]at e;cases e
 cases q:bT d B (.pick a b c)with
 |none=>exact TJ v (RG (bC (aP rfl (aa (aW t) (bC (aP (f q) rfl)))))) rfl
 |some r =>
  simp only[bT]at q
  cases g:B a with
  |none=>rw[g]at q;cases q
  |some x=>cases j:B b with
   |none=>rw[g,j]at q;cases q
   |some y=>cases m:B c with
    |none=>rw[g,j,m]at q;cases q
    |some z =>
     rw[g,j,m]at q;cases q;rw[g,j,m]at t;have e:(bL x y z).1=x.1+ov (y.1+ov z.1)+(y.1+ov z.1)+z.1:=by simp only[bL];lia
     show _=Res.ok (nA (bL x y z).1) S;rw[e];exact TJ v (RG (bC (aP rfl (aa (aW t) (aa (af rfl rfl) (aa (aW (RB rfl (aj rfl (l _ _)) rfl)) (aV (RB (RB (RB rfl (aj rfl (l _ _)) rfl) rfl rfl) rfl rfl)))))))) rfl
noncomputable def jr(B:Tr->Option Bs)(w:Pc×Fd):Option Nat:=(de B w.2.1).map λbs=>w.1.cells.length+(bs.map (·.1)).sum
noncomputable def ig(B:Tr->Option Bs)(a:List (Pc×Fd)):List Nat:=a.filterMap (jr B)
noncomputable def YR(o:Option Nat)(k:Nat):Option Nat:=match o with
 |none=>↑k
 |some j=>if k<j then ↑k else ↑j
theorem qJ:∀(a:List (Pc×Fd))(b:Option Bs),(a.foldl (bV B) b).map (·.1)=(ig B a).foldl YR (b.map (·.1))
 |[],b=>rfl
 |w::a,b=>by
  rw[O4,qJ a]
  cases q:de B w.2.1 with
  |none=>rw[show ig B (w::a)=ig B a by simp[ig,jr,q],show bV B b w=b by unfold bV;rw[q]]
  |some bs =>
   rw[show ig B (w::a)=(w.1.cells.length+(bs.map (·.1)).sum)::ig B a by simp[ig,jr,q],O4];congr 1;rw[show bV B b w=XM b (eB w bs) by unfold bV;rw[q]]
   cases b with
   |none=>rfl
   |some c =>
    show(if (eB w bs).1<c.1 then ↑(eB w bs)else ↑c:Option Bs).map (·.1)=(if (eB w bs).1<c.1 then ↑(eB w bs).1 else ↑c.1)
    split<;>rfl
noncomputable def iQ:List Nat->Option Nat
 |[]=>none
 |i::r=>match iQ r with
  |some j=>↑(if i<=j then i else j)
  |none=>↑i
theorem oW(i:Nat)(r:List Nat):iQ (i::r)=(match iQ r with|some j=>↑(if i<=j then i else j)|none=>↑i):=rfl
theorem rg:∀a:List Nat,oV (a.map Int.ofNat)=(iQ a).map Int.ofNat
 |[]=>rfl
 |i::r=>by
  show(match oV (r.map Int.ofNat)with|some j=>↑(match UG (.ofNat i) j with|true=>Int.ofNat i|false=>j)|none=>↑(.ofNat i))=_;rw[rg r,oW]
  cases iQ r with
  |none=>rfl
  |some j =>
   by_cases h:i<=j
   ·show ↑(match UG (.ofNat i) (.ofNat j)with|true=>Int.ofNat i|false=>.ofNat j)= ↑(.ofNat (if i<=j then i else j));rw[cv h,NL h]
   ·show ↑(match UG (.ofNat i) (.ofNat j)with|true=>Int.ofNat i|false=>.ofNat j)= ↑(.ofNat (if i<=j then i else j));rw[gM ⋯,NH h]
theorem oz:∀(a:List Nat)(j:Nat),a.foldl YR ↑j= ↑(match iQ a with|none=>j|some k=>if k<j then k else j)
 |[],j=>rfl
 |i::r,j=>by
  rw[O4,oW];by_cases h:i<j
  ·rw[show YR ↑j i= ↑i from NL h,oz r i]
   cases iQ r with
   |none=>simp[h]
   |some k=>simp only;congr 1;(repeat' split)<;>lia
  ·rw[show YR ↑j i= ↑j from NH h,oz r j]
   cases iQ r with
   |none=>simp[h]
   |some k=>simp only;congr 1;(repeat' split)<;>lia
theorem wF:∀a:List Nat,a.foldl YR none=iQ a
 |[]=>rfl
 |i::r=>by
  rw[O4,show YR none i= ↑i from rfl,oz,oW]
  cases iQ r with
  |none=>rfl
  |some k=>simp only;congr 1;(repeat' split)<;>lia
end My
namespace My
open EV
variable{ps:List Pc}
noncomputable abbrev Ee(t:Tr)(a d e:Option A):Env:=[↑(tR t),↑⇑0,none,none,↑⇑1,a,d,e]
noncomputable abbrev T2(ps:List Pc)(L:List Nat):Rm:=(2,[(1,.lst (L.map nA)),(0,.RK (ps.map Rn))])
noncomputable def okY(z:Option A):Prop:=z=none\/z=some .any
theorem KS(h:okY z):eW 2 [z]=true:=by rcases h with rfl|rfl<;>rfl
theorem zy(h:okY a):eW 2 (Ee t ↑(Rn p) (some .any) a)=true:=br (aF t) (eP rfl (zx (zx (eP rfl (br (aO p) (zw (KS h)))))))
theorem Ij:cP 2 (T2 ps L).cs=true:=(bB (aI bI _) (bB (aI aO _) rfl).2).1
theorem DM:∀{a:List Tr},lA .Ro (a.map (Si∘B))=(a.any λt=>(B t).isNone)
 |[]=>rfl
 |t::a=>by show(match SN (Si (B t)) .Ro with|true=>true|false=>lA .Ro (a.map (Si∘B)))=_;rw[DM,Pk];cases B t<;>rfl
theorem Ir:∀{a:List Tr},R8 20 (a.map (Si∘B))=true
 |[]=>rfl
 |t::a=>by show(match Uj 20 (Si (B t))with|true=>R8 20 (a.map (Si∘B))|false=>false)=true;rw[Ir];cases B t<;>rfl
theorem vk:∀{a:List Tr}{bs:List Bs},de B a= ↑bs->a.map (Si∘B)=(bs.map (·.1)).map nA
 |[],_,h=>by cases h;rfl
 |t::a,bs,h=>by
  unfold de at h;split at h
  ·rename_i b e h1 d;cases h;simp only[NR,Function.comp,h1,Si];rw[<- vk d]
  ·cases h
section
theorem Cb{p:Pc}{L:List Nat}(e:YQ ps (L.map nA) [] [] [] (P 77 [pA p.pat,tR t,⇑5] (Sg ps (L.map nA) [] [] [])) (fit p.pat t))(q:fit p.pat t=none)(f:okY d):dM P (Ee t ↑(Rn p) g d) (T2 ps L)=.ok (.nx (Ee t ↑(Rn p) (some .any) d)) (T2 ps L):=by
 rw[q]at e;let(a,b,c,h):=e;have k:kill [6,7] (Ee t ↑(Rn p) ↑⇑5 d)=Ee t ↑(Rn p) (some .any) d:=by rcases f with rfl|rfl<;>rfl
 refine(Nh (ds:=[6,7]) (ρ':=Ee t ↑(Rn p) ↑⇑5 d) (S':=Sg ps (L.map nA) a b c) (aa rfl (af (WW (aj rfl h)) rfl)) ?_ ?_).trans ?_
 ·rw[k];exact zy f
 ·exact bb rfl (bb rfl (bb rfl (bb rfl Ij)))
 ·rw[k];rfl
theorem Cc{p:Pc}{L:List Nat}(d:YQ ps (L.map nA) [] [] [] (P 77 [pA p.pat,tR t,⇑5] (Sg ps (L.map nA) [] [] [])) (fit p.pat t))(q:fit p.pat t= ↑g)(f:g.1.length<=900)(l:L.length<=900)(r:∀(u:Tr)(S:Rm),u∈g.1->RL S 0= ↑(ps.map Rn)->P 79 [tR u,⇑0] S=.ok (Si (B u)) S) :
  dM P (Ee t ↑(Rn p) E v) (T2 ps L)=.ok (.nx (Ee t ↑(Rn p) (some .any) (some .any))) (T2 ps (L++(jr B (p,g)).toList)):=by
 rw[q]at d;have h:P 77 [pA p.pat,tR t,⇑5] (Sg ps (L.map nA) [] [] [])=.ok (.bl true) (Sg ps (L.map nA) (g.1.map tR) (g.2.1.map nA) (g.2.2.map nA)):=d;have j:=nY (it:=iL (cO Rp 1.6 2.0)) (k:=1) (fr:=[1]) (c:=tT) (e:=ae (P 79) %[1.0,1.1|0]) (ρ:=Ee t ↑(Rn p) ↑⇑5 v) (S:=Sg ps (L.map nA) (g.1.map tR) (g.2.1.map nA) (g.2.2.map nA)) (i:=2) (ys:=g.1.map tR) (xs:=g.1.map tR) rfl rfl (by simpa using f) (dG (g:=Si∘B) g.1 none λu w=>aj rfl (r u _ w rfl)) rfl (by simpa using f);have k:∀z,kill [6,7] (Ee t ↑(Rn p) ↑⇑5 ↑z)=Ee t ↑(Rn p) (some .any) (some .any):=λ_=>rfl
 have a:Rq (cO zK (cC .Ro) 1.7) (Ee t ↑(Rn p) ↑⇑5 ↑⇑6) (7,(6,.lst (g.1.map (Si∘B)))::(Sg ps (L.map nA) (g.1.map tR) (g.2.1.map nA) (g.2.2.map nA)).cs)=.ok (nb (g.1.any λt=>(B t).isNone)) (7,(6,.lst (g.1.map (Si∘B)))::(Sg ps (L.map nA) (g.1.map tR) (g.2.1.map nA) (g.2.2.map nA)).cs):=by refine RY (RB rfl rfl ?_);show bA (nO (gB (R8 20 (g.1.map (Si∘B))) ↑(lA .Ro (g.1.map (Si∘B))))) _=_;rw[Ir,DM];rfl
 cases m:de B g.1 with
 |none =>
  rw[show jr B (p,g)=none by simp[jr,m],show L++(none:Option Nat).toList=L by simp];refine(Nh (ds:=[6,7]) (aa rfl (aP (WW (aj rfl h)) (aa (aW j) (af a rfl (NZ nb (jt m)))))) ?_ ?_).trans rfl
  ·exact zy (.inr rfl)
  ·exact bb rfl (bb rfl (bb rfl (bb rfl (bb rfl Ij))))
 |some bs =>
  rw[show jr B (p,g)=some (p.cells.length+(bs.map (·.1)).sum) by simp[jr,m]];have y:pT ⇑6 (7,(6,.lst (g.1.map (Si∘B)))::(Sg ps (L.map nA) (g.1.map tR) (g.2.1.map nA) (g.2.2.map nA)).cs)=.ok (nA (bs.map (·.1)).sum) (7,(6,.lst (g.1.map (Si∘B)))::(Sg ps (L.map nA) (g.1.map tR) (g.2.1.map nA) (g.2.2.map nA)).cs):=sj (by show ↑(g.1.map (Si∘B))=_;rw[vk m]);rw[show T2 ps (L++(↑(p.cells.length+(bs.map (·.1)).sum)).toList)=(2,[(1,.lst (L.map nA++[nA (p.cells.length+(bs.map (·.1)).sum)])),(0,.RK (ps.map Rn))]) by simp[T2]];refine(Nh (ds:=[6,7]) (aa rfl (aP (WW (aj rfl h)) (aa (aW j) (aP a (eZ (i:=1) (xs:=L.map nA) rfl (RB (Sb rfl (er (k:=p.cells.length) rfl (by simp))) (Sb rfl y) rfl) rfl (by simpa using l)) (NZ nb (lj m)))))) ?_ ?_).trans rfl
  ·exact zy (.inr rfl)
  ·exact bb rfl (bb rfl (bb rfl (bb rfl (bb rfl (bB (dX (aI bI _) rfl) (bB (aI aO _) rfl).2).1))))
end
theorem hZ:∀(a:List Pc)(L:List Nat)(l m f:Option A),(∀p∈a,∀L,YQ ps L [] [] [] (P 77 [pA p.pat,tR t,⇑5] (Sg ps L [] [] [])) (fit p.pat t))->(∀p∈a,∀g,fit p.pat t= ↑g->g.1.length<=900/\∀(u:Tr)(S:Rm),u∈g.1->RL S 0= ↑(ps.map Rn)->P 79 [tR u,⇑0] S=.ok (Si (B u)) S)->L.length+a.length<=900->okY f ->
  ∃i j k,lp 4.5 (dM P) (a.map Rn) (Ee t l m f) (T2 ps L)=.ok (.nx (Ee t i j k)) (T2 ps (L++ig B (bR a t)))
 |[],L,l,m,f,_,_,_,_=>(l,m,f,by simp[ig,bR,lp])
 |p::a,L,l,m,f,v,h,hl,y=>by
  rw[N6]at hl
  cases q:fit p.pat t with
  |none =>let(i,j,k,w):=hZ a L ↑(Rn p) (some .any) f (λr d=>v r (.tail _ d)) (λr d=>h r (.tail _ d)) ⋯ y;refine(i,j,k,?_);rw[show bR (p::a) t=bR a t by simp[bR,q]];exact fD rfl (Cb (v p (.head _) _) q y) w
  |some g =>
   let(h1,z):=h p (.head _) g q;have E:(jr B (p,g)).toList.length<=1:=by cases jr B (p,g)<;>simp
   let(i,j,k,w):=hZ a (L++(jr B (p,g)).toList) ↑(Rn p) (some .any) (some .any) (λr d=>v r (.tail _ d)) (λr d=>h r (.tail _ d)) (by simp;lia) (.inr rfl);refine(i,j,k,?_)
   rw[show L++ig B (bR (p::a) t)=L++(jr B (p,g)).toList++ig B (bR a t) by
    rw[show bR (p::a) t=Prod.mk p g::bR a t by simp[bR,q]];cases e:jr B (p,g)<;>simp[ig,e]]
   exact fD rfl (Cc (v p (.head _) _) q h1 ⋯ z) w
theorem zq(j:∀a b c,t≠.pick a b c)(z:∀p∈ps,∀L,YQ ps L [] [] [] (P 77 [pA p.pat,tR t,⇑5] (Sg ps L [] [] [])) (fit p.pat t))(h:∀p∈ps,∀g,fit p.pat t= ↑g->g.1.length<=900/\∀(u:Tr)(S:Rm),u∈g.1->RL S 0= ↑(ps.map Rn)->P 79 [tR u,⇑0] S=.ok (Si (B u)) S)(hl:ps.length<=900)(E:RL S i= ↑(ps.map Rn)) :
  ax (dH P) [tR t,⇑i] S=.ok (Si (bT ps B t)) S:=by
 let(G,H,I,q):=hZ (B:=B) ps [] none none none z h (by simpa using hl) (.inl rfl);rw[QY]at q
 have m:Rq (cO oEq (cO Rp 1.0 2.0) 3.8) [↑(tR t),↑⇑0,none,none,none,none,none,none] (Ss ps)=.ok false (Ss ps):=by
  cases t with
  |two o a b=>cases o<;>rfl
  |pick a b c=>exact absurd rfl (j a b c)
  |_=>rfl
 have e:(bT ps B t).map (·.1)=iQ (ig B (bR ps t)):=by rw[show bT ps B t=(bR ps t).foldl (bV B) none by cases t with|pick a b c=>exact absurd rfl (j a b c)|_=>rfl,qJ,<- wF];rfl
 have d:∀f:List Nat,R8 20 (f.map nA)=true:=λf=>by
  induction f with
  |nil=>rfl
  |cons k f J=>exact J
 have r:Si (bT ps B t)=match iQ (ig B (bR ps t))with|none=>.Ro|some k=>nA k:=by rw[<- e];cases bT ps B t<;>rfl
 rw[r];generalize N:ig B (bR ps t)=L at q;have w:fG S [tR t,⇑i] 0= ↑([tR t,⇑0],[(0,.RK (ps.map Rn))]):=bp (aF t) (bP E (aI aO ps) fN)
 cases L with
 |nil=>exact TJ w (RG (aa (af m rfl) (aa rfl (aa (yB (i:=0) rfl rfl q) rfl)))) rfl
 |cons k L =>
  obtain⟨v,y⟩:∃v,iQ (k::L)= ↑v:=by rw[oW];cases iQ L<;>exact(_,rfl)
  rw[y]
  have M:A6 ⇑1 (3,(2,.lst [])::(T2 ps (k::L)).cs)=.ok (nA v) (3,(2,.lst [])::(T2 ps (k::L)).cs):=by show rO (intsOf ((k::L).map nA)) (λl=>rO (oV l) λi=>fM i _)=_;rw[DK];show rO (oV ((k::L).map Int.ofNat)) (λi=>fM i _)=_;rw[rg,y];rfl
  have ne:Rq (cO R5 1.4 (bf aN)) (Ee t G H I) (T2 ps (k::L))=.ok true (3,(2,.lst [])::(T2 ps (k::L)).cs):=by refine RY (RB rfl rfl ?_);show bA (nO (gB (R8 20 ((k::L).map nA)) ↑false)) _=_;rw[d];rfl
  exact TJ w (RG (aa (af m rfl) (aa rfl (aa (yB (i:=0) rfl rfl q) (aV (jY ne (Sb rfl M))))))) rfl
theorem f79(hs:So ps):∀(t:Tr){n:Nat}{S:Rm}{i:Nat},t.dep<=18->t.dep+6<=n->RL S i= ↑(ps.map Rn)->cN dl n 79 [tR t,⇑i] S=.ok (Si (best ps 20 t)) S:=by
 have nh:∀p∈ps,p.pat.nh=true:=λp f=>(TH (hs.all p f)).nh;have le:=hs.le
 have main:∀(d:Nat)(t:Tr){n:Nat}{S:Rm}{i:Nat},t.dep<=d->d<=18->t.dep+6<=n->RL S i= ↑(ps.map Rn)->cN dl n 79 [tR t,⇑i] S=.ok (Si (best ps 20 t)) S:=by
  intro d
  induction d with
  |zero=>intro t n S i h;have:=fB t;lia
  |succ d v =>
   intro t n S i G y H w;obtain⟨m,rfl⟩:∃m,n=m+1:=(n - 1,⋯)
   rw[c79,<- jf nh 20 t ⋯];by_cases f:∃a b c,t=.pick a b c
   ·let(a,b,c,rfl):=f;refine tL (λu S l q=>?_) (λk S=>?_) w
    ·have:=iE (t:=.pick a b c) (k:=u) (by simpa[Tr.kids]using l);exact v u ⋯ ⋯ ⋯ q
    ·obtain⟨j,rfl⟩:∃j,m=j+1:=(m - 1,⋯)
     rw[c78];exact CB
   ·refine zq (λa b c e=>f (a,b,c,e)) (λp f L=>?_) (λp f g e=>(?_,λu S l q=>?_)) ⋯ w
    ·have:=(TH (hs.all p f)).sz;obtain⟨j,rfl⟩:∃j,m=j+p.pat.sz:=(m - p.pat.sz,⋯)
     exact zu p.pat t j [] [] [] ⋯ (by simp;lia)
    ·have r:=eF _ _ e;have:=(TH (hs.all p f)).sz;unfold Fd.len at r;lia
    ·let(k,z,B):=iF (nh p f) e u l;have:=iE z;have:=b7 k B;exact v u ⋯ ⋯ ⋯ q
 exactλt n S i h1 E r=>main 18 t h1 ⋯ E r
end My
namespace My
open EV
variable{dl:Dl}
noncomputable abbrev SS(p:Nat)(q r:Int):C:=.lst [nA p,.int q,.int r]
noncomputable def AN(S:Rm)(w p:Nat)(q r:Int):Rm:=(S.nx,put w (SS p q r) S.cs)
noncomputable def Sj(S:Rm):Prop:=∀x∈S.cs,x.1<S.nx
structure Gr(X:List Nat)(S S':Rm):Prop where
 le:S.nx<=S'.nx
 old:∀i c,i∉X->look i S.cs= ↑c->look i S'.cs= ↑c
 ids:Sj S'
theorem uV:∀{f:List (Nat×C)},(∀x∈f,x.1<n)->∀x∈put w c f,x.1<n
 |[],h=>h
 | (k,a)::f,h=>by
  show ∀x∈(match Nat.beq k w with|true=>Prod.mk k c::f|false=>Prod.mk k a::put w c f),x.1<n
  cases Nat.beq k w with
  |true=>exactλx d=>(NB.mp d).elim (λe=>e▸h (k,a) (.head _)) λd=>h x (.tail _ d)
  |false=>exactλx d=>(NB.mp d).elim (λe=>e▸h (k,a) (.head _)) λd=>uV (λy hy=>h y (.tail _ hy)) x d
theorem a8:∀{d:List (Nat×C)},(∀x∈d,x.1<n)->look i d= ↑c->i<n
 | (k,a)::d,h,e=>by
  have e:(match Nat.beq k i with|true=>↑a|false=>look i d)= ↑c:=e
  cases q:Nat.beq k i with
  |true=>rw[<- NJ q];exact h (k,a) (.head _)
  |false=>rw[q]at e;exact a8 (λx f=>h x (.tail _ f)) e
theorem aH{c:C}{a:List (Nat×C)}:look k (Prod.mk k c::a)= ↑c:=by show(match Nat.beq k k with|true=>↑c|false=>look k a)=_;rw[N2]
theorem aT{c:C}{a:List (Nat×C)}(h:k≠i):look i (Prod.mk k c::a)=look i a:=by show(match Nat.beq k i with|true=>↑c|false=>look i a)=_;rw[eT h]
theorem dA(h:i<n):∀{d:List (Nat×C)},look i (old n d)=look i d
 |[]=>rfl
 | (k,a)::d=>by
  show look i (match Nat.ble n k with|true=>old n d|false=>Prod.mk k a::old n d)=(match Nat.beq k i with|true=>↑a|false=>look i d)
  cases q:Nat.ble n k with
  |true =>have:=NF q;rw[eT ⋯];exact dA h
  |false=>show(match Nat.beq k i with|true=>↑a|false=>look i (old n d))=_;rw[dA h]
theorem iJ:∀{f:List (Nat×C)},∀x∈old n f,x.1<n
 | (k,a)::f,x,d=>by
  have d:x∈(match Nat.ble n k with|true=>old n f|false=>Prod.mk k a::old n f):=d
  cases q:Nat.ble n k with
  |true=>rw[q]at d;exact iJ x d
  |false =>
   rw[q]at d;refine(NB.mp d).elim (λe=>e▸?_) (iJ x);rcases Nat.lt_or_ge k n with z|z
   ·exact z
   ·rw[NP z]at q;cases q
section
variable{p:Nat}{q:Int}
theorem Gr.refl(h:Sj S):Gr X S S:=(Nu _,λ_ _ _ h=>h,h)
theorem Gr.trans(a:Gr X S d)(b:Gr X d f):Gr X S f:=(N4 a.le b.le,λi c h e=>b.old i c h (a.old i c h e),b.ids)
theorem Gr.sub(a:Gr X S d)(h:∀i∈X,i∈Y):Gr Y S d:=(a.le,λi c f e=>a.old i c (λz=>f (h i z)) e,a.ids)
theorem Gr.new(h:Sj S):Gr X S (S.nx+1,(S.nx,c)::S.cs):=⟨P5 _,λi d _ e=>by
 have:=a8 h e;rw[aT ⋯];exact e,λx a=>(NB.mp a).elim (λe=>by rw[e];exact Pu _) λa=>Qj (h x a)⟩
theorem Gr.put(h:Sj S)(a:i∈X):Gr X S (S.nx,put i c S.cs):=⟨Nu _,λj d f e=>by
 rw[Ru (λz=>f (by rw[z];exact a))];exact e,uV h⟩
theorem Gr.set(h:Sj S):Gr [w] S (AN S w p q r):=Gr.put h (.head _)
theorem xK{S:Rm}(h:look w S.cs= ↑d):look w (AN S w p q r).cs= ↑(SS p q r):=aq h
theorem aS(j:Sj S)(h:F k S=.ok x a)(g:Gr X S a):∃f,aM F k S=.ok x f/\Gr X S f/\(∀i c,i<S.nx->look i a.cs= ↑c->look i f.cs= ↑c)/\(oO S.nx x=false\/(∃i c,look i a.cs= ↑c/\i<S.nx/\B8 S.nx c=false)->f=a):=by
 unfold aM ie;rw[h];dsimp only
 cases q:oO S.nx x with
 |false=>exact(a,rfl,g,λ_ _ _ h=>h,λ_=>rfl)
 |true =>
  unfold jZ;dsimp only
  cases l:cP S.nx a.cs with
  |false=>exact(a,rfl,g,λ_ _ _ h=>h,λ_=>rfl)
  |true =>
   refine⟨(S.nx,old S.nx a.cs),aL _ _,(Nu _,λi c d e=>?_,iJ),λi c d e=>(dA d).trans e,λz=>by
    rcases z with z|⟨i,c,e,d,z⟩
    ·cases z
    ·rw[js l e d]at z;cases z⟩
   exact(dA (a8 j e)).trans (g.old i c d e)
theorem kg(j:Sj S)(h:F l S=.exc k a)(g:Gr X S a):∃d,aM F l S=.exc k d/\Gr X S d/\∀i c,i<S.nx->look i a.cs= ↑c->look i d.cs= ↑c:=by
 unfold aM ie;rw[h];unfold jZ;dsimp only
 cases m:cP S.nx a.cs with
 |false=>exact(a,rfl,g,λ_ _ _ h=>h)
 |true =>refine((S.nx,old S.nx a.cs),aL _ _,(Nu _,λi c f e=>?_,iJ),λi c f e=>(dA f).trans e);exact(dA (a8 j e)).trans (g.old i c f e)
noncomputable def gF(dl:Dl):Prop:=∀p q m,0<m->(dl p q m).1<m
theorem jn(f:gF dl)(h:Sj S)(d:look w S.cs= ↑(SS p q r))(h1:1<=m)(g:m<=1000000):∃x i j a,x<m/\Gr [w] S a/\look w a.cs= ↑(SS i j r)/\cN dl (n+1) 81 [.SM,⇑w,nA m] S=.ok (nA x) a:=by
 refine((dl p q m).1,(dl p q m).2.1,(dl p q m).2.2,AN S w (dl p q m).2.1 (dl p q m).2.2 r,f p q m h1,.set h,xK d,?_);rw[c81];have e:T3 S ⇑w= ↑(w,[nA p,.int q,.int r]):=by unfold T3;dsimp only;rw[d]
 show rO (T3 S ⇑w) _=_;rw[e];show gB (Nat.ble 1 m&&Nat.ble m 1000000) _=_;rw[NP h1,NP g];exact bW _ _ _ _
theorem Ag(u:gF dl)(h:Sj S)(k:look w S.cs= ↑(SS p q r))(ne:l≠w)(hl:RL S l= ↑xs)(h1:1<=xs.length)(z:xs.length<=900):∃x g i a,x∈xs/\Gr [w] S a/\look w a.cs= ↑(SS g i r)/\cN dl (n+2) 71 [.SM,⇑w,⇑l] S=.ok x a:=by
 let(x,g,i,d,t,g1,t1,d1):=jn (m:=xs.length) (n:=n) u h k h1 ⋯
 have j:RL d l= ↑xs:=by
  unfold RL at hl ⊢
  cases q:look l S.cs with
  |none=>rw[q]at hl;cases hl
  |some c=>rw[g1.old l c (by simpa using ne) q];rw[q]at hl;exact hl
 have v:Rp ⇑l (nA x) d=.ok xs[x] d:=by show rO (RL d l) (λxs=>ob (Xm xs (.ofNat x)) _)=_;rw[j];show ob (xs[x]?) _=_;rw[Nz t];rfl
 have f:fT (cN dl (n+1)) [.SM,⇑w,⇑l] S=.ok xs[x] d:=RG (aV (RB rfl (aj (RI rfl (RI rfl (RI (Sb rfl (er (xs:=xs) hl rfl)) rfl))) d1) v));let(a,e,g2,y,_):=aS h f g1;exact(_,g,i,a,Qt t,g2,y w _ (a8 h k) t1,by rw[c71];exact e)
theorem lH(j:gF dl)(h:Sj S)(i:look w S.cs= ↑(SS p q r)){xs:List A}(h1:1<=xs.length)(k:xs.length<=900):∃x d f a,x∈xs/\Gr [w] S a/\look w a.cs= ↑(SS d f r)/\cN dl (n+2) 71 [.SM,⇑w,⇑S.nx] (S.nx+1,(S.nx,.lst xs)::S.cs)=.ok x a:=by
 have g0:Gr [w] S (S.nx+1,(S.nx,.lst xs)::S.cs):=.new h;have lt:=a8 h i;have ne:S.nx≠w:=by lia
 let(x,d,f,a,m,g,t,e):=Ag (S:=(S.nx+1,(S.nx,.lst xs)::S.cs)) (l:=S.nx) (xs:=xs) (n:=n) j g0.ids (by rw[aT ne];exact i) ne (by unfold RL;rw[aH]) h1 k;exact(x,d,f,a,m,g0.trans g,t,e)
end
end My
namespace My
open EV
variable{w:Nat}
noncomputable def cap:Nat->Nat
 |0=>1
 |n+1=>3*cap n+1
structure Ok4(n:Nat)(t:Tr):Prop where
 ok:t.ok
 dep:t.dep<=n+1
 cnt:t.cnt<=cap n
theorem ve{t:Tr}(h:t.ok)(d:t.dep=1)(c:t.cnt=1)(n:Nat):Ok4 n t:=(h,⋯,by rw[c];cases n<;>simp[cap])
noncomputable abbrev Et(w:Nat)(room:Nat)(a b c:Option A):Env:=[some .SM,↑⇑w,↑(nA room),a,b,c]
theorem zo(d:gF dl)(h:Sj S)(t:look w S.cs= ↑(SS p q r)):∃(l:Tr)(g:Nat)(i:Int)(a:Rm),l.ok/\l.dep=1/\l.cnt=1/\Gr [w] S a/\look w a.cs= ↑(SS g i r) /\
  ∀(k:Cs)(R:XR),k (Et w room ↑(tR l) none none) a=R->sq (aw 3 (au %[3.7,(ae (cN dl (n+2) 81) %[1.0,1.1,2.4|0])|0])) (sq (Rw (Rq (cO oEq (ae (cN dl (n+2) 81) %[1.0,1.1,2.2|0]) 2.0)) (aw 3 (au %[3.6,(ae (cN dl (n+2) 71) %[1.0,1.1,(bf %[2.0,2.1,2.2,2.5,2.99,2.100,2.1234,2.9999|0])|0])|0])) Ry) k) (Et w room none none none) S=R:=by
 let(x,J,L,M,N,g1,t1,e1):=jn (n:=n+1) (m:=4) d h t ⋯ ⋯;let(y,u,z,a,hy,g2,e,e2):=jn (n:=n+1) (m:=2) d g1.ids t1 ⋯ ⋯;by_cases h0:y=0
 ·let(v,B,E,G,f,g3,H,e3):=lH (n:=n) (xs:=[nA 0,nA 1,nA 2,nA 5,nA 99,nA 100,nA 1234,nA 9999]) d g2.ids e (by simp) (by simp)
  obtain⟨j,I,rfl⟩:∃j,j<=9999/\v=nA j:=by simp only[NB,NU,Ou]at f;rcases f with rfl|rfl|rfl|rfl|rfl|rfl|rfl|rfl<;>exact(_,⋯,rfl)
  refine(.num j,B,E,G,I,rfl,rfl,(g1.trans g2).trans g3,H,λk R hk=>?_);exact aa (aW (xp (RI rfl (RI (aj rfl e1) rfl)))) (aa (aP (RY (RB (aj rfl e2) rfl rfl)) (aW (xp (RI rfl (RI (aj (RI rfl (RI rfl (RI (b8 _ _) rfl))) e3) rfl)))) (by rw[h0];rfl)) hk)
 ·refine(.arg x,u,z,a,by show x<=3;lia,rfl,rfl,g1.trans g2,e,λk R hk=>?_);exact aa (aW (xp (RI rfl (RI (aj rfl e1) rfl)))) (aa (af (RY (RB (aj rfl e2) rfl rfl)) rfl (eT h0)) hk)
section
theorem tO(h:d e S=.ok xs a)(f:few 900 xs=true):bf d e S=.ok ⇑a.nx (a.nx+1,(a.nx,.lst xs)::a.cs):=by unfold bf Res.b new;simp only[rO,gB,h,f,aL,b8]
theorem FM(h:c a S=.ok v e)(f:v=true:=by rfl):Tf c d a S=.ok true e:=by subst f;unfold Tf Res.b;simp only[h]
theorem mB{S:Rm}(h:c a S=.ok v e){R:Res Bool}(k:d a e=R)(f:v=false:=by rfl):Tf c d a S=R:=by subst f;unfold Tf Res.b;simp only[h,k]
theorem KO(d:o a S=.ok ⇑w S)(h:look w S.cs= ↑(SS p q r)):AJ o 2 (.ofNat 1) a S=.ok (.nx a) (AN S w p q (r - 1)):=by unfold AJ Res.x;simp only[rO,gB,T3,d,h,yy,aL,bW];rfl
end
theorem Fc(h:x∈[A.str 4,.str 4,.str 5,.str 53,.str 3,.str 8]):(∃o:Op,x=.str o.s/\SN x (.str 8)=false)\/x=.str 8:=by
 simp only[NB,NU,Ou]at h;rcases h with rfl|rfl|rfl|rfl|rfl|rfl
 ·exact .inl (.add,rfl,rfl)
 ·exact .inl (.add,rfl,rfl)
 ·exact .inl (.sub,rfl,rfl)
 ·exact .inl (.mul,rfl,rfl)
 ·exact .inl (.less,rfl,rfl)
 ·exact .inr rfl
theorem G8(N:gF dl):∀(k n:Nat){S:Rm}{p:Nat}{q r:Int},Sj S->look w S.cs= ↑(SS p q r)->k+4<=n->∃X O Q T d,Ok4 k X/\Gr [w] S d/\look w d.cs= ↑(SS O Q T)/\cN dl n 72 [.SM,⇑w,nA (k+1)] S=.ok (tR X) d:=by
 intro k
 induction k with
 |zero =>
  intro n S p q r h t hn;obtain⟨m,rfl⟩:∃m,n=m+3:=(n - 3,⋯)
  let(l,U,Y,j,l1,l2,l3,g1,t1,e1):=zo (n:=m) (room:=1) N h t;have fin:du (cN dl (m+2)) [.SM,⇑w,nA 1] S=.ok (tR l) j:=RG (e1 _ _ (bC (aP (FM rfl) rfl)));let(d,f2,g2,o2,_):=aS h fin g1;exact(l,U,Y,r,d,ve l1 l2 l3 0,g2,o2 w _ (a8 h t) t1,by rw[c72];exact f2)
 |succ k ih =>
  intro n S p q r h t hn;obtain⟨m,rfl⟩:∃m,n=m+3:=(n - 3,⋯)
  have hw:=a8 h t;let(l,U,Y,j,l1,l2,l3,g1,t1,e1):=zo (n:=m) (room:=k+2) N h t;have c1:∀z:Option A,Rq (cO oLt 1.2 2.2) (Et w (k+2) z none none) j=.ok false j:=λz=>RY (RB rfl rfl (by show Res.ok (A.bl (nb (UG (.ofNat 2) (.ofNat (k+2))))) j=_;rw[cv ⋯];rfl));have c2:∀z:Option A,Rq (cO oLt (cO Rp 1.1 2.2) 2.1) (Et w (k+2) z none none) j=.ok (nb (UG (.ofNat 1) r)) j:=λz=>RY (RB (RB rfl rfl (by show rO (RL j w) (λxs=>ob (Xm xs (.ofNat 2)) j)=.ok (.int r) j;unfold RL;rw[t1];rfl)) rfl rfl)
  have u:∀(B:Nat)(E r2:Int)(d:Rm),Gr [w] S d->look w d.cs= ↑(SS B E r2)->du (cN dl (m+2)) [.SM,⇑w,nA (k+2)] S=.ok (tR l) d->∃X O Q T d,Ok4 (k+1) X/\Gr [w] S d/\look w d.cs= ↑(SS O Q T)/\cN dl (m+3) 72 [.SM,⇑w,nA (k+1+1)] S=.ok (tR X) d:=λB E r2 d g2 H e=>by let(I,J,g3,L,_):=aS h e g2;exact(l,B,E,r2,I,ve l1 l2 l3 _,g3,L w _ hw H,by rw[c72];exact J)
  cases z:nb (UG (.ofNat 1) r)with
  |true=>exact u U Y r j g1 t1 (RG (e1 _ _ (bC (aP (mB (c1 _) (FM (c2 _) z)) rfl))))
  |false =>
   let(y,B,E,d,hy,g2,H,e2):=jn (n:=m+1) (m:=4) N g1.ids t1 ⋯ ⋯;by_cases h0:y=0
   ·exact u B E r d (g1.trans g2) H (RG (e1 _ _ (bC (aP (mB (c1 _) (mB (c2 _) (RY (RB (aj rfl e2) rfl rfl)) z)) rfl (by rw[h0];rfl)))))
   ·have g3:Gr [w] d (AN d w B E (r - 1)):=.set g2.ids;let(x,p4,q4,S4,hx,g4,t4,e4):=lH (n:=m) (xs:=[.str 4,.str 4,.str 5,.str 53,.str 3,.str 8]) N g3.ids (xK H) (by simp) (by simp);let(a,p5,q5,r5,S5,G,g5,t5,e5):=ih (m+2) g4.ids t4 ⋯;let(b,p6,q6,r6,f,ob,g6,t6,e6):=ih (m+2) g5.ids t5 ⋯
    have M:∀S:Rm,ij (nA (k+1+1)) (nA 1) S=.ok (nA (k+1)) S:=λS=>by show Res.ok (A.int (Int.ofNat (k+1+1) - Int.ofNat 1)) S=_;rw[show Int.ofNat (k+1+1) - Int.ofNat 1=Int.ofNat (k+1) by simp only[Pp];lia]
    have ca:∀{S d:Rm}{i x:A},cN dl (m+2) 72 [.SM,⇑w,nA (k+1)] S=.ok x d->ae (cN dl (m+2) 72) %[1.1,1.2,(cO ij 1.3 2.1)|0] [↑i,some .SM,↑⇑w,↑(nA (k+1+1))] S=.ok x d:=λe=>aj (RI rfl (RI rfl (RI (RB rfl rfl (M _)) rfl))) e
    have pre:∀(R:XR),sq (aw 5 (T4 (Rq (cO oEq 1.4 3.8)) 2.3 2.2)) (ah (cO bg (au %[1.4|0]) (cU ir (ay (mx 1.5) 1 [0,1,2] 4.0 tT (ae (cN dl (m+2) 72) %[1.1,1.2,(cO ij 1.3 2.1)|0]))))) (Et w (k+1+1) ↑(tR l) ↑x none) S4=R->∀y S',R=.ok (.rt y) S'->du (cN dl (m+2)) [.SM,⇑w,nA (k+1+1)] S=.ok y S':=λR hR y S' e=>by subst e;exact RG (e1 _ _ (aa (af (mB (c1 _) (mB (c2 _) (RY (RB (aj rfl e2) rfl rfl)) z)) rfl (eT h0)) (aa (KO rfl H) (aa (aW (aj (RI rfl (RI rfl (RI (tO rfl rfl) rfl))) e4)) hR))))
    rcases Fc hx with⟨o,rfl,ne⟩|rfl
    ·have ge:Gr [w] f (f.nx+1,(f.nx,.lst [tR a,tR b])::f.cs):=.new g6.ids;have cm:ay (mx 1.5) 1 [0,1,2] 4.0 tT (ae (cN dl (m+2) 72) %[1.1,1.2,(cO ij 1.3 2.1)|0]) (Et w (k+1+1) ↑(tR l) ↑(.str o.s) ↑(nA 2)) S4=.ok ⇑f.nx (f.nx+1,(f.nx,.lst [tR a,tR b])::f.cs):=fO (S':=S4) (S1:=f) rfl rfl (dq rfl rfl (ca e5) (dq rfl rfl (ca e6) rfl)) rfl;have fin:=pre _ (aa (aW (kF (RY (RB rfl rfl rfl)) rfl (by cases o<;>rfl))) (aV (RB rfl (Sb (x:= ⇑f.nx) cm (r:=.ok (.tup [tR a,tR b]) (f.nx+1,(f.nx,.lst [tR a,tR b])::f.cs)) (by show rO (RL (f.nx+1,(f.nx,.lst [tR a,tR b])::f.cs) f.nx) _=_;unfold RL;rw[aH];rfl)) rfl))) (tR (.two o a b)) _ rfl;let(I,J,v,L,_):=aS h fin ((((((g1.trans g2).trans g3).trans g4).trans g5).trans g6).trans ge);refine(.two o a b,p6,q6,r6,I,((G.ok,ob.ok),?_,?_),v,L w _ hw ?_,by rw[c72];exact J)
     ·have:=G.dep;have:=ob.dep;simp only[Tr.dep];lia
     ·have:=G.cnt;have:=ob.cnt;simp only[Tr.cnt,cap];lia
     ·have:=a8 g6.ids t6;rw[aT ⋯];exact t6
    ·let(c,p7,q7,r7,g,oc,g7,t7,e7):=ih (m+2) g6.ids t6 ⋯;have ge:Gr [w] g (g.nx+1,(g.nx,.lst [tR a,tR b,tR c])::g.cs):=.new g7.ids;have cm:ay (mx 1.5) 1 [0,1,2] 4.0 tT (ae (cN dl (m+2) 72) %[1.1,1.2,(cO ij 1.3 2.1)|0]) (Et w (k+1+1) ↑(tR l) ↑(.str 8) ↑(nA 3)) S4=.ok ⇑g.nx (g.nx+1,(g.nx,.lst [tR a,tR b,tR c])::g.cs):=fO (S':=S4) (S1:=g) rfl rfl (dq rfl rfl (ca e5) (dq rfl rfl (ca e6) (dq rfl rfl (ca e7) rfl))) rfl;have fin:=pre _ (aa (aW (jY (RY (RB rfl rfl rfl)) rfl)) (aV (RB rfl (Sb (x:= ⇑g.nx) cm (r:=.ok (.tup [tR a,tR b,tR c]) (g.nx+1,(g.nx,.lst [tR a,tR b,tR c])::g.cs)) (by show rO (RL (g.nx+1,(g.nx,.lst [tR a,tR b,tR c])::g.cs) g.nx) _=_;unfold RL;rw[aH];rfl)) rfl))) (tR (.pick a b c)) _ rfl;let(I,J,v,L,_):=aS h fin (((((((g1.trans g2).trans g3).trans g4).trans g5).trans g6).trans g7).trans ge);refine(.pick a b c,p7,q7,r7,I,((G.ok,ob.ok,oc.ok),?_,?_),v,L w _ hw ?_,by rw[c72];exact J)
     ·have:=G.dep;have:=ob.dep;have:=oc.dep;simp only[Tr.dep];lia
     ·have:=G.cnt;have:=ob.cnt;have:=oc.cnt;simp only[Tr.cnt,cap];lia
     ·have:=a8 g7.ids t7;rw[aT ⋯];exact t7
end My
namespace My
open EV
variable{dl:Dl}{p n:Nat}
theorem uE(d:gF dl)(h:Sj S)(t:look w S.cs= ↑(SS p q r))(i:A):∃x f g a,x<10/\Gr [w] S a/\look w a.cs= ↑(SS f g r) /\
  ae (cN dl (n+2) 71) %[1.1,1.2,(bf %[2.0,2.1,(cO ij 1.3 2.1),(ae (cN dl (n+2) 81) %[1.1,1.2,1.3|0])|0])|0] [↑i,some .SM,↑⇑w,↑(nA 10)] S=.ok (nA x) a:=by
 let(y,B,E,G,hy,g1,t1,e1):=jn (n:=n+1) (m:=10) d h t ⋯ ⋯;let(v,k,l,a,e,g2,u,e2):=lH (n:=n) (xs:=[nA 0,nA 1,nA 9,nA y]) d g1.ids t1 (by simp) (by simp)
 obtain⟨j,z,rfl⟩:∃j,j<10/\v=nA j:=by simp only[NB,NU,Ou]at e;rcases e with rfl|rfl|rfl|rfl<;>exact(_,⋯,rfl)
 exact(j,k,l,a,z,g1.trans g2,u,aj (RI rfl (RI rfl (RI (tO (RI rfl (RI rfl (RI rfl (RI (aj rfl e1) rfl)))) rfl) rfl))) e2)
theorem Ef(e:gF dl)(h:Sj S)(t:look w S.cs= ↑(SS p q r)):∃args k l g,Wm args/\Gr [w] S g/\look w g.cs= ↑(SS k l r)/\cN dl (n+3) 73 [.SM,⇑w,nA 10] S=.ok (.tup (args.map nA)) g:=by
 let(a,G,H,I,J,g1,t1,e1):=uE (n:=n) e h t (nA 0);let(b,L,M,g,N,g2,m,e2):=uE (n:=n) e g1.ids t1 (nA 1);let(c,O,Q,T,U,g3,u,e3):=uE (n:=n) e g2.ids m (nA 2);let(d,v,y,S4,Y,g4,i,z):=uE (n:=n) e g3.ids u (nA 3)
 have f:fR (cN dl (n+2)) [.SM,⇑w,nA 10] S=.ok (.tup [nA a,nA b,nA c,nA d]) (S4.nx+1,(S4.nx,.lst [nA a,nA b,nA c,nA d])::S4.cs) :=
  RG (aV (Sb (x:= ⇑S4.nx) (fO (S':=S) (S1:=S4) rfl rfl (dq rfl rfl e1 (dq rfl rfl e2 (dq rfl rfl e3 (dq rfl rfl z rfl)))) rfl) (by show rO (RL (S4.nx+1,(S4.nx,.lst [nA a,nA b,nA c,nA d])::S4.cs) S4.nx) _=_;unfold RL;rw[aH];rfl)))
 let(B,f5,g5,E,_):=aS h f ((((g1.trans g2).trans g3).trans g4).trans (.new g4.ids));have:=a8 g4.ids i;refine([a,b,c,d],v,y,B,(rfl,λx j=>?_),g5,E w _ (a8 h t) (by rw[aT ⋯];exact i),by rw[c73];exact f5);simp only[NB,NU,Ou]at j;rcases j with rfl|rfl|rfl|rfl<;>assumption
noncomputable def Ff:Res A->Bool
 | .ok .Ro _=>true
 |_=>false
theorem Fe(h:Ff r=true):∃S,r=.ok .Ro S:=by
 unfold Ff at h;split at h
 ·exact(_,rfl)
 ·cases h
noncomputable abbrev Fq(dl:Dl)(n:Nat)(p:Pc):Prop:=Ff (Mc (cN dl (n+30)) [Rn p,nA 3] (0,[]))=true
theorem fl0:Fq dl n (Uv[0]'(by decide)):=by kernel_rfl
theorem fl1:Fq dl n (Uv[1]'(by decide)):=by kernel_rfl
theorem fl2:Fq dl n (Uv[2]'(by decide)):=by kernel_rfl
theorem fl3:Fq dl n (Uv[3]'(by decide)):=by kernel_rfl
theorem fl4:Fq dl n (Uv[4]'(by decide)):=by kernel_rfl
theorem YB:Fq dl n (Uv[5]'(by decide)):=by kernel_rfl
theorem Zi:Fq dl n (Uv[6]'(by decide)):=by kernel_rfl
theorem fl7:Fq dl n (Uv[7]'(by decide)):=by kernel_rfl
theorem EH:∀p∈Uv,Fq dl n p:=by simp only[Uv,List.forall_mem_cons];exact(fl0,fl1,fl2,fl3,fl4,YB,Zi,fl7,by simp)
theorem tj{S:Rm}{p:Pc}(h:p∈Uv):cN dl (n+31) 44 [Rn p,nA 3] S=.ok .Ro S:=by let(a,e):=Fe (EH (dl:=dl) (n:=n) p h);rw[c44];exact TJ (bp (aO p) (bp rfl fN)) e rfl
end My
namespace My
open EV
variable{S:Rm}{h y o:Nat}{ps:List Pc}
theorem HG(i:Int):WO i i=true:=by cases i<;>exact N2 _
mutual
theorem HH:∀a:A,aQ a=true->SN a a=true
 | .Ro,_=>rfl
 | .bl b,_=>by cases b<;>rfl
 | .int i,_=>HG i
 | .str n,_=>N2 n
 | .tup d,h=>VZ d h
theorem VZ:∀a:List A,ba a=true->Vj a a=true
 |[],_=>rfl
 |x::a,h=>by let(h1,d):=(Nt _ _).mp h;show(match SN x x with|true=>Vj a a|false=>false)=true;rw[HH x h1];exact VZ a d
end
section
theorem Io(e:Rv S x= ↑a)(f:Rv S z= ↑a)(k:R8 20 a=true)(d:ba a=true):R5 x z S=.ok (.bl false) S:=by show bA (nO (VF S x z)) S=_;unfold VF;simp only[rO,gB,e,f,k,VZ a d];rfl
theorem KA(e:Rv S x= ↑a)(f:Rv S z= ↑a)(k:R8 20 a=true)(d:ba a=true):oEq x z S=.ok (.bl true) S:=by show bA (VF S x z) S=_;unfold VF;simp only[rO,gB,e,f,k,VZ a d];rfl
theorem KY(a:Rv S x=none)(k:Uj 20 x=true)(d:aQ x=true):R5 x x S=.ok (.bl false) S:=by show bA (nO (VF S x x)) S=_;unfold VF;simp only[rO,gB,a,k,HH x d];rfl
theorem ZI{α:Type}{f:α->A}:∀{l:List α},(∀x∈l,Uj 20 (f x)=true)->R8 20 (l.map f)=true
 |[],_=>rfl
 |x::l,h=>by show(match Uj 20 (f x)with|true=>R8 20 (l.map f)|false=>false)=true;rw[h x (.head _)];exact ZI λy hy=>h y (.tail _ hy)
end
theorem okP:∀p∈Uc,Uj 20 (Rn p)=true:=NX.mp (by rfl)
theorem rK:∀{f:List (Nat×α)},look i f= ↑c->put i c (put i d f)=f
 | (k,a)::f,e=>by
  have e:(match Nat.beq k i with|true=>↑a|false=>look i f)= ↑c:=e;show put i c (match Nat.beq k i with|true=>Prod.mk k d::f|false=>Prod.mk k a::put i d f)=_
  cases q:Nat.beq k i with
  |true=>rw[q]at e;cases e;show(match Nat.beq k i with|true=>_|false=>_)=_;rw[q]
  |false=>rw[q]at e;show(match Nat.beq k i with|true=>_|false=>Prod.mk k a::put i c (put i d f))=_;rw[q,rK e]
structure En where
 nm:Nat
 tr:Tr
 bs:Bs
 c:Nat
noncomputable def En.code(e:En):List Nat:=e.bs.2.2++[0]
noncomputable def En.ord(e:En):Nat×A:=(e.nm,.tup [tR e.tr,.tup (e.code.map nA)])
noncomputable def En.US(e:En):Nat×A:=(e.nm,.tup [tR e.tr,⇑e.c])
structure RV(S:Rm)(h y o:Nat)(ps:List Pc)(es:List En):Prop where
 ob:look h S.cs= ↑(.obj 1 [(41,⇑y),(42,⇑o)])
 rd:look y S.cs= ↑(.lst (ps.map Rn))
 od:Vb S ⇑o= ↑(o,es.map En.ord)
theorem uk(h:Vb S ⇑i= ↑(Prod.mk (i) ks))(g:Gr X S a)(d:i∉X):Vb a ⇑i= ↑(Prod.mk (i) ks):=by
 unfold Vb at h ⊢;dsimp only at h ⊢
 cases q:look i S.cs with
 |none=>rw[q]at h;cases h
 |some c=>rw[g.old i c d q];rw[q]at h;exact h
theorem RV.gr(s:RV S h y o ps d)(g:Gr X S e)(a:h∉X/\y∉X/\o∉X):RV e h y o ps d:=(g.old _ _ a.1 s.ob,g.old _ _ a.2.1 s.rd,uk s.od g a.2.2)
theorem RV.Ux(s:RV S h y o ps a)(g:Gr [] S S2):RV S2 h y o ps a:=s.gr g (by simp)
theorem RV.hy(s:RV S h y o ps a):h≠y:=λz=>by have:=s.rd;rw[<- z,s.ob]at this;cases this
theorem RV.oy(s:RV S h y o ps a):o≠y:=λz=>by have:=s.od;rw[z]at this;unfold Vb at this;dsimp only at this;rw[s.rd]at this;cases this
theorem RV.oh(s:RV S h y o ps a):o≠h:=λz=>by have:=s.od;rw[z]at this;unfold Vb at this;dsimp only at this;rw[s.ob]at this;cases this
theorem RV.ro(s:RV S h y o ps a):T7 S 1 ⇑h= ↑(h,[(41,⇑y),(42,⇑o)]):=by unfold T7;simp only[s.ob]
section
theorem fY(s:RV S h y o ps f)(a:e d S=.ok ⇑h S):bc 1 41 e d S=.ok ⇑y S:=by unfold bc Res.b;simp only[rO,gB,a,s.ro];rfl
theorem kR(s:RV S h y o ps d)(a:e ρ S=.ok ⇑h S):bc 1 42 e ρ S=.ok ⇑o S:=by unfold bc Res.b;simp only[rO,gB,a,s.ro];rfl
theorem UC(s:RV S h y o ps p)(d:e a S=.ok ⇑h S)(g:i a S=.ok j k)(f:F (⇑h::j) k=r)(l:look m ([(41,⇑y),(42,⇑o)]:List (Nat×A))=none:=by rfl):aJ 1 m F e i a S=r:=UB d s.ro l g f
end
theorem a7(h:look i S.cs= ↑(.lst a)):RL S i= ↑a:=by unfold RL;rw[h]
theorem vo:∀{l:List Nat},lA (.str k) (l.map A.str)=aG k l
 |[]=>rfl
 |n::l=>by show(match Nat.beq n k with|true=>true|false=>lA (.str k) (l.map A.str))=_;rw[vo];rfl
theorem ua:∀{l:List Nat},R8 20 (l.map A.str)=true
 |[]=>rfl
 |_::l=>ua (l:=l)
noncomputable def bw(ps:List Pc):List Nat:=ps.map (·.nm)
theorem tW:∀p∈Uc,aG p.nm nms=true:=NX.mp (by rfl)
theorem kH(hl:ps.length<=900)(a:look i S.cs= ↑(.lst (ps.map Rn)))(d:it ρ S=.ok ⇑i S)
  (f:∀p∈ps,∀S,c (↑(Rn p)::(Sy 1 fr ρ).tail) S=.ok (k p) S/\(k p=true->e (↑(Rn p)::(Sy 1 fr ρ).tail) S=.ok (g p) S)):ay (iL it) 1 fr 4.0 c e ρ S=.ok ⇑S.nx (S.nx+1,(S.nx,.lst ((ps.filter k).map g))::S.cs) :=
 nY (ys:=ps.map Rn) (yU d (a7 a)) a (by simpa using hl) (by
  show Ti 4.0 c e (ps.map Rn) (none::(Sy 1 fr ρ).tail) [] _=_;rw[nW ps none [] λp j=>f p j _];rfl) (rK a) (by have:=Qw k ps;simp;lia)
theorem qO(d:Sj S)(s:RV S h y o ps q)(hl:ps.length<=900)(j:aG nm nms=true):∃a,cN dl (n+2) 58 [⇑h,.str nm] S=.ok (.bl (aG nm (bw ps))) a/\Gr [] S a:=by
 have l:cN dl (n+1) 82 [.str nm] S=.ok (.bl true) S:=by rw[c82];show bA ↑(aG nm nms) S=_;rw[j];rfl
 have i:=kH (ρ:=[↑⇑h,↑(.str nm)]) (it:=bc 1 41 1.0) (c:=tT) (k:=λ_=>true) (e:=cO Rp 1.0 2.0) (g:=λp=>.str p.nm) (fr:=[]) hl s.rd (fY s rfl) λp _ S=>(rfl,λ_=>rfl)
 rw[Q5.mpr λ_ _=>rfl,show(ps.map λp=>A.str p.nm)=(bw ps).map A.str by simp[bw]]at i
 have f:cX (cN dl (n+1)) [⇑h,.str nm] S=.ok (.bl (aG nm (bw ps))) (S.nx+1,(S.nx,.lst ((bw ps).map A.str))::S.cs):=RG (aV (iw (aj rfl l) (RB rfl i (by
  show bA (WT (S.nx+1,(S.nx,.lst ((bw ps).map A.str))::S.cs) (.str nm) ⇑S.nx) _=_;unfold WT;simp only[rO,gB,show SO (S.nx+1,(S.nx,.lst ((bw ps).map A.str))::S.cs) ⇑S.nx= ↑((bw ps).map A.str) from a7 aH,ua,vo];rfl))))
 let(a,m,g2,_):=aS (X:=[]) d f (.new d);exact(a,by rw[c58];exact m,g2)
end My
namespace My
open EV
variable{ps:List Pc}{es:List En}{p:Pc}{e:Ce}{x:A}
theorem ck_(h:d a S=.ok g i)(j:bs a i=.ok k l)(f:F (m g k) l=r):jg F m d bs a S=r:=by unfold jg Res.b;simp only[h,j];exact f
theorem tN(a:e ρ S=.ok ⇑i S)(h:look i S.cs= ↑(.lst d)):cU aX e ρ S=.ok (nA d.length) S:=Sb a (er (a7 h) rfl)
theorem Lo(f:e d S=.ok x a)(g:i d a=.ok ⇑h a)(j:T7 a k ⇑h= ↑(Prod.mk (h) fs))(l:few 90 fs=true):fI k nm i e d S=.ok (.nx d) (a.nx,put h (.obj k (iK nm x fs)) a.cs):=by unfold fI Res.x;simp only[rO,gB,f,g,j,l,aL,bW]
theorem JD(h:e a S=.exc c d):aw i e a S=.exc c a d:=by unfold aw Res.x;rw[h]
theorem Gh(d:Sj S)(s:RV S h y o ps es)(hs:So ps)(i:p∈Uv)(m:aG p.nm (bw ps)=true):∃a,cN dl (n+40) 60 [⇑h,Rn p] S=.exc 12 a/\Gr [] S a:=by
 have g:p∈Uc:=NO _ i;have le:=hs.le;have j:cN dl (n+39) 33 [Rn p] S=.ok .Ro S:=by rw[c33];exact TJ (bp (aO p) fN) (gm (af (Vc (lI (n:=n+26) g)) rfl)) rfl
 let(k,h1,g1):=qO (dl:=dl) (n:=n+37) d s ⋯ (tW p g);have f:fq (cN dl (n+39)) [⇑h,Rn p] S=.exc 12 k:=rL (aa (TY (aj rfl j)) (mE (aP (WW (UC s rfl (RI rfl rfl) h1)) rfl m)));let(a,l,g2,_):=kg (X:=[]) d f g1;exact(a,by rw[c60];exact l,g2)
theorem CV(i:Sj S)(s:RV S h y o ps es)(hs:So ps)(k:p∈Uv)(m:aG p.nm (bw ps)=false)(l:ps.length<16):∃d,cN dl (n+40) 60 [⇑h,Rn p] S=.ok .Ro d/\Gr [y] S d/\RV d h y o (ps++[p]) es:=by
 have q:p∈Uc:=NO _ k;have le:=hs.le;have r:cN dl (n+39) 33 [Rn p] S=.ok .Ro S:=by rw[c33];exact TJ (bp (aO p) fN) (gm (af (Vc (lI (n:=n+26) q)) rfl)) rfl
 let(a,h1,g1):=qO (dl:=dl) (n:=n+37) i s ⋯ (tW p q);have g:=s.Ux g1;have j:cO oEq (cU aX (bc 1 41 1.0)) 2.16 [↑⇑h,↑(Rn p),none] a=.ok (.bl false) a:=RB (tN (fY g rfl) g.rd) rfl (by show Res.ok (A.bl (Nat.beq (ps.map Rn).length 16)) a=_;rw[eT (by simp;lia)]);have g2:Gr [y] a (a.nx,put y (.lst (ps.map Rn++[Rn p])) a.cs):=.put g1.ids (.head _);have f:fq (cN dl (n+39)) [⇑h,Rn p] S=.ok .Ro (a.nx,put y (.lst (ps.map Rn++[Rn p])) a.cs):=gm (aa (TY (aj rfl r)) (aa (af (WW (UC s rfl (RI rfl rfl) h1)) rfl m) (aa (af (RY j) rfl) (aa (aW (ck_ rfl rfl (tj (n:=n+8) k))) (aa (af rfl rfl) (eZ (fY g rfl) rfl g.rd (by simp;lia)))))));let(d,t,g3,u,_):=aS i f ((g1.sub (by simp)).trans g2);have hy:=a8 i s.rd;refine(d,by rw[c60];exact t,g3,g3.old _ _ (by simpa using s.hy) s.ob,?_,uk s.od g3 (by simpa using s.oy));rw[u y _ hy (aq g.rd),NY];rfl
theorem BO(d:Sj S)(s:RV S h y o ps es)(hs:So ps)(g:aG nm nms=true)(m:aG nm (bw ps)=false):∃a,cN dl (n+4) 61 [⇑h,.str nm] S=.exc 11 a/\Gr [] S a:=by have le:=hs.le;let(i,h1,g1):=qO (dl:=dl) (n:=n+1) d s ⋯ g;have f:dt (cN dl (n+3)) [⇑h,.str nm] S=.exc 11 i:=rL (mE (aP (Vc (UC s rfl (RI rfl rfl) h1)) rfl (by rw[m];rfl)));let(a,j,g2,_):=kg (X:=[]) d f g1;exact(a,by rw[c61];exact j,g2)
theorem wC(d:Sj S)(s:RV S h y o ps es)(hs:So ps)(i:aG nm nms=true)(m:aG nm (bw ps)=true)(l:ps.length=1):∃a,cN dl (n+4) 61 [⇑h,.str nm] S=.exc 8 a/\Gr [] S a:=by have le:=hs.le;let(j,h1,g1):=qO (dl:=dl) (n:=n+1) d s ⋯ i;have g:=s.Ux g1;have f:dt (cN dl (n+3)) [⇑h,.str nm] S=.exc 8 j:=rL (aa (af (Vc (UC s rfl (RI rfl rfl) h1)) rfl (by rw[m];rfl)) (mE (aP (RY (RB (tN (fY g rfl) g.rd) rfl rfl)) rfl (by rw[NC,l];rfl))));let(a,k,g2,_):=kg (X:=[]) d f g1;exact(a,by rw[c61];exact k,g2)
noncomputable def eV(ps:List Pc)(nm:Nat):List Pc:=ps.filter λp=>nb (Nat.beq p.nm nm)
theorem yq(j:Sj S)(s:RV S h y o ps es)(hs:So ps)(u:aG nm nms=true)(m:aG nm (bw ps)=true)(l:ps.length≠1):∃t i,cN dl (n+4) 61 [⇑h,.str nm] S=.ok .Ro i/\Gr [h] S i/\S.nx<=t/\RV i h t o (eV ps nm) es:=by
 have le:=hs.le;let(a,h1,g1):=qO (dl:=dl) (n:=n+1) j s ⋯ u;have d:=s.Ux g1;have v:=kH (S:=a) (ρ:=[↑⇑h,↑(.str nm)]) (it:=bc 1 41 1.0) (c:=Rq (cO R5 (cO Rp 1.0 2.0) 1.1)) (k:=λp=>nb (Nat.beq p.nm nm)) (e:=cV 0) (g:=Rn) (fr:=[1]) ⋯ d.rd (fY d rfl) λp _ S=>(rfl,λ_=>rfl)
 have w:=a8 g1.ids d.ob
 have r:T7 (a.nx+1,(a.nx,.lst ((eV ps nm).map Rn))::a.cs) 1 ⇑h= ↑(h,[(41,⇑y),(42,⇑o)]):=by unfold T7;simp only[aT (show a.nx≠h by lia),d.ob]
 have f:dt (cN dl (n+3)) [⇑h,.str nm] S=.ok .Ro (a.nx+1,put h (.obj 1 [(41,⇑a.nx),(42,⇑o)]) ((a.nx,.lst ((eV ps nm).map Rn))::a.cs)):=gm (aa (af (Vc (UC s rfl (RI rfl rfl) h1)) rfl (by rw[m];rfl)) (aa (af (RY (RB (tN (fY d rfl) d.rd) rfl rfl)) rfl (by rw[NC];exact eT l)) (Lo v rfl r rfl)));have g2:Gr [h] a (a.nx+1,(a.nx,.lst ((eV ps nm).map Rn))::a.cs):=.new g1.ids;have g3:Gr [h] (a.nx+1,(a.nx,.lst ((eV ps nm).map Rn))::a.cs) (a.nx+1,put h (.obj 1 [(41,⇑a.nx),(42,⇑o)]) ((a.nx,.lst ((eV ps nm).map Rn))::a.cs)):=Gr.put g2.ids (.head _);have e1:look h (put h (.obj 1 [(41,⇑a.nx),(42,⇑o)]) ((a.nx,.lst ((eV ps nm).map Rn))::a.cs))= ↑(.obj 1 [(41,⇑a.nx),(42,⇑o)]):=aq (c0:=.obj 1 [(41,⇑y),(42,⇑o)]) (by rw[aT ⋯];exact d.ob);have g:=((g1.sub (Y:=[h]) (by simp)).trans g2).trans g3;let(i,z,g4,G,B):=aS j f g;have E:=a8 j s.ob
 have:=B (.inr ⟨h,_,e1,E,by
  show(Nat.blt a.nx S.nx&&jQ S.nx [⇑o])=false
  cases q:Nat.blt a.nx S.nx with
  |true=>have:=NF q;have:=g1.le;lia
  |false=>rfl⟩)
 subst this;refine(a.nx,_,by rw[c61];exact z,g,g1.le,e1,?_,uk s.od g (by simpa using s.oh));rw[EV.Ru ⋯];exact aH
theorem Ai(s:RV S h y o ps es)(hl:ps.length<=900):cN dl (n+1) 62 [⇑h] S=.ok ⇑S.nx (S.nx+1,(S.nx,.lst (ps.map Rn))::S.cs):=by
 have f:eM (cN dl n) [⇑h] S=.ok ⇑S.nx (S.nx+1,(S.nx,.lst (ps.map Rn))::S.cs):=RG (aV (Sb (fY s rfl) (by
  show rO (RL S y) (λa=>new a S)=_;rw[a7 s.rd];unfold new;simp only[rO,gB,bj (show(ps.map Rn).length<=900 by simpa using hl),aL,b8])))
 rw[c62];unfold aM;rw[f];show(match Nat.blt S.nx S.nx with|true=>_|false=>_)=_;rw[show Nat.blt S.nx S.nx=false by cases q:Nat.blt S.nx S.nx with|true=>have:=NF q;lia|false=>rfl]
noncomputable def uo(e x:En):En:=match Nat.beq x.nm e.nm with
 |true=>e
 |false=>x
noncomputable def j4(e:En)(es:List En):List En:=match es.any λx=>Nat.beq x.nm e.nm with
 |true=>es.map (uo e)
 |false=>es++[e]
theorem qW{f:En->Nat×A}(a:∀e,(f e).1=e.nm):∀{es:List En},(look nm (es.map f)).isSome=es.any λx=>Nat.beq x.nm nm
 |[]=>rfl
 |x::es=>by
  show(match Nat.beq (f x).1 nm with|true=>↑(f x).2|false=>look nm (es.map f)).isSome=_;rw[a,Pk]
  cases Nat.beq x.nm nm with
  |true=>rfl
  |false=>exact qW a
theorem yY{f:En->Nat×A}(a:∀e,(f e).1=e.nm){e:En}:iK e.nm (f e).2 (es.map f)=(j4 e es).map f:=by
 have d:∀es:List En,jN e.nm (f e).2 (es.map f)=(es.map (uo e)).map f:=by
  intro es
  induction es with
  |nil=>rfl
  |cons x es g =>
   show(match Nat.beq (f x).1 e.nm with|true=>Prod.mk (f x).1 (f e).2::jN e.nm (f e).2 (es.map f)|false=>Prod.mk (f x).1 (f x).2::jN e.nm (f e).2 (es.map f))=_;rw[a,g,NR,NR];unfold uo
   cases q:Nat.beq x.nm e.nm with
   |true=>rw[NJ q,<- a e]
   |false=>rw[<- a x]
 unfold iK j4;have q:=qW a (nm:=e.nm) (es:=es)
 cases z:look e.nm (es.map f)with
 |none=>rw[z]at q;rw[<- q];simp[<- a e]
 |some v=>rw[z]at q;rw[<- q];exact d es
theorem zj(d:Sj S)(s:RV S h y o ps es)(hs:So ps)(g:WZ t)(j:aG nm nms=true)(b:best ps 20 t=none):∃a,cN dl (n+20) 63 [⇑h,.str nm,tR t] S=.exc 9 a/\Gr [] S a:=by
 have k:cN dl (n+19) 82 [.str nm] S=.ok (.bl true) S:=by rw[c82];show bA ↑(aG nm nms) S=_;rw[j];rfl
 have l:=f56 (dl:=dl) (n:=n+19) (S:=S) (i:=y) ⋯ hs g (a7 s.rd);rw[b]at l;have f:fk (cN dl (n+19)) [⇑h,.str nm,tR t] S=.exc 9 S:=rL (aa (af (Vc (aj rfl k)) rfl) (mE (JD (aj (RI rfl (RI (fY s rfl) rfl)) l))));let(a,m,g2,_):=kg (X:=[]) d f (.refl d);exact(a,by rw[c63];exact m,g2)
theorem zm{e:En}(d:Sj S)(s:RV S h y o ps es)(g:look o S.cs= ↑(.dct (es.map En.ord)))(j:es.length<=90)(hs:So ps)(t:WZ e.tr)(u:aG e.nm nms=true)(b:best ps 20 e.tr= ↑e.bs)(r:e.c=S.nx):∃a,cN dl (n+20) 63 [⇑h,.str e.nm,tR e.tr] S=.ok ⇑e.c a/\Gr [o] S a/\look e.c a.cs= ↑(.lst (e.code.map nA))/\look o a.cs= ↑(.dct ((j4 e es).map En.ord)):=by
 have v:cN dl (n+19) 82 [.str e.nm] S=.ok (.bl true) S:=by rw[c82];show bA ↑(aG e.nm nms) S=_;rw[u];rfl
 have l:=f56 (dl:=dl) (n:=n+19) (S:=S) (i:=y) ⋯ hs t (a7 s.rd);rw[b]at l;have l:cN dl (n+19) 56 [tR e.tr,⇑y] S=.ok ⇑S.nx (S.nx+1,(S.nx,.lst (e.code.map nA))::S.cs):=l;have lo:=a8 d g;have I:=a8 d s.ob;have g1:Gr [o] S (S.nx+1,(S.nx,.lst (e.code.map nA))::S.cs):=.new d
 have k:T7 (S.nx+1,(S.nx,.lst (e.code.map nA))::S.cs) 1 ⇑h= ↑(h,[(41,⇑y),(42,⇑o)]):=by unfold T7;simp only[aT (show S.nx≠h by lia),s.ob]
 have w:∀z,bc 1 42 1.0 [↑⇑h,↑(.str e.nm),↑(tR e.tr),z] (S.nx+1,(S.nx,.lst (e.code.map nA))::S.cs)=.ok ⇑o (S.nx+1,(S.nx,.lst (e.code.map nA))::S.cs):=λz=>by unfold bc Res.b cV;simp only[rO,gB,PB,k];rfl
 have m:Vm (S.nx+1,(S.nx,.lst (e.code.map nA))::S.cs) ⇑o= ↑(o,es.map En.ord):=by unfold Vm;simp only[aT (show S.nx≠o by lia),g]
 have B:i5 (bc 1 42 1.0) 1.1 (au %[1.2,(cU ir 1.3)|0]) [↑⇑h,↑(.str e.nm),↑(tR e.tr),↑⇑S.nx] (S.nx+1,(S.nx,.lst (e.code.map nA))::S.cs)=.ok (.nx [↑⇑h,↑(.str e.nm),↑(tR e.tr),↑⇑S.nx]) (S.nx+1,put o (.dct ((j4 e es).map En.ord)) ((S.nx,.lst (e.code.map nA))::S.cs)):=by
  have tu:au %[1.2,(cU ir 1.3)|0] [↑⇑h,↑(.str e.nm),↑(tR e.tr),↑⇑S.nx] (S.nx+1,(S.nx,.lst (e.code.map nA))::S.cs)=.ok e.ord.2 (S.nx+1,(S.nx,.lst (e.code.map nA))::S.cs):=xp (RI rfl (RI (Sb rfl (by
   show rO (RL (S.nx+1,(S.nx,.lst (e.code.map nA))::S.cs) S.nx) (λE=>Res.ok (A.tup E) _)=_;rw[a7 aH];rfl)) rfl))
  unfold i5 Res.x;simp only[rO,gB,tu,w,cV,Qf,PB,Um,m,bj (show(es.map En.ord).length<=90 by simpa using j),aL,bW];rw[yY (f:=En.ord) (λ_=>rfl)]
 have f:fk (cN dl (n+19)) [⇑h,.str e.nm,tR e.tr] S=.ok ⇑S.nx (S.nx+1,put o (.dct ((j4 e es).map En.ord)) ((S.nx,.lst (e.code.map nA))::S.cs)):=RG (aa (af (Vc (aj rfl v)) rfl) (aa (aW (aj (RI rfl (RI (fY s rfl) rfl)) l)) (aa B rfl)));let(a,G,g4,J,H):=aS d f (g1.trans (.put g1.ids (.head _)))
 have:=H (.inl (by
  show Nat.blt S.nx S.nx=false;cases q:Nat.blt S.nx S.nx with|true=>have:=NF q;lia|false=>rfl))
 subst this;refine(_,by rw[c63,r];exact G,g4,?_,?_)
 ·rw[r,EV.Ru ⋯];exact aH
 ·exact aq (c0:=.dct (es.map En.ord)) (by rw[aT ⋯];exact g)
end My
namespace My
open EV
variable{S:Rm}{ps:List Pc}{es:List En}{e:En}
noncomputable def bu(es:List En):List Nat:=es.map (·.nm)
theorem iN{f:En->Nat×A}(d:∀e,(f e).1=e.nm):∀{es:List En},(bu es).Nodup->e∈es->look e.nm (es.map f)= ↑(f e).2
 |x::es,a,he=>by
  show(match Nat.beq (f x).1 e.nm with|true=>↑(f x).2|false=>look e.nm (es.map f))=_;have a:=Oe.mp a;rw[d];rcases NB.mp he with rfl|he
  ·rw[N2]
  ·rw[eT λz=>a.1 (by show x.nm∈_;rw[z];exact Py he)];exact iN d a.2 he
structure Uy(e:En):Prop where
 tr:WZ e.tr
 nm:e.nm=0\/e.nm=1\/e.nm=2
 bs:∃ps,So ps/\best ps 20 e.tr= ↑e.bs
theorem Uy.is(h:Uy e):aG e.nm nms=true:=by rcases h.nm with z|z|z<;>rw[z]<;>rfl
theorem Uy.len(h:Uy e):e.bs.1=e.bs.2.2.length/\e.code.length<=900:=by let(ps,hs,a):=h.bs;let(_,d,f,_):=uY (dl:=λ_ _ _=>(0,0,0)) hs 20 e.tr e.bs a;have:=h.tr.cnt;exact(d,by simp[En.code];lia)
theorem EX(h:Vb S ⇑o= ↑(Prod.mk (o) ks))(l:look nm ks= ↑v):gk ⇑o (.str nm) S=.ok v S:=by unfold gk;rw[h];show ob (look nm ks) S=_;rw[l];rfl
theorem EB(h:a d S=.exc c g):cO f a b d S=.exc c g:=by unfold cO Res.b;rw[h]
theorem pf(g:Sj S)(s:RV S h y o ps es)(i:(bu es).Nodup)(j:e∈es)(k:aG e.nm nms=true):∃a,cN dl (n+2) 59 [⇑h,.str e.nm] S=.ok e.ord.2 a/\Gr [] S a:=by
 have l:cN dl (n+1) 82 [.str e.nm] S=.ok (.bl true) S:=by rw[c82];show bA ↑(aG e.nm nms) S=_;rw[k];rfl
 have lk:=iN (f:=En.ord) (λ_=>rfl) i j;have d:rq (.str e.nm) ⇑o S=.ok (.bl false) S:=by unfold rq Um;simp only[rO,gB,s.od,lk];rfl
 have f:fm (cN dl (n+1)) [⇑h,.str e.nm] S=.ok e.ord.2 S:=RG (aa (af (mB (Vc (aj rfl l)) (RY (RB rfl (kR s rfl) d))) rfl) (aV (RB (kR s rfl) rfl (EX s.od lk))));let(a,m,g2,_):=aS (X:=[]) g f (.refl g);exact(a,by rw[c59];exact m,g2)
theorem uF(h:b<=a):Nat.blt a b=false:=by cases q:Nat.blt a b with|true=>have:=NF q;lia|false=>rfl
theorem yi(j:Sj S)(s:RV S h y o ps es)(k:(bu es).Nodup)(l:e∈es)(ok:Uy e):∃i d,cN dl (n+3) 64 [⇑h,.str e.nm] S=.ok ⇑i d/\Gr [] S d/\S.nx<=i/\look i d.cs= ↑(.lst (e.code.map nA)):=by
 let(a,e1,g1):=pf (dl:=dl) (n:=n) j s k l ok.is;have hl:=ok.len.2
 have f:fP (cN dl (n+2)) [⇑h,.str e.nm] S=.ok ⇑a.nx (a.nx+1,(a.nx,.lst (e.code.map nA))::a.cs):=RG (aV (Sb (RB (UC s rfl (RI rfl rfl) e1) rfl rfl) (by
  show new (e.code.map nA) a=_;unfold new;simp only[rO,gB,bj (show(e.code.map nA).length<=900 by simpa using hl),aL,b8])))
 have g:Gr [] S (a.nx+1,(a.nx,.lst (e.code.map nA))::a.cs):=g1.trans (.new g1.ids);let(d,m,_,_,p):=aS j f g;have:=p (.inl (uF g1.le));subst this;exact(a.nx,_,by rw[c64];exact m,g,g1.le,aH)
theorem G9(d:Sj S)(s:RV S h y o ps es)(g:(bu es).Nodup)(i:e∈es)(ok:Uy e):∃a,cN dl (n+3) 65 [⇑h,.str e.nm] S=.ok (tR e.tr) a/\Gr [] S a:=by let(j,e1,g1):=pf (dl:=dl) (n:=n) d s g i ok.is;have f:fQ (cN dl (n+2)) [⇑h,.str e.nm] S=.ok (tR e.tr) j:=RG (aV (RB (UC s rfl (RI rfl rfl) e1) rfl rfl));let(a,k,g2,_):=aS d f g1;exact(a,by rw[c65];exact k,g2)
theorem JA(d:Sj S)(s:RV S h y o ps es)(g:(bu es).Nodup)(j:e∈es)(ok:Uy e)(k:Wm args):∃a,cN dl (n+6) 66 [⇑h,.str e.nm,.tup (args.map nA),nA 10] S=.ok (nA (aA args e.tr)) a/\Gr [] S a:=by let(i,l,e1,g1,_,m):=yi (dl:=dl) (n:=n+2) d s g j ok;let(p,hs,q):=ok.bs;have f:L7 (cN dl (n+5)) [⇑h,.str e.nm,.tup (args.map nA),nA 10] S=.ok (nA (aA args e.tr)) l:=RG (aV (ck_ (RI (UC s rfl (RI rfl rfl) e1) (RI rfl rfl)) (RI rfl rfl) (f23 ⋯ hs ok.tr q k (a7 m))));let(a,r,g2,_):=aS d f g1;exact(a,by rw[c66];exact r,g2)
noncomputable def KR(b:Option Bs)(S:Rm):Res A:=match b with
 |some b=>.ok (nA b.1) S
 |none=>.exc 9 S
theorem f51(j:18<=n)(hs:So ps)(a:WZ t)(d:RL S i= ↑(ps.map Rn)):cN dl n 51 [tR t,⇑i] S=KR (best ps 20 t) S:=by
 obtain⟨m,rfl⟩:∃m,n=m+15:=(n - 15,⋯)
 have f:=a.cnt;have k:=a.dep;rw[c51];have q:=f50 (dl:=dl) (n:=m+14) (S:=Ss ps) (i:=0) ⋯ hs f ⋯ rfl;have t1:=iR (dl:=dl) (n:=m+10) (S:=Ss ps) a.ok ⋯ f;have g:=gj (dl:=dl) (n:=m) (S:=Ss ps) (i:=0) hs rfl
 cases z:best ps 20 t with
 |none =>rw[z]at q;exact De (bp (aF t) (bP d (aI aO ps) fN)) (rL (aa (TY t1) (aa (TY g) (lP (EB (aj rfl q))))))
 |some b =>rw[z]at q;exact TJ (bp (aF t) (bP d (aI aO ps) fN)) (RG (aa (TY t1) (aa (TY g) (aV (RB (aj rfl q) rfl rfl))))) rfl
noncomputable def bQ(ps:List Pc)(e:En):Bool:=match best ps 20 e.tr with
 |none=>true
 |some b=>nb (Nat.beq (b.1+1) e.code.length)
theorem JT(e:b a S=.ok f d):lS b g h a S=.ok f d:=by unfold lS;rw[e]
theorem JS(e:b d S=.exc c a f)(m:aG c g=true):lS b g h d S=(h a f).UU:=by unfold lS;rw[e];dsimp only;rw[m]
theorem yT(j:Sj S)(s:RV S h y o ps es)(hs:So ps)(m:(bu es).Nodup)(p:e∈es)(ok:Uy e):∃d,cN dl (n+20) 67 [⇑h,.str e.nm] S=.ok (.bl (bQ ps e)) d/\Gr [] S d:=by
 let(a,e1,g1):=pf (dl:=dl) (n:=n+17) j s m p ok.is;have g:=s.Ux g1;have l:=f51 (dl:=dl) (n:=n+19) (S:=a) (i:=y) ⋯ hs ok.tr (a7 g.rd)
 have f:dC (cN dl (n+19)) [⇑h,.str e.nm] S=.ok (.bl (bQ ps e)) a:=by
  refine RG (aa (l7 (UC s rfl (RI rfl rfl) e1) rfl) ?_);unfold bQ
  cases z:best ps 20 e.tr with
  |none =>rw[z]at l;have l:cN dl (n+19) 51 [tR e.tr,⇑y] a=.exc 9 a:=l;have b:ah (cO R5 (cO bg (ae (cN dl (n+19) 51) %[1.2,(bc 1 41 1.0)|0]) 2.1) (cU aX 1.3)) [↑⇑h,↑(.str e.nm),↑(tR e.tr),↑(.tup (e.code.map nA))] a=.exc 9 [↑⇑h,↑(.str e.nm),↑(tR e.tr),↑(.tup (e.code.map nA))] a:=lP (EB (EB (aj (RI rfl (RI (fY g rfl) rfl)) l)));exact(JS b rfl).trans rfl
  |some b =>rw[z]at l;have l:cN dl (n+19) 51 [tR e.tr,⇑y] a=.ok (nA b.1) a:=l;exact JT (aV (RB (RB (aj (RI rfl (RI (fY g rfl) rfl)) l) rfl rfl) (Sb rfl (er (k:=e.code.length) rfl (by simp))) rfl))
 let(d,q,g2,_):=aS j f g1;exact(d,by rw[c67];exact q,g2)
end My
namespace My
open EV
variable{es:List En}{e:En}
theorem yg{ρ:Env}{α:Type}{c:Ct}{e:Ce}{f:α->A}{b:α->Bool}{g:α->A}{I:Rm->Prop}(m:∀S a,I S->Gr [] S a->I a):∀(l:List α)(z:Option A)(d:List A)(S:Rm),Sj S->I S->(∀x∈l,∀S,Sj S->I S->∃a,c (↑(f x)::ρ) S=.ok (b x) a/\Gr [] S a/\(b x=true->e (↑(f x)::ρ) a=.ok (g x) a)) ->
  ∃a,Ti 4.0 c e (l.map f) (z::ρ) d S=.ok (d++(l.filter b).map g) a/\Gr [] S a
 |[],z,d,S,j,_,_=>(S,by simp[Ti],.refl j)
 |x::l,z,d,S,j,p,h=>by
  let(i,h1,g1,t):=h x (.head _) S j p;have r:=λd=>yg m l ↑(f x) d i g1.ids (m S i p g1) λy hy=>h y (.tail _ hy)
  cases q:b x with
  |true =>let(a,k,g2):=r (d++[g x]);refine(a,?_,g1.trans g2);show(c (↑(f x)::ρ) S).b _=_;rw[h1];show(match b x with|true=>_|false=>_)=_;rw[q];show(e (↑(f x)::ρ) i).b _=_;rw[t q];show Ti 4.0 c e (l.map f) (↑(f x)::ρ) (d++[g x]) i=_;rw[k];simp[q]
  |false =>let(a,k,g2):=r d;refine(a,?_,g1.trans g2);show(c (↑(f x)::ρ) S).b _=_;rw[h1];show(match b x with|true=>_|false=>_)=_;rw[q];show Ti 4.0 c e (l.map f) (↑(f x)::ρ) d i=_;rw[k];simp[q]
theorem EK(f:d ρ S=.ok ⇑o S)(g:look o S.cs= ↑(.dct ks))(i:c ρ (S.nx,put o (.SH ks) S.cs)=.ok x a):kA d c ρ S=.ok x (a.nx,put o (.dct ks) a.cs):=by unfold kA;simp only[f,g,bW,i]
theorem rP{S:Rm}(h:look o S.cs= ↑(.dct ks)\/look o S.cs= ↑(.SH ks)):Vb S ⇑o= ↑(Prod.mk (o) ks):=by unfold Vb;rcases h with h|h<;>simp only[h]
theorem Gr.back(g:Gr [o] S a)(h:look o S.cs= ↑c)(f:look o a.cs= ↑c):Gr [] S a:=⟨g.le,λi d _ e=>by
 by_cases z:i=o
 ·subst z;rw[h]at e;cases e;exact f
 ·exact g.old i d (by simpa using z) e,g.ids⟩
theorem uD(d:Sj S)(a:look o S.cs= ↑(.dct ks))(g:Gr [] (S.nx,put o (.SH ks) S.cs) S2):Gr [] S (S2.nx+1,put o (.dct ks) ((S2.nx,c)::S2.cs)):=by have lt:=a8 d a;have lo:look o (put o (.SH ks) S.cs)= ↑(.SH ks):=aq a;have f:=g.old o _ (by simp) lo;have g1:Gr [o] S (S.nx,put o (.SH ks) S.cs):=.put d (.head _);have g3:Gr [o] S2 (S2.nx+1,(S2.nx,c)::S2.cs):=.new g.ids;have g4:Gr [o] (S2.nx+1,(S2.nx,c)::S2.cs) (S2.nx+1,put o (.dct ks) ((S2.nx,c)::S2.cs)):=Gr.put g3.ids (.head _);have:=g.le;have:S.nx<=S2.nx:=this;refine((g1.trans (g.sub (by simp))).trans (g3.trans g4)).back a (aq (c0:=.SH ks) ?_);rw[aT ⋯];exact f
theorem Lr{l:List Nat}(h:Rv S x= ↑(l.map A.str))(a:mI [0,1,2] l=true)(hl:l.length<=60):xB [0,1,2] x S=.ok ⇑S.nx (S.nx+1,(S.nx,.lst ((e9 l).map A.str))::S.cs):=by unfold xB AQ;simp only[rO,gB,h,DY,a,bj hl,aL,b8]
theorem Ed:∀{l:List Nat},(∀n∈l,n=0\/n=1\/n=2)->mI [0,1,2] l=true
 |[],_=>rfl
 |n::l,h=>by show(aG n [0,1,2]&&mI [0,1,2] l)=true;rw[show aG n [0,1,2]=true by rcases h n (.head _)with z|z|z<;>rw[z]<;>rfl];exact Ed λk hk=>h k (.tail _ hk)
theorem iU:∀{l m:List Nat},l.Nodup->(∀x∈l,x∈m)->l.length<=m.length
 |[],_,_,_=>Om _
 |x::l,m,a,h=>by have a:=Oe.mp a;have d:=iU (l:=l) (m:=m.erase x) a.2 λy hy=>(List.mem_erase_of_ne λz=>a.1 (by rw[<- z];exact hy)).mpr (h y (.tail _ hy));have:=List.length_erase_of_mem (h x (.head _));have:=List.length_pos_of_mem (h x (.head _));simp only[N6];lia
structure Wf(es:List En):Prop where
 nd:(bu es).Nodup
 ok:∀e∈es,Uy e
theorem Wf.le(h:Wf es):es.length<=3:=by
 have:(bu es).length<=[0,1,2].length:=iU h.nd λx a=>by let(e,d,rfl):=OO.mp a;rcases(h.ok e d).nm with z|z|z<;>simp[z]
 simpa[bu]using this
theorem Dr(l:Sj S)(s:RV S h y o j es)(m:look o S.cs= ↑(.dct (es.map En.ord)))(hs:So j)(ok:Wf es):∃i a,cN dl (n+21) 68 [⇑h] S=.ok ⇑i a/\Gr [] S a/\S.nx<=i/\look i a.cs= ↑(.lst ((e9 (bu (es.filter (bQ j)))).map A.str)):=by
 have le:=ok.le;have g1:Gr [o] S (S.nx,put o (.SH (es.map En.ord)) S.cs):=.put l (.head _);have q:RV (S.nx,put o (.SH (es.map En.ord)) S.cs) h y o j es:=(g1.old _ _ (by simpa using s.oh.symm) s.ob,g1.old _ _ (by simpa using s.oy.symm) s.rd,rP (.inr (aq m)))
 let(a,t,g2):=yg (ρ:=[↑⇑h]) (c:=tV (aJ 1 52 (cN dl (n+20) 67) 1.1 %[1.0|0])) (e:=cV 0) (f:=λe:En=>.str e.nm) (b:=bQ j) (g:=λe=>.str e.nm) (I:=λS=>RV S h y o j es) (λ_ _ s g=>s.Ux g) es none [] (S.nx,put o (.SH (es.map En.ord)) S.cs) g1.ids q λe p S l s=>by let(a,e1,g):=yT (dl:=dl) (n:=n) l s hs ok.nd p (ok.ok e p);exact(a,WW (UC s rfl (RI rfl rfl) e1),g,λ_=>rfl)
 have G:=Qw (bQ j) es
 have it:f9 (bc 1 42 1.0) [↑⇑h] (S.nx,put o (.SH (es.map En.ord)) S.cs)=.ok (es.map λe=>.str e.nm,[]) (S.nx,put o (.SH (es.map En.ord)) S.cs):=by unfold f9 Res.b;simp only[rO,gB,WQ,kR q (e:=cV 0) (ρ:=[↑⇑h]) rfl,aq m,aL,PY];rfl
 have u:=fO (k:=1) (fr:=[0]) (tg:=gN 0) (c:=tV (aJ 1 52 (cN dl (n+20) 67) 1.1 %[1.0|0])) (e:=cV 0) it (bj (by simp;lia)) (show Ti _ _ _ _ (none::[↑⇑h]) [] _=_ from t) (bj (by simp;lia));have v:=EK (d:=bc 1 42 1.0) (ρ:=[↑⇑h]) (kR s rfl) m u;have r:=uD (c:=.lst ((es.filter (bQ j)).map λe=>A.str e.nm)) l m g2;have n2:S.nx<=a.nx:=g2.le;have lo:=a8 l m
 have w:Rv (a.nx+1,put o (.dct (es.map En.ord)) ((a.nx,.lst ((es.filter (bQ j)).map λe=>A.str e.nm))::a.cs)) ⇑a.nx= ↑((bu (es.filter (bQ j))).map A.str):=by rw[show(bu (es.filter (bQ j))).map A.str=(es.filter (bQ j)).map λe=>A.str e.nm by simp[bu]];exact a7 (by rw[EV.Ru ⋯];exact aH)
 have z:=Lr w (Ed λn B=>by
  let(e,p,rfl):=OO.mp B;exact(ok.ok e (P6.mp p).1).nm) (by simp[bu];lia)
 have f:ft (cN dl (n+20)) [⇑h] S=.ok ⇑(a.nx+1) _:=RG (aV (Sb v z));have g:=r.trans (.new (c:=.lst ((e9 (bu (es.filter (bQ j)))).map A.str)) r.ids);let(H,f5,_,_,E):=aS l f g;have:=E (.inl (uF ⋯));subst this;exact(a.nx+1,_,by rw[c68];exact f5,g,⋯,aH)
theorem uK:∀(es:List En)(d f:Option A)(a:List A)(S:Rm),Ti (gT [gN 0,gN 1]) tT (cU aX 1.1) (es.map λe=>e.ord.2) [d,f] a S=.ok (a++es.map λe=>nA e.code.length) S
 |[],_,_,a,S=>by simp[Ti]
 |e::es,d,f,a,S=>by have u:cU aX 1.1 [↑(tR e.tr),↑(.tup (e.code.map nA))] S=.ok (nA e.code.length) S:=Sb rfl (er rfl (by simp));refine dq (σ1:=[↑(tR e.tr),↑(.tup (e.code.map nA))]) rfl rfl u ?_;rw[uK es];simp
theorem Dw(g:Sj S)(s:RV S h y o j es)(a:look o S.cs= ↑(.dct (es.map En.ord)))(le:es.length<=3):∃i,cN dl (n+1) 69 [⇑h] S=.ok (nA (es.map (·.code.length)).sum) i/\Gr [] S i:=by
 have g1:Gr [o] S (S.nx,put o (.SH (es.map En.ord)) S.cs):=.put g (.head _);have l:RV (S.nx,put o (.SH (es.map En.ord)) S.cs) h y o j es:=(g1.old _ _ (by simpa using s.oh.symm) s.ob,g1.old _ _ (by simpa using s.oy.symm) s.rd,rP (.inr (aq a)))
 have it:kY (bc 1 42 1.0) [↑⇑h] (S.nx,put o (.SH (es.map En.ord)) S.cs)=.ok (es.map λe=>e.ord.2,[]) (S.nx,put o (.SH (es.map En.ord)) S.cs):=by unfold kY Res.b;simp only[rO,gB,WQ,kR l (e:=cV 0) (ρ:=[↑⇑h]) rfl,aq a,aL,PY];rfl
 have m:=fO (k:=2) (fr:=[]) (tg:=gT [gN 0,gN 1]) (c:=tT) (e:=cU aX 1.1) it (bj (by simp;lia)) (uK es none none [] _) (bj (by simp;lia));have p:=EK (d:=bc 1 42 1.0) (ρ:=[↑⇑h]) (kR s rfl) a m;have q:=uD (S2:=(S.nx,put o (.SH (es.map En.ord)) S.cs)) (c:=.lst (([]:List A)++es.map λe=>nA e.code.length)) g a (.refl g1.ids);have lo:=a8 g a
 have r:Rv (S.nx+1,put o (.dct (es.map En.ord)) ((S.nx,.lst (([]:List A)++es.map λe=>nA e.code.length))::put o (.SH (es.map En.ord)) S.cs)) ⇑S.nx= ↑((es.map (·.code.length)).map nA):=by rw[show(es.map (·.code.length)).map nA=([]:List A)++es.map λe=>nA e.code.length by simp];exact a7 (by rw[EV.Ru ⋯];exact aH)
 have f:fy (cN dl n) [⇑h] S=.ok (nA (es.map (·.code.length)).sum) _:=RG (aV (Sb p (sj r)));let(t,f5,g5,_):=aS g f q;exact(t,by rw[c69];exact f5,g5)
theorem Ih(d:Sj S)(s:RV S h y o j es)(g:look o S.cs= ↑(.dct (es.map En.ord))):∃a,cN dl (n+1) 70 [⇑h] S=.ok (nA es.length) a/\Gr [] S a:=by
 have f:dU (cN dl n) [⇑h] S=.ok (nA es.length) S:=RG (aV (Sb (kR s rfl) (by
  unfold l5 Vm;simp only[rO,gB,g,NC];rfl)))
 let(a,i,g2,_):=aS (X:=[]) d f (.refl d);exact(a,by rw[c70];exact i,g2)
end My
namespace My
open EV
theorem Hb(h:b a S=.ok f d):jT b i r e a S=.ok f d:=by unfold jT;rw[h]
theorem DB(h:b d S=.exc c a e)(m:aG c f=true)(g:a[i]?= ↑z):jT b i r f d S=.ok (.rt (.tup [.str r,nA (c - 1)])) e:=by unfold jT;rw[h];dsimp only;rw[m,g]
theorem RV.to{S2:Rm}(s:RV S h y o a d)(f:∀i c,i=h\/i=y\/i=o->look i S.cs= ↑c->look i S2.cs= ↑c):RV S2 h y o a d:=⟨f _ _ (.inl rfl) s.ob,f _ _ (.inr (.inl rfl)) s.rd,by
 have:=s.od;unfold Vb at this ⊢;dsimp only at this ⊢
 cases q:look o S.cs with
 |none=>rw[q]at this;cases this
 |some c=>rw[f o c (.inr (.inr rfl)) q];rw[q]at this;exact this⟩
theorem RV.lt(s:RV S h y o d e)(a:Sj S):h<S.nx/\y<S.nx/\o<S.nx:=⟨a8 a s.ob,a8 a s.rd,by
 have:=s.od;unfold Vb at this;dsimp only at this
 cases q:look o S.cs with
 |none=>rw[q]at this;cases this
 |some c=>exact a8 a q⟩
theorem sH(d:Sj S)(s:RV S h y o e k)(hs:So e)(g:p∈Uv)(m:aG p.nm (bw e)=true):∃a,cN dl (n+41) 83 [⇑h,nA 0,Rn p,.Ro] S=.ok (.tup [.str 68,nA 11]) a/\Gr [] S a:=by let(i,e1,g1):=Gh (dl:=dl) (n:=n) d s hs g m;have f:bz (cN dl (n+40)) [⇑h,nA 0,Rn p,.Ro] S=.ok (.tup [.str 68,nA 11]) i:=RG (DB (mE (aP rfl (lP (UC s rfl (RI rfl rfl) e1)))) rfl rfl);let(a,j,g2,_):=aS d f g1;exact(a,by rw[Yr];exact j,g2)
theorem Bx(g:Sj S)(s:RV S h y o d j)(hs:So d)(k:p∈Uv)(m:aG p.nm (bw d)=false)(l:d.length<16):∃a,cN dl (n+41) 83 [⇑h,nA 0,Rn p,.Ro] S=.ok .Ro a/\Gr [y] S a/\RV a h y o (d++[p]) j:=by let(q,e1,g1,r):=CV (dl:=dl) (n:=n) g s hs k m l;have f:bz (cN dl (n+40)) [⇑h,nA 0,Rn p,.Ro] S=.ok .Ro q:=RG (Hb (bC (aP rfl (aV (UC s rfl (RI rfl rfl) e1)))));let(a,t,g2,u,_):=aS g f g1;let(w,z,B):=s.lt g;exact(a,by rw[Yr];exact t,g2,r.to λi c v e=>u i c (by rcases v with rfl|rfl|rfl<;>assumption) e)
section
theorem pY(d:Sj S)(s:RV S h y o e k)(hs:So e)(g:aG nm nms=true)(m:aG nm (bw e)=false):∃a,cN dl (n+41) 83 [⇑h,nA 1,.str nm,.Ro] S=.ok (.tup [.str 68,nA 10]) a/\Gr [] S a:=by let(i,e1,g1):=BO (dl:=dl) (n:=n+36) d s hs g m;have f:bz (cN dl (n+40)) [⇑h,nA 1,.str nm,.Ro] S=.ok (.tup [.str 68,nA 10]) i:=RG (DB (aa (af rfl rfl) (mE (aP rfl (lP (UC s rfl (RI rfl rfl) e1))))) rfl rfl);let(a,j,g2,_):=aS d f g1;exact(a,by rw[Yr];exact j,g2)
theorem mf(e:Sj S)(s:RV S h y o d k)(hs:So d)(g:aG nm nms=true)(m:aG nm (bw d)=true)(l:d.length=1):∃a,cN dl (n+41) 83 [⇑h,nA 1,.str nm,.Ro] S=.ok (.tup [.str 68,nA 7]) a/\Gr [] S a:=by let(i,e1,g1):=wC (dl:=dl) (n:=n+36) e s hs g m l;have f:bz (cN dl (n+40)) [⇑h,nA 1,.str nm,.Ro] S=.ok (.tup [.str 68,nA 7]) i:=RG (DB (aa (af rfl rfl) (mE (aP rfl (lP (UC s rfl (RI rfl rfl) e1))))) rfl rfl);let(a,j,g2,_):=aS e f g1;exact(a,by rw[Yr];exact j,g2)
theorem xJ(g:Sj S)(s:RV S h y o e j)(hs:So e)(k:aG nm nms=true)(m:aG nm (bw e)=true)(l:e.length≠1):∃a d,cN dl (n+41) 83 [⇑h,nA 1,.str nm,.Ro] S=.ok .Ro d/\Gr [h] S d/\S.nx<=a/\RV d h a o (eV e nm) j:=by
 let(a,p,e1,g1,hy,i):=yq (dl:=dl) (n:=n+36) g s hs k m l;have f:bz (cN dl (n+40)) [⇑h,nA 1,.str nm,.Ro] S=.ok .Ro p:=RG (Hb (aa (af rfl rfl) (bC (aP rfl (aV (UC s rfl (RI rfl rfl) e1))))));let(d,q,g2,t,r):=aS g f g1
 have:=r (.inr ⟨h,_,i.ob,(s.lt g).1,by
  show(Nat.blt a S.nx&&jQ S.nx [⇑o])=false;rw[uF hy];rfl⟩)
 subst this;exact(a,d,by rw[Yr];exact q,g1,hy,i)
theorem sF(d:Sj S)(s:RV S h y o e l)(hs:So e)(g:WZ t)(i:aG nm nms=true)(b:best e 20 t=none):∃a,cN dl (n+41) 83 [⇑h,nA 2,.str nm,tR t] S=.ok (.tup [.str 68,nA 8]) a/\Gr [] S a:=by let(j,e1,g1):=zj (dl:=dl) (n:=n+20) d s hs g i b;have f:bz (cN dl (n+40)) [⇑h,nA 2,.str nm,tR t] S=.ok (.tup [.str 68,nA 8]) j:=RG (DB (aa (af rfl rfl) (aa (af rfl rfl) (mE (aP rfl (lP (UC s rfl (RI rfl (RI rfl rfl)) e1)))))) rfl rfl);let(a,k,g2,_):=aS d f g1;exact(a,by rw[Yr];exact k,g2)
end
theorem Bw{e:En}(i:Sj S)(s:RV S h y o j d)(k:look o S.cs= ↑(.dct (d.map En.ord)))(g:d.length<=90)(hs:So j)(l:WZ e.tr)(m:aG e.nm nms=true)(b:best j 20 e.tr= ↑e.bs)(p:e.c=S.nx):∃a,cN dl (n+41) 83 [⇑h,nA 2,.str e.nm,tR e.tr] S=.ok ⇑e.c a/\Gr [o] S a/\look e.c a.cs= ↑(.lst (e.code.map nA))/\look o a.cs= ↑(.dct ((j4 e d).map En.ord)):=by let(q,e1,g1,r,t):=zm (dl:=dl) (n:=n+20) i s k g hs l m b p;have f:bz (cN dl (n+40)) [⇑h,nA 2,.str e.nm,tR e.tr] S=.ok ⇑e.c q:=RG (Hb (aa (af rfl rfl) (aa (af rfl rfl) (bC (aP rfl (aV (UC s rfl (RI rfl (RI rfl rfl)) e1)))))));let(a,u,g2,w,v):=aS i f g1;have:=v (.inl (uF ⋯));subst this;exact(a,by rw[Yr];exact u,g1,r,t)
end My
namespace My
open EV
variable{S:Rm}{h y o k w d s0:Nat}{ps:List Pc}{es:List En}{p:Pc}{e:En}{b:Cs}
structure Wd(w h o d:Nat)(S:Rm)(y k:Nat)(ps:List Pc)(es:List En):Prop where
 ids:Sj S
 sp:RV S h y o ps es
 od:look o S.cs= ↑(.dct (es.map En.ord))
 st:look k S.cs= ↑(.lst (ps.map Rn))
 dn:look d S.cs= ↑(.dct (es.map En.US))
 cs:∀e∈es,look e.c S.cs= ↑(.lst (e.code.map nA))
 tw:∃p q r,look w S.cs= ↑(SS p q r)
 hs:So ps
 ok:Wf es
 ky:k≠y
 yw:y≠w
 kw:k≠w
 cy:∀e∈es,e.c≠y/\e.c≠w
 nd:o≠d
theorem Wd.gr(W:Wd w h o d S y k ps es)(g:Gr X S a)(j:∀i∈X,look i S.cs=none):Wd w h o d a y k ps es:=by have f:∀i c,look i S.cs= ↑c->look i a.cs= ↑c:=λi c e=>g.old i c (λz=>by rw[j i z]at e;cases e) e;let(p,q,r,t):=W.tw;exact(g.ids,W.sp.to λi c _ e=>f i c e,f _ _ W.od,f _ _ W.st,f _ _ W.dn,λe l=>f _ _ (W.cs e l),(p,q,r,f _ _ t),W.hs,W.ok,W.ky,W.yw,W.kw,W.cy,W.nd)
theorem Wd.Ux(W:Wd w h o d S y k ps es)(g:Gr [] S S2):Wd w h o d S2 y k ps es:=W.gr g (by simp)
theorem Wd.tn(W:Wd w h o d S y k ps es)(e:look i S.cs= ↑c)(a:∀p q r,c≠SS p q r):i≠w:=λz=>by let(p,q,r,t):=W.tw;rw[z,t]at e;cases e;exact a _ _ _ rfl
theorem Wd.XS{a:Rm}(W:Wd w h o d S y k ps es)(g:Gr [w] S a){p:Nat}{q r:Int}(t:look w a.cs= ↑(SS p q r)):Wd w h o d a y k ps es:=by have f:∀i c,i≠w->look i S.cs= ↑c->look i a.cs= ↑c:=λi c z e=>g.old i c (by simpa using z) e;have v:=W.tn W.sp.ob (λ_ _ _ z=>nomatch z);have l:=W.tn W.od (λ_ _ _ z=>nomatch z);have m:=W.tn W.dn (λ_ _ _ z=>nomatch z);exact(g.ids,W.sp.to λi c u e=>f i c (by rcases u with rfl|rfl|rfl<;>first|assumption|exact W.yw) e,f _ _ l W.od,f _ _ W.kw W.st,f _ _ m W.dn,λe j=>f _ _ (W.cy e j).2 (W.cs e j),(p,q,r,t),W.hs,W.ok,W.ky,W.yw,W.kw,W.cy,W.nd)
theorem KI(m:Sj S)(h:b r S=.ok (.nx f) a)(g:Gr X S a):∃j,sG ds b r S=.ok (.nx (kill ds f)) j/\Gr X S j/\∀i c,i<S.nx->look i a.cs= ↑c->look i j.cs= ↑c:=by
 unfold sG YF;simp only[h,aL]
 cases q:eW S.nx (kill ds f)with
 |false=>exact(a,rfl,g,λ_ _ _ h=>h)
 |true =>
  unfold jZ;dsimp only
  cases t:cP S.nx a.cs with
  |false=>exact(a,rfl,g,λ_ _ _ h=>h)
  |true =>refine((S.nx,old S.nx a.cs),aL _ _,(Nu _,λi c l e=>?_,iJ),λi c l e=>(dA l).trans e);exact(dA (a8 m e)).trans (g.old i c l e)
theorem KW{g i:Rm}{a:Env}{e:Ce}{F:RJ}{as bs:Ca}{gv:List A->List A->List A}{j l:List A}{r:Res A}(s:RV S h y o ps es)(m:e a S=.ok ⇑h S)(q:as a S=.ok j g)(t:bs a g=.ok l i)(f:F (gv (⇑h::j) l) i=r)(u:look mn ([(41,⇑y),(42,⇑o)]:List (Nat×A))=none:=by rfl):jh 1 mn F gv e as bs a S=r:=by unfold jh Res.b;simp only[rO,gB,m,s.ro,u,Option.isNone,q,t];exact f
theorem okc(l:List Nat):R8 20 (l.map nA)=true:=ZI λ_ _=>rfl
theorem zG{a b:Nat}:R5 (nA a) (nA b) S=.ok (.bl (nb (Nat.beq a b))) S:=rfl
noncomputable abbrev Vs(w h k d s0:Nat)(a b c f g:Option A):Env:=[some .SM,↑⇑w,↑⇑h,↑⇑k,↑⇑d,↑⇑s0,a,b,c,f,g]
theorem uq(hf:gF dl)(W:Wd w h o d S y k ps es)(v:e∈es){l:List Nat}(O:look s0 S.cs= ↑(.lst (l.map A.str)))(L:s0≠w)(la:l.length<=900)(Q T E g:Option A) :
  ∃y7 y8 y9 V0 j,cJ (cN dl (n+40)) (Vs w h k d s0 ↑(.str e.nm) Q T E g) S=.ok (.nx (Vs w h k d s0 ↑(.str e.nm) y7 y8 y9 V0)) j/\Gr [w,s0] S j/\(∃p q r,look w j.cs= ↑(SS p q r))/\look s0 j.cs= ↑(.lst ((l++(match bQ ps e with|true=>[e.nm]|false=>[])).map A.str)):=by
 have ok:=W.ok.ok e v;have I:=W.ok.nd;let(p,q,r,t):=W.tw;have w0:=a8 W.ids t;have l0:=a8 W.ids O;let(i,U,e1,g1,_,c1):=yi (dl:=dl) (n:=n+37) W.ids W.sp I v ok;have G:=W.Ux g1;let(j,e2,g2):=G9 (dl:=dl) (n:=n+37) G.ids G.sp I v ok;have m:=G.Ux g2;have e3:=f79 (dl:=dl) m.hs e.tr (n:=n+40) (S:=j) (by have:=ok.tr.dep;lia) (by have:=ok.tr.dep;lia) (a7 m.st);have B:=(g1.trans g2).old s0 _ (by simp) O
 obtain⟨H,g3,t3,l3,a3⟩:∃H,Gr [w,s0] j H/\look w H.cs= ↑(SS p q r)/\look s0 H.cs= ↑(.lst ((l++(match bQ ps e with|true=>[e.nm]|false=>[])).map A.str)) /\
   Rw (Tf (Rq (cU iq 1.9)) (Rq (cO R5 (cO bg 1.9 2.1) (cU aX 1.8)))) (RX (cM dB 1.5 1.6)) Ry (Vs w h k d s0 ↑(.str e.nm) ↑(tR e.tr) ↑⇑e.c ↑(Si (best ps 20 e.tr)) g) j=.ok (.nx (Vs w h k d s0 ↑(.str e.nm) ↑(tR e.tr) ↑⇑e.c ↑(Si (best ps 20 e.tr)) g)) H:=by
  have J:RX (cM dB 1.5 1.6) (Vs w h k d s0 ↑(.str e.nm) ↑(tR e.tr) ↑⇑e.c ↑(Si (best ps 20 e.tr)) g) j=.ok (.nx (Vs w h k d s0 ↑(.str e.nm) ↑(tR e.tr) ↑⇑e.c ↑(Si (best ps 20 e.tr)) g)) (j.nx,put s0 (.lst (l.map A.str++[.str e.nm])) j.cs):=eZ rfl rfl B (by simpa using la);have g3:Gr [w,s0] j (j.nx,put s0 (.lst (l.map A.str++[.str e.nm])) j.cs):=.put g2.ids (by simp);have M:=(g1.trans g2).old w _ (by simp) t;unfold bQ
  cases z:best ps 20 e.tr with
  |none=>rw[z]at J;exact(_,g3,by rw[EV.Ru (OB L)];exact M,by rw[aq B];simp,aP (FM rfl) J)
  |some b =>
   rw[z]at J;have u:∀g,Rq (cO R5 (cO bg 1.9 2.1) (cU aX 1.8)) (Vs w h k d s0 ↑(.str e.nm) ↑(tR e.tr) ↑⇑e.c ↑(Si (some b)) g) j=.ok (nb (Nat.beq (b.1+1) e.code.length)) j:=λg=>RY (RB (RB rfl rfl rfl) (tN rfl (m.cs e v)) (by rw[NC];exact zG));dsimp only
   cases q:nb (Nat.beq (b.1+1) e.code.length)with
   |true=>exact(_,g3,by rw[EV.Ru (OB L)];exact M,by rw[aq B];simp,aP (mB rfl (u _)) J q)
   |false=>exact(j,.refl g2.ids,M,by simpa using B,af (mB rfl (u _)) rfl q)
 let(args,p4,q4,S4,oa,g4,t4,e4):=Ef (n:=n+37) hf g3.ids t3;have N:Gr [w,s0] S S4:=((g1.trans g2).sub (by simp)).trans (g3.trans (g4.sub (by simp)))
 have s4:RV S4 h y o ps es:=m.sp.to λi c hi e=>(g3.trans (g4.sub (Y:=[w,s0]) (by simp))).old i c (by
  have a1:=m.tn m.sp.ob (λ_ _ _ z=>nomatch z);have a2:=m.tn m.od (λ_ _ _ z=>nomatch z);have b1:h≠s0:=λz=>by have:=m.sp.ob;rw[z,B]at this;cases this
  have b2:o≠s0:=λz=>by have:=m.od;rw[z,B]at this;cases this
  have b3:y≠s0:=λz=>by
   have:=m.sp.rd;rw[z,B]at this;have hl:=m.hs.pos
   cases l with
   |nil=>cases ps<;>simp at hl this
   |cons a l=>cases ps with
    |nil=>simp at hl
    |cons p ps=>simp[Rn]at this
  have b4:=m.yw;rcases hi with rfl|rfl|rfl<;>simp[*]) e
 let(S5,e5,g5):=JA (dl:=dl) (n:=n+34) g4.ids s4 I v ok oa;have e6:=ff (dl:=dl) oa e.tr (n:=n+40) (S:=S5) ok.tr.ok (by have:=ok.tr.dep;lia);have cc:cO R5 (aJ 1 51 (cN dl (n+40) 64) 1.2 %[1.6|0]) 1.8 (Vs w h k d s0 ↑(.str e.nm) ↑(tR e.tr) ↑⇑e.c E g) S=.ok (.bl false) U:=RB (UC W.sp rfl (RI rfl rfl) e1) rfl (Io (a7 c1) (a7 (G.cs e v)) (okc _) (aI bI _));have ct:cO R5 (aJ 1 63 (cN dl (n+40) 65) 1.2 %[1.6|0]) 1.7 (Vs w h k d s0 ↑(.str e.nm) ↑(tR e.tr) ↑⇑e.c E g) U=.ok (.bl false) j:=RB (UC G.sp rfl (RI rfl rfl) e2) rfl (KY (by cases e.tr<;>rfl) (iW e.tr (by have:=ok.tr.dep;lia)) (aF _));have lk:=EX (S:=S) (o:=d) (rP (.inl W.dn)) (iN (f:=En.US) (λ_=>rfl) I v)
 have body:=aa (l7 (t:=gT [gN 7,gN 8]) (e:=cO gk 1.4 1.6) (ρ:=Vs w h k d s0 ↑(.str e.nm) Q T E g) (RB rfl rfl lk) rfl)
  (aa (af (a:=ah (cC (.bl false))) (b:=Ry) (mB (RY cc) (RY ct)) rfl) (aa (aW (i:=9) (ρ:=Vs w h k d s0 ↑(.str e.nm) ↑(tR e.tr) ↑⇑e.c E g) (aj (es:=aC 1.7 %[1.3|0]) rfl e3)) (aa a3 (aa (aW (i:=10) (ρ:=Vs w h k d s0 ↑(.str e.nm) ↑(tR e.tr) ↑⇑e.c ↑(Si (best ps 20 e.tr)) g) (aj (es:=aC 1.0 %[1.1,2.10|0]) rfl e4))
   (af (a:=ah (cC (.bl false))) (b:=Ry) (RY (RB (KW (e:=cV 2) (gv:=eG) (as:=aC 1.6 %[1.10|0]) (bs:=aC 2.10 aN) (mn:=64) s4 rfl rfl rfl e5) (aj (es:=aC 1.7 %[1.10,2.10|0]) rfl e6) zG)) rfl (by rw[N2];rfl))))))
 let(S6,f6,g6,o6):=KI (ds:=[8]) W.ids body (N.trans (g5.sub (by simp)));refine(↑(tR e.tr),some .any,↑(Si (best ps 20 e.tr)),↑(.tup (args.map nA)),S6,f6,g6,(p4,q4,r,o6 w _ w0 (g5.old w _ (by simp) t4)),o6 s0 _ l0 (g5.old s0 _ (by simp) (g4.old s0 _ (by simpa using L) l3)))
end My
namespace My
open EV
theorem Gr.ZJ(g:Gr X B S)(a:Sj B)(h:∀i∈X,i=w\/B.nx<=i):Gr [w] B S:=⟨g.le,λj c d e=>g.old j c (λz=>by
 have:=a8 a e;rcases h j z with z|z
 ·exact d (by simp[z])
 ·lia) e,g.ids⟩
theorem lR(Q:gF dl)(W:Wd w h o d B y k T es)(hs:B.nx<=j)(hw:w<B.nx)(U:∀i∈X,i=w\/B.nx<=i)(u:w∈X/\j∈X):∀(L:List En)(a:List Nat)(G v z E f:Option A)(S:Rm),(∀e∈L,e∈es)->Gr X B S->(∃p q r,look w S.cs= ↑(SS p q r))->look j S.cs= ↑(.lst (a.map A.str))->a.length+L.length<=900 ->
  ∃y6 H I J M m,lp 4.6 (cJ (cN dl (n+40))) (L.map λe=>.str e.nm) (Vs w h k d j G v z E f) S=.ok (.nx (Vs w h k d j y6 H I J M)) m/\Gr [w,j] S m/\(∃p q r,look w m.cs= ↑(SS p q r))/\look j m.cs= ↑(.lst ((a++bu (L.filter (bQ T))).map A.str))
 |[],a,G,v,z,E,f,S,_,g,t,l,_=>(G,v,z,E,f,S,rfl,.refl g.ids,t,by simpa[bu]using l)
 |e::L,a,G,v,z,E,f,S,Y,g,t,l,hl=>by simp only[N6]at hl;let(p,q,r,tt):=t;have WS:=W.XS (g.ZJ W.ids U) tt;let(H,I,J,M,S1,e1,g1,t1,l1):=uq (n:=n) Q WS (Y e (.head _)) l ⋯ ⋯ v z E f;have N:Gr X S S1:=g1.sub (by simp[u]);let(x6,x7,x8,x9,O,m,e2,g2,t2,l2):=lR Q W hs hw U u L _ ↑(.str e.nm) H I J M S1 (λe he=>Y e (.tail _ he)) (g.trans N) t1 l1 (by split<;>simp<;>lia);refine(x6,x7,x8,x9,O,m,fD rfl e1 e2,g1.trans g2,t2,?_);rw[l2];cases q:bQ T e<;>simp[bu,q]
theorem rV{L:List En}(e:L.Perm d)(hs:bu L=e9 (bu d)):e9 (bu (d.filter f))=bu (L.filter f):=by
 refine List.Perm.eq_of_pairwise (le:=(·<=·)) (λ_ _ _ _ a b=>Nat.le_antisymm a b) pP ?_ ?_
 ·refine List.Pairwise.sublist (List.Sublist.map _ List.filter_sublist) (?_:(bu L).Pairwise (·<=·));rw[hs];exact pP
 ·exact Tw.trans ((e.filter f).map _).symm
theorem zH:∀{L:List En}{m:List Nat},PySem.Paired (λ(e:En)(n:Nat)=>e.nm=n) L m->bu L=m
 |_,_,.nil=>rfl
 |_,_,.cons h t=>by rw[<- zH t,<- h];rfl
theorem zL:∀a:List En,PySem.Paired (λ(e:En)(n:Nat)=>e.nm=n) a (bu a)
 |[]=>.nil
 |_::a=>.cons rfl (zL a)
theorem mw(a:List En):∃L:List En,L.Perm a/\bu L=e9 (bu a) :=
 let⟨L,h1,d⟩:=IJ (Tw (l:=bu a)) (zL a)
 (L,h1,zH d)
theorem uJ{S:Rm}(hk:look d S.cs= ↑(.SH ks)):∀(a:List En)(z:Option A)(f:List A),(∀e∈a,look e.nm ks= ↑e.US.2/\look e.c S.cs= ↑(.lst (e.code.map nA)))->Ti 4.0 tT (cU aX (cO Rp (cO gk 1.1 1.0) 2.1)) (a.map λe=>.str e.nm) [z,↑⇑d] f S=.ok (f++a.map λe=>nA e.code.length) S
 |[],_,f,_=>by simp[Ti]
 |e::a,z,f,h=>by
  let(h1,g):=h e (.head _)
  have u:cU aX (cO Rp (cO gk 1.1 1.0) 2.1) [↑(.str e.nm),↑⇑d] S=.ok (nA e.code.length) S:=by
   have:=tN (e:=cO Rp (cO gk 1.1 1.0) 2.1) (ρ:=[↑(.str e.nm),↑⇑d]) (S:=S) (i:=e.c) (RB (RB rfl rfl (EX (rP (.inr hk)) h1)) rfl rfl) g
   rwa [NC]at this
  refine dq (σ1:=[↑(.str e.nm),↑⇑d]) rfl rfl u ?_;rw[uJ hk a _ _ λe j=>h e (.tail _ j)];simp
theorem pM(hf:gF dl)(W:Wd w h o d S y k Q g):∃m,cN dl (n+41) 80 [.SM,⇑w,⇑h,⇑k,⇑d] S=.ok (.bl true) m/\Wd w h o d m y k Q g:=by
 let(p,q,r,t):=W.tw;have w0:=a8 W.ids t;have le:=W.ok.le;have lp:=W.hs.le;have e1:=Ai (dl:=dl) (n:=n+39) W.sp ⋯;have g1:Gr [] S (S.nx+1,(S.nx,.lst (Q.map Rn))::S.cs):=.new W.ids;have J:=W.Ux g1;have c1:cO R5 (aJ 1 61 (cN dl (n+40) 62) 1.2 aN) 1.3 [some .SM,↑⇑w,↑⇑h,↑⇑k,↑⇑d,none,none,none,none,none,none] S=.ok (.bl false) _:=RB (UC W.sp rfl rfl e1) rfl (Io (a7 aH) (a7 J.st) (ZI λp T=>okP p (W.hs.all p T)) (aI aO _));let(m,e2,g2):=Ih (dl:=dl) (n:=n+39) J.ids J.sp J.od;have M:=J.Ux g2
 have c2:cO R5 (mQ 1 (cN dl (n+40) 70) 1.2) (cU l5 1.4) [some .SM,↑⇑w,↑⇑h,↑⇑k,↑⇑d,none,none,none,none,none,none] (S.nx+1,(S.nx,.lst (Q.map Rn))::S.cs)=.ok (.bl false) m:=by
  have a:mQ 1 (cN dl (n+40) 70) 1.2 [some .SM,↑⇑w,↑⇑h,↑⇑k,↑⇑d,none,none,none,none,none,none] (S.nx+1,(S.nx,.lst (Q.map Rn))::S.cs)=.ok (nA g.length) m:=by unfold mQ Res.b cV;simp only[rO,gB,Qf,PB,J.sp.ro,e2,Res.UU,Uk,nA,NP (show g.length<=900 by lia)]
  have b:cU l5 1.4 [some .SM,↑⇑w,↑⇑h,↑⇑k,↑⇑d,none,none,none,none,none,none] m=.ok (nA g.length) m:=Sb rfl (by unfold l5 Vm;simp only[rO,gB,M.dn,NC];rfl);exact RB a b (by rw[zG,N2];rfl)
 let(j,e3,g3):=Dw (dl:=dl) (n:=n+39) M.ids M.sp M.od le;have l:=M.Ux g3;have gd:Gr [d] j (j.nx,put d (.SH (g.map En.US)) j.cs):=.put l.ids (.head _)
 have it:f9 1.4 [some .SM,↑⇑w,↑⇑h,↑⇑k,↑⇑d,none,none,none,none,none,none] (j.nx,put d (.SH (g.map En.US)) j.cs)=.ok (g.map λe=>.str e.nm,[]) (j.nx,put d (.SH (g.map En.US)) j.cs):=by unfold f9 Res.b cV;simp only[rO,gB,WQ,Qf,PB,aq l.dn,aL,PY];rfl
 have cp:=fO (k:=1) (fr:=[4]) (tg:=gN 0) (c:=tT) (e:=cU aX (cO Rp (cO gk 1.1 1.0) 2.1)) it (bj (by simp;lia)) (uJ (aq l.dn) g none [] λe E=>⟨iN (f:=En.US) (λ_=>rfl) W.ok.nd E,gd.old _ _ (λz=>by
  have:=l.cs e E;rw[NI.mp z,l.dn]at this;cases this) (l.cs e E)⟩) (bj (by simp;lia))
 have fz:=EK (d:=cV 4) (ρ:=[some .SM,↑⇑w,↑⇑h,↑⇑k,↑⇑d,none,none,none,none,none,none]) rfl l.dn cp;have g4:=uD (S2:=(j.nx,put d (.SH (g.map En.US)) j.cs)) (c:=.lst (([]:List A)++g.map λe=>nA e.code.length)) l.ids l.dn (.refl gd.ids);have d3:=a8 l.ids l.dn
 have l4:Rv (j.nx+1,put d (.dct (g.map En.US)) ((j.nx,.lst (([]:List A)++g.map λe=>nA e.code.length))::put d (.SH (g.map En.US)) j.cs)) ⇑j.nx= ↑((g.map (·.code.length)).map nA):=by rw[show(g.map (·.code.length)).map nA=([]:List A)++g.map λe=>nA e.code.length by simp];exact a7 (by rw[EV.Ru ⋯];exact aH)
 have c3:cO R5 (aJ 1 62 (cN dl (n+40) 69) 1.2 aN) (cU pT (kA 1.4 (ay (f9 1.4) 1 [4] 4.0 tT (cU aX (cO Rp (cO gk 1.1 1.0) 2.1))))) [some .SM,↑⇑w,↑⇑h,↑⇑k,↑⇑d,none,none,none,none,none,none] m=.ok (.bl false) _:=RB (UC M.sp rfl rfl e3) (Sb fz (sj l4)) (by rw[zG,N2];rfl);generalize hB:((j.nx+1,put d (.dct (g.map En.US)) ((j.nx,.lst (([]:List A)++g.map λe=>nA e.code.length))::put d (.SH (g.map En.US)) j.cs)):Rm)=B at g4 c3;have N:=l.Ux g4;have G:Gr [] S B:=((g1.trans g2).trans g3).trans g4;have wB:w<B.nx:=NV w0 G.le;let(L,T,hL):=mw g;have lL:L.length=g.length:=T.length_eq;let U:Rm:=(B.nx+1,(B.nx,.lst [])::B.cs)
 let u:Rm:=(B.nx+2,(B.nx+1,.lst ((e9 (bu g)).map A.str))::U.cs)
 have X0:∀i∈[w,B.nx,B.nx+1],i=w\/B.nx<=i:=by simp
 have g5:Gr [w,B.nx,B.nx+1] B U:=.new N.ids;have g6:Gr [w,B.nx,B.nx+1] U u:=.new g5.ids;have W5:=N.Ux (S2:=U) (.new N.ids)
 have ai:mI [0,1,2] (bu g)=true:=Ed λn hn=>by let(e,E,rfl):=OO.mp hn;exact(W.ok.ok e E).nm
 have it5:iL (cU (nE [0,1,2]) 1.4) (Vs w h k d B.nx none none none none none) U=.ok ((e9 (bu g)).map A.str,[⇑(B.nx+1)]) u:=by refine yU (Sb rfl ?_) (a7 aH);unfold nE Vm AQ;simp only[rO,gB,W5.dn,show(g.map En.US).map (·.1)=bu g by simp[bu,En.US],ai,bj (show(bu g).length<=60 by simp[bu];lia),aL,b8];rfl
 have l6:look (B.nx+1) u.cs= ↑(.lst ((e9 (bu g)).map A.str)):=aH;have g7:Gr [w,B.nx,B.nx+1] u (u.nx,put (B.nx+1) (.RK ((e9 (bu g)).map A.str)) u.cs):=.put g6.ids (by simp);have s6:look B.nx u.cs= ↑(.lst []):=by rw[aT ⋯];exact aH
 have t6:look w u.cs= ↑(SS p q r):=by rw[aT ⋯,aT ⋯];exact G.old _ _ (by simp) t
 let(y6,y7,y8,y9,V0,v,e7,g8,t8,l8):=lR (n:=n) (X:=[w,B.nx,B.nx+1]) hf N (Nu _) wB X0 (by simp) L [] none none none none none _ (λe E=>T.mem_iff.mp E) ((g5.trans g6).trans g7) (p,q,r,by rw[EV.Ru ⋯];exact t6) (by rw[EV.Ru ⋯];exact s6) (by simp;lia);rw[show(L.map λe=>A.str e.nm)=(e9 (bu g)).map A.str by rw[<- hL];simp[bu]]at e7;have fr:=mZ it5 l6 e7;have g9:Gr [w,B.nx,B.nx+1] v (v.nx,put (B.nx+1) (.lst ((e9 (bu g)).map A.str)) v.cs):=.put g8.ids (by simp);let(p8,q8,r8,t8):=t8;have t9:look w (put (B.nx+1) (.lst ((e9 (bu g)).map A.str)) v.cs)= ↑(SS p8 q8 r8):=by rw[EV.Ru ⋯];exact t8
 have gw:Gr [w] B (v.nx,put (B.nx+1) (.lst ((e9 (bu g)).map A.str)) v.cs):=((((g5.trans g6).trans g7).trans (g8.sub (by simp))).trans g9).ZJ N.ids X0;have O:=N.XS gw t9;let(i,H,e10,I,_,Y):=Dr (dl:=dl) (n:=n+19) O.ids O.sp O.od O.hs O.ok;have l9:look B.nx H.cs= ↑(.lst ((bu (L.filter (bQ Q))).map A.str)):=I.old _ _ (by simp) (by rw[EV.Ru ⋯];simpa using l8);have c5:cO oEq (aJ 1 65 (cN dl (n+40) 68) 1.2 aN) 1.5 (Vs w h k d B.nx y6 y7 y8 y9 V0) (v.nx,put (B.nx+1) (.lst ((e9 (bu g)).map A.str)) v.cs)=.ok (.bl true) H:=RB (UC O.sp rfl rfl e10) rfl (KA (a7 (by rw[rV T hL]at Y;exact Y)) (a7 l9) ua (aI (λ_=>rfl) _));have f:cz (cN dl (n+40)) [.SM,⇑w,⇑h,⇑k,⇑d] S=.ok (.bl true) H:=RG (aa (af (mB (RY c1) (RY c2)) rfl) (aa (af (RY c3) rfl) (aa (aW (tO (xs:=[]) rfl rfl)) (aa fr (aV c5)))));let(S11,f2,g11,o11,_):=aS W.ids f ((G.sub (by simp)).trans (gw.trans (I.sub (by simp))));exact(S11,by rw[c80];exact f2,W.XS g11 (o11 w _ w0 (I.old _ _ (by simp) t9)))
section
theorem Du{S:Rm}{c1 c2:Ct}{R:Res Bool}(h:c1 a S=.ok v d)(k:c2 a d=R)(e:v=true:=by rfl):Wj c1 c2 a S=R:=by subst e;unfold Wj Res.b;simp only[h,k]
theorem G6(h:c1 a S=.ok v d)(e:v=false:=by rfl):Wj c1 c2 a S=.ok false d:=by subst e;unfold Wj Res.b;simp only[h]
theorem FV(h:d e S=.ok [a,f] g):mC [gN i,gN j] d e S=.ok (.nx ((e.set i ↑a).set j ↑f)) g:=by unfold mC Res.x;simp only[rO,gB,h];rfl
end
theorem KB:∀p∈Uc,∀q∈Uc,SN (Rn p) (Rn q)=Nat.beq p.nm q.nm:=by
 have h:(Uc.all λp=>Uc.all λq=>Bz (SN (Rn p) (Rn q)) (Nat.beq p.nm q.nm))=true:=by kernel_rfl
 intro p d q e;have:=NX.mp (NX.mp h p d) q e;revert this;generalize SN (Rn p) (Rn q)=a;generalize Nat.beq p.nm q.nm=b;cases a<;>cases b<;>simp[Bz,nb]
theorem HV(d:p∈Uc):∀{a:List Pc},(∀q∈a,q∈Uc)->lA (Rn p) (a.map Rn)=aG p.nm (bw a)
 |[],_=>rfl
 |q::a,h=>by
  show(match SN (Rn q) (Rn p)with|true=>true|false=>lA (Rn p) (a.map Rn))=(match Nat.beq q.nm p.nm with|true=>true|false=>aG p.nm (bw a))
  rw[KB q (h q (.head _)) p d,HV d λq e=>h q (.tail _ e)]
theorem zM{S:Rm}(a:p∈Uc)(hs:So d)(hk:look k S.cs= ↑(.lst (d.map Rn))):UQ (Rn p) ⇑k S=.ok (.bl (aG p.nm (bw d))) S:=by show bA (WT S (Rn p) ⇑k) S=_;unfold WT;simp only[rO,gB,show SO S ⇑k= ↑(d.map Rn) from a7 hk,okP p a,ZI λp a=>okP p (hs.all p a),HV a hs.all];rfl
theorem rl:(bw a).length=a.length:=by simp[bw]
theorem E9(h:aG nm l=false):nm∉l:=λz=>by rw[Uw.mpr z]at h;cases h
theorem Gi(hs:So a)(d:p∈Uc)(m:aG p.nm (bw a)=false):a.length<16/\So (a++[p]):=by
 have e:(p.nm::bw a).Nodup:=Oe.mpr (E9 m,hs.nd)
 have l:=iU (m:=bw Uc) e λx hx=>by
  rcases NB.mp hx with rfl|hx
  ·exact Py d
  ·let(q,hq,rfl):=OO.mp hx;exact Py (hs.all q hq)
 rw[N6,rl]at l;have l:a.length+1<=16:=l;refine(⋯,(by simp,by simp;lia,λq hq=>?_,?_))
 ·rcases NS.mp hq with hq|hq
  ·exact hs.all q hq
  ·rw[NI.mp hq];exact d
 ·rw[NY];exact(List.perm_append_comm (l₁:=[p.nm]) (l₂:=bw a)).nodup_iff.mp e
theorem BP(hs:So a)(l:a.length≠1):So (eV a nm):=by
 have le:=hs.le;have e:=hs.pos;have g:=Qw (λp:Pc=>nb (Nat.beq p.nm nm)) a;refine(?_,by unfold eV;lia,λp d=>hs.all p (P6.mp d).1,List.Nodup.sublist (List.Sublist.map _ List.filter_sublist) hs.nd)
 cases q:eV a nm with
 |cons=>simp
 |nil =>
  have:=iU (l:=bw a) (m:=[nm]) hs.nd λx f=>by
   let(p,d,rfl):=OO.mp f;have:=List.filter_eq_nil_iff.mp q p d
   cases z:Nat.beq p.nm nm with
   |true=>rw[NJ z];simp
   |false=>rw[z]at this;exact absurd rfl this
  rw[rl]at this;simp at this;lia
theorem Wd.put(W:Wd w h o d S y k a i)(g:Gr [y] S f)(s:RV f h y o (a++[p]) i)(hs:So (a++[p]))(l:look j f.cs= ↑(.lst ((a++[p]).map Rn)))(hk:S.nx<=j):Wd w h o d f y j (a++[p]) i:=by let(p,q,r,t):=W.tw;have wl:=a8 W.ids t;have u:=a8 W.ids W.sp.rd;exact(g.ids,s,g.old _ _ (by simpa using W.sp.oy) W.od,l,g.old _ _ (λz=>by have:=W.sp.rd;rw[<- NI.mp z,W.dn]at this;cases this) W.dn,λe m=>g.old _ _ (by simpa using(W.cy e m).1) (W.cs e m),(p,q,r,g.old _ _ (by simpa using W.yw.symm) t),hs,W.ok,⋯,W.yw,⋯,W.cy,W.nd)
theorem Wd.drop(W:Wd w h o d S y k G v)(g:Gr [h] S j)(s:RV j h m o a v)(hs:So a)(l:look u j.cs= ↑(.lst (a.map Rn)))(hy:S.nx<=m)(hk:S.nx<=u)(B:u≠m):Wd w h o d j m u a v:=by
 let(p,q,r,t):=W.tw;have wl:=a8 W.ids t
 have ne:∀{i c},look i S.cs= ↑c->(∀k fs,c≠.obj k fs)->i∉[h]:=λe E z=>by rw[NI.mp z,W.sp.ob]at e;cases e;exact E _ _ rfl
 exact(g.ids,s,g.old _ _ (ne W.od (by simp)) W.od,l,g.old _ _ (ne W.dn (by simp)) W.dn,λe f=>g.old _ _ (ne (W.cs e f) (by simp)) (W.cs e f),(p,q,r,g.old _ _ (ne t (by simp)) t),hs,W.ok,B,⋯,⋯,λe f=>(by have:=a8 W.ids (W.cs e f);lia,(W.cy e f).2),W.nd)
theorem lC(h:x∈j4 e a):x=e\/(x∈a/\x.nm≠e.nm):=by
 unfold j4 at h;split at h
 ·let(z,d,rfl):=OO.mp h;unfold uo
  cases q:Nat.beq z.nm e.nm with
  |true=>exact .inl rfl
  |false=>exact .inr (d,λw=>by rw[w,N2]at q;cases q)
 ·rename_i q;rcases NS.mp h with h|h
  ·exact .inr ⟨h,λw=>by
    have:=Rh.mp q x h;rw[w,N2]at this;exact this rfl⟩
  ·exact .inl (NI.mp h)
theorem CU(h:Wf a)(f:Uy e):Wf (j4 e a):=by
 refine(?_,λx d=>(lC d).elim (λz=>z▸f) λz=>h.ok x z.1);unfold j4;split
 ·rw[show bu (a.map (uo e))=bu a by
   unfold bu;rw[PY];refine List.map_congr_left λx _=>?_;show(uo e x).nm=x.nm;unfold uo
   cases q:Nat.beq x.nm e.nm with
   |true=>exact(NJ q).symm
   |false=>rfl]
  exact h.nd
 ·rename_i q;unfold bu;rw[NY];refine(List.perm_append_comm (l₁:=[e.nm]) (l₂:=bu a)).nodup_iff.mp (Oe.mpr (λz=>?_,h.nd));let(x,d,w):=OO.mp z;have:=Rh.mp q x d;rw[w,N2]at this;exact this rfl
end My
namespace My
open EV
variable{h k i w d:Nat}{e:En}{b:Cs}
noncomputable abbrev Tq(w h k d:Nat)(a b c m e f g i j l:Option A):Env:=[some .SM,↑⇑w,↑⇑h,↑⇑k,↑⇑d,a,b,c,m,e,f,g,i,j,l]
noncomputable abbrev Ew(P:RC)(a b c:Ce):Ce:=ae (P 83) %[1.2,a,b,c|0]
noncomputable abbrev AI(c:Ct):Cs:=Rw c (ah (cC (.bl false))) Ry
section
theorem yo(W:Wd w h o d S y k f z)(j:p∈Uv):∃v B l a,sq (aw 9 (T4 (Rq (cO UQ 1.7 1.3)) (au %[3.68,2.11|0]) (cC (.Ro)))) (sq (AI (Rq (cO R5 (Ew (cN dl (n+41)) 2.0 1.7 (cC (.Ro))) 1.9))) (aw 3 (T4 (Rq (cO UQ 1.7 1.3)) 1.3 (cO bg 1.3 (bf %[1.7|0])))))
  (Tq w h k d z5 ↑(nA 0) ↑(Rn p) z8 z9 z10 SW Sz SX SY) S=.ok (.nx (Tq w h v d z5 ↑(nA 0) ↑(Rn p) z8 B z10 SW Sz SX SY)) a/\Wd w h o d a y v l z:=by
 have g:p∈Uc:=NO _ j;have c1:∀z9,Rq (cO UQ 1.7 1.3) (Tq w h k d z5 ↑(nA 0) ↑(Rn p) z8 z9 z10 SW Sz SX SY) S=.ok (aG p.nm (bw f)) S:=λz9=>RY (RB rfl rfl (zM g W.hs W.st))
 cases m:aG p.nm (bw f)with
 |true =>let(a,e2,g2):=sH (dl:=dl) (n:=n) W.ids W.sp W.hs j m;have q:=W.Ux g2;have c2:∀z9,Rq (cO UQ 1.7 1.3) (Tq w h k d z5 ↑(nA 0) ↑(Rn p) z8 z9 z10 SW Sz SX SY) a=.ok (aG p.nm (bw f)) a:=λz9=>RY (RB rfl rfl (zM g q.hs q.st));exact(k,_,f,a,aa (aW (jY (c1 _) rfl m)) (aa (af (RY (RB (aj rfl e2) rfl rfl)) rfl) (aW (jY (c2 _) rfl m))),q)
 |false =>let(r,t):=Gi W.hs g m;let(a,e2,g2,E):=Bx (dl:=dl) (n:=n) W.ids W.sp W.hs j m r;have u:=g2.old k _ (by simpa using W.ky) W.st;have kl:=a8 g2.ids u;have c2:∀z9,Rq (cO UQ 1.7 1.3) (Tq w h k d z5 ↑(nA 0) ↑(Rn p) z8 z9 z10 SW Sz SX SY) a=.ok (aG p.nm (bw f)) a:=λz9=>RY (RB rfl rfl (zM g W.hs u));have g3:Gr [y] a (a.nx+1,(a.nx,.lst [Rn p])::a.cs):=.new g2.ids;have g4:Gr [y] (a.nx+1,(a.nx,.lst [Rn p])::a.cs) (a.nx+2,(a.nx+1,.lst (f.map Rn++[Rn p]))::(a.nx,.lst [Rn p])::a.cs):=.new g3.ids;have ad:bg ⇑k ⇑a.nx (a.nx+1,(a.nx,.lst [Rn p])::a.cs)=.ok ⇑(a.nx+1) (a.nx+2,(a.nx+1,.lst (f.map Rn++[Rn p]))::(a.nx,.lst [Rn p])::a.cs):=pX (a7 (by rw[aT ⋯];exact u)) (a7 aH) (by simp;lia);refine(a.nx+1,_,f++[p],_,aa (aW (kF (c1 _) rfl m)) (aa (af (RY (RB (aj rfl e2) rfl rfl)) rfl) (aW (kF (c2 _) (RB rfl (tO rfl rfl) ad) m))),W.put ((g2.trans g3).trans g4) (E.Ux (.trans (.new g2.ids) (.new (Gr.new (X:=[]) g2.ids).ids))) t ?_ (by have:=g2.le;lia));rw[aH,NY];rfl
theorem EI{a:List Pc}:Vj ((a.filter λp=>Nat.beq p.nm nm).map Rn) []=nb (aG nm (bw a)):=by
 induction a with
 |nil=>rfl
 |cons p a f =>
  rw[List.filter_cons];show _=nb (match Nat.beq p.nm nm with|true=>true|false=>aG nm (bw a))
  cases q:Nat.beq p.nm nm with
  |true=>rfl
  |false=>exact f
theorem wz(Y:gF dl)(W:Wd w h o d S y k j es):∃I u B y9 V0 YS J,sq (aw 10 (ae (cN dl (n+41) 71) %[1.0,1.1,(cO bg (ay (iL 1.3) 1 [] 4.0 tT (cO Rp 1.0 2.0)) (bf %[3.54,3.57|0]))|0])) (sq (aw 11 (ay (iL 1.3) 1 [10] 4.0 (Rq (cO oEq (cO Rp 1.0 2.0) 1.1)) 1.0)) (sq (aw 9 (T4 (Rq (cO R5 1.11 (bf aN))) (cC (.Ro)) (au %[3.68,2.10|0]))) (sq (Rw (Wj (Rq (cO R5 1.11 (bf aN))) (Rq (cO oEq (cU aX 1.3) 2.1))) (aw 9 (au %[3.68,2.7|0])) Ry) (sq (AI (Rq (cO R5 (Ew (cN dl (n+41)) 2.1 1.10 (cC (.Ro))) 1.9))) (aw 3 (T4 (Rq (cU iq 1.9)) (ay (iL 1.3) 1 [10] 4.0 (Rq (cO R5 (cO Rp 1.0 2.0) 1.1)) 1.0) 1.3))))))
  (Tq w h k d z5 ↑(nA 1) ↑x z8 z9 z10 SW Sz SX SY) S=.ok (.nx (Tq w h I d z5 ↑(nA 1) ↑x z8 y9 V0 YS Sz SX SY)) J/\Wd w h o d J u I B es:=by
 have le:=W.hs.le;let(p0,q0,r0,L):=W.tw;have M:=kH (ρ:=Tq w h k d z5 ↑(nA 1) ↑x z8 z9 z10 SW Sz SX SY) (it:=cV 3) (c:=tT) (k:=λ_=>true) (e:=cO Rp 1.0 2.0) (g:=λp=>.str p.nm) (fr:=[]) ⋯ W.st rfl λp _ S=>(rfl,λ_=>rfl)
 rw[Q5.mpr λ_ _=>rfl,show(j.map λp=>A.str p.nm)=(bw j).map A.str by simp[bw]]at M;have N:Gr [] S (S.nx+1,(S.nx,.lst ((bw j).map A.str))::S.cs):=.new W.ids;have O:Gr [] (S.nx+1,(S.nx,.lst ((bw j).map A.str))::S.cs) (S.nx+2,(S.nx+1,.lst [.str 54,.str 57])::(S.nx,.lst ((bw j).map A.str))::S.cs):=.new N.ids;have a3:Gr [] (S.nx+2,(S.nx+1,.lst [.str 54,.str 57])::(S.nx,.lst ((bw j).map A.str))::S.cs) (S.nx+3,(S.nx+2,.lst ((bw j).map A.str++[.str 54,.str 57]))::(S.nx+1,.lst [.str 54,.str 57])::(S.nx,.lst ((bw j).map A.str))::S.cs):=.new O.ids;have ad:bg ⇑S.nx ⇑(S.nx+1) (S.nx+2,(S.nx+1,.lst [.str 54,.str 57])::(S.nx,.lst ((bw j).map A.str))::S.cs)=.ok ⇑(S.nx+2) _:=pX (a7 (by rw[aT ⋯];exact aH)) (a7 aH) (by simp[bw];lia);have a:=(N.trans O).trans a3;have wl:=a8 W.ids L;let(v,p1,q1,f,hv,g1,t1,e1):=Ag (n:=n+39) (l:=S.nx+2) Y a.ids (a.old _ _ (by simp) L) ⋯ (a7 aH) (by simp) (by simp[bw];lia)
 obtain⟨nm,E,rfl⟩:∃nm,aG nm nms=true/\v=.str nm:=by
  rcases NS.mp hv with hv|hv
  ·let(k,hk,rfl):=OO.mp hv;let(p,G,rfl):=OO.mp hk;exact(_,tW p (W.hs.all p G),rfl)
  ·simp only[NB,NU,Ou]at hv;rcases hv with rfl|rfl<;>exact(_,rfl,rfl)
 have H:=(W.Ux a).XS g1 t1;have ct:=kH (S:=f) (ρ:=Tq w h k d z5 ↑(nA 1) ↑x z8 z9 ↑(.str nm) SW Sz SX SY) (it:=cV 3) (c:=Rq (cO oEq (cO Rp 1.0 2.0) 1.1)) (k:=λp=>Nat.beq p.nm nm) (e:=cV 0) (g:=Rn) (fr:=[10]) ⋯ H.st rfl λp _ S=>(rfl,λ_=>rfl)
 have b1:Gr [] f (f.nx+1,(f.nx,.lst ((j.filter λp=>Nat.beq p.nm nm).map Rn))::f.cs):=.new H.ids;have W2:=H.Ux b1;have Zh:R8 20 ((j.filter λp=>Nat.beq p.nm nm).map Rn)=true:=ZI λp G=>okP p (W.hs.all p (P6.mp G).1)
 have Xw:∀{S:Rm}{z9 Sz:Option A},look f.nx S.cs= ↑(.lst ((j.filter λp=>Nat.beq p.nm nm).map Rn))->f.nx<S.nx->Rq (cO R5 1.11 (bf aN)) (Tq w h k d z5 ↑(nA 1) ↑x z8 z9 ↑(.str nm) ↑⇑f.nx Sz SX SY) S=.ok (aG nm (bw j)) (S.nx+1,(S.nx,.lst [])::S.cs):=λ{S z9 Sz} hl lt=>RY (RB rfl (tO (xs:=[]) rfl rfl) (by
  show bA (nO (VF (S.nx+1,(S.nx,.lst [])::S.cs) ⇑f.nx ⇑S.nx)) _=_;unfold VF;simp only[rO,gB,show Rv (S.nx+1,(S.nx,.lst [])::S.cs) ⇑f.nx= ↑((j.filter λp=>Nat.beq p.nm nm).map Rn) from a7 (by rw[aT ⋯];exact hl),show Rv (S.nx+1,(S.nx,.lst [])::S.cs) ⇑S.nx=some [] from a7 aH,Zh,EI];cases aG nm (bw j)<;>rfl))
 have Q:Gr [] (f.nx+1,(f.nx,.lst ((j.filter λp=>Nat.beq p.nm nm).map Rn))::f.cs) (f.nx+2,(f.nx+1,.lst [])::(f.nx,.lst ((j.filter λp=>Nat.beq p.nm nm).map Rn))::f.cs):=.new b1.ids;have W3:=W2.Ux Q;have b3:Gr [] (f.nx+2,(f.nx+1,.lst [])::(f.nx,.lst ((j.filter λp=>Nat.beq p.nm nm).map Rn))::f.cs) (f.nx+3,(f.nx+2,.lst [])::(f.nx+1,.lst [])::(f.nx,.lst ((j.filter λp=>Nat.beq p.nm nm).map Rn))::f.cs):=.new Q.ids;have q:=W3.Ux b3;have c1:=λz9=>Xw (z9:=z9) (Sz:=Sz) (S:=(f.nx+1,(f.nx,.lst ((j.filter λp=>Nat.beq p.nm nm).map Rn))::f.cs)) aH (Pu _);have c2:=λz9=>Xw (z9:=z9) (Sz:=Sz) (S:=(f.nx+2,(f.nx+1,.lst [])::(f.nx,.lst ((j.filter λp=>Nat.beq p.nm nm).map Rn))::f.cs)) (by rw[aT ⋯];exact aH) (by show f.nx<f.nx+2;lia);have T:∀(z9:Option A),Rq (cO oEq (cU aX 1.3) 2.1) (Tq w h k d z5 ↑(nA 1) ↑x z8 z9 ↑(.str nm) ↑⇑f.nx Sz SX SY) (f.nx+3,(f.nx+2,.lst [])::(f.nx+1,.lst [])::(f.nx,.lst ((j.filter λp=>Nat.beq p.nm nm).map Rn))::f.cs)=.ok (Nat.beq j.length 1) (f.nx+3,(f.nx+2,.lst [])::(f.nx+1,.lst [])::(f.nx,.lst ((j.filter λp=>Nat.beq p.nm nm).map Rn))::f.cs):=λz9=>RY (RB (tN rfl q.st) rfl (by rw[NC];rfl));have pre:aw 10 (ae (cN dl (n+41) 71) %[1.0,1.1,(cO bg (ay (iL 1.3) 1 [] 4.0 tT (cO Rp 1.0 2.0)) (bf %[3.54,3.57|0]))|0]) (Tq w h k d z5 ↑(nA 1) ↑x z8 z9 z10 SW Sz SX SY) S=.ok (.nx (Tq w h k d z5 ↑(nA 1) ↑x z8 z9 ↑(.str nm) SW Sz SX SY)) f:=aW (aj (RI rfl (RI rfl (RI (RB M (tO rfl rfl) ad) rfl))) e1)
 cases m:aG nm (bw j)with
 |false =>let(r,t,g5):=pY (dl:=dl) (n:=n) q.ids q.sp q.hs E m;exact(k,y,j,_,_,_,r,aa pre (aa (aW ct) (aa (aW (kF (c1 _) rfl m)) (aa (af (G6 (c2 _) m) rfl) (aa (af (RY (RB (aj rfl t) rfl rfl)) rfl) (aW (kF rfl rfl)))))),q.Ux g5)
 |true =>
  by_cases l:j.length=1
  ·let(r,t,g5):=mf (dl:=dl) (n:=n) q.ids q.sp q.hs E m l;exact(k,y,j,_,_,_,r,aa pre (aa (aW ct) (aa (aW (jY (c1 _) rfl m)) (aa (aP (Du (c2 _) (T _) m) rfl (by rw[l];rfl)) (aa (af (RY (RB (aj rfl t) rfl rfl)) rfl) (aW (kF rfl rfl)))))),q.Ux g5)
  ·let(u,r,t,g5,hy,U):=xJ (dl:=dl) (n:=n) q.ids q.sp q.hs E m l;have k5:=g5.old k _ (λz=>by have:=q.sp.ob;rw[<- NI.mp z,q.st]at this;cases this) q.st;have cd:=kH (S:=r) (ρ:=Tq w h k d z5 ↑(nA 1) ↑x z8 (some .Ro) ↑(.str nm) ↑⇑f.nx Sz SX SY) (it:=cV 3) (c:=Rq (cO R5 (cO Rp 1.0 2.0) 1.1)) (k:=λp=>nb (Nat.beq p.nm nm)) (e:=cV 0) (g:=Rn) (fr:=[10]) ⋯ k5 rfl λp _ S=>(rfl,λ_=>rfl)
   have g6:Gr [h] r (r.nx+1,(r.nx,.lst ((eV j nm).map Rn))::r.cs):=.new g5.ids;have yl:=(U.lt g5.ids).2.1;refine(r.nx,u,eV j nm,_,_,_,_,aa pre (aa (aW ct) (aa (aW (jY (c1 _) rfl m)) (aa (af (Du (c2 _) (T _) m) rfl (eT l)) (aa (af (RY (RB (aj rfl t) rfl rfl)) rfl) (aW (jY rfl cd)))))),q.drop (g5.trans g6) (U.Ux (.new g5.ids)) (BP W.hs l) aH hy g5.le ⋯)
end
end My
namespace My
open EV
section
theorem HE{S:Rm}{e1 e2 e3:Ce}(h1:e3 ρ S=.ok v S)(a:e1 ρ S=.ok ⇑d S)(e:e2 ρ S=.ok (.str nm) S)(f:look d S.cs= ↑(.dct ks))(l:ks.length<=90):i5 e1 e2 e3 ρ S=.ok (.nx ρ) (S.nx,put d (.dct (iK nm v ks)) S.cs):=by unfold i5 Res.x;simp only[rO,gB,h1,a,e,Um,show Vm S ⇑d=some (d,ks) by unfold Vm;simp only[f],bj l,aL,bW]
theorem yn(L:gF dl)(W:Wd w h o d S y k r m)(H:nm=0\/nm=1\/nm=2):∃u M N O l,sq (aw 12 (ae (cN dl (n+41) 72) %[1.0,1.1,2.4|0])) (sq (mC [gN 13,gN 14] %[(ae (cN dl (n+41) 79) %[1.12,1.3|0]),(Ew (cN dl (n+41)) 2.2 1.8 1.12)|0]) (sq (AI (Wj (Rq (cU iq 1.13)) (Rq (cO R5 1.14 (au %[3.68,2.8|0]))))) (sq (AI (Wj (Rq (cU ja 1.13)) (Rq (cO R5 (cU aX 1.14) (cO bg 1.13 2.1))))) (Rw (Rq (cU ja 1.13)) (i5 1.4 1.8 (au %[1.12,1.14|0])) Ry))))
  (Tq w h k d z5 ↑(nA v) z7 ↑(.str nm) z9 z10 SW Sz SX SY) S=.ok (.nx (Tq w h k d z5 ↑(nA v) z7 ↑(.str nm) z9 z10 SW M N O)) l/\Wd w h o d l y k r u:=by
 let(p0,q0,r0,Q):=W.tw;let(t,p1,q1,r1,j,B,g1,t1,e1):=G8 L 3 (n+41) W.ids Q ⋯;have a:=W.XS g1 t1;have p:WZ t:=(B.ok,B.dep,B.cnt)
 have le:=W.ok.le;have is:aG nm nms=true:=by rcases H with z|z|z<;>rw[z]<;>rfl
 have e2:=f79 (dl:=dl) W.hs t (n:=n+41) (S:=j) (by have:=p.dep;lia) (by have:=p.dep;lia) (a7 a.st)
 cases b:best r 20 t with
 |none =>rw[b]at e2;let(l,e3,g3):=sF (dl:=dl) (n:=n) a.ids a.sp W.hs p is b;exact(m,_,_,_,l,aa (aW (aj rfl e1)) (aa (FV (RI (aj rfl e2) (RI (aj rfl e3) rfl))) (aa (af (Du rfl rfl) rfl) (aa (af (G6 rfl) rfl) (af rfl rfl)))),a.Ux g3)
 |some bs =>
  rw[b]at e2;have ok:Uy (nm,t,bs,j.nx):=(p,H,r,W.hs,b)
  let(l,e3,g3,I,T):=Bw (e:=(nm,t,bs,j.nx)) (dl:=dl) (n:=n) a.ids a.sp a.od ⋯ W.hs p is b rfl;have cl:((nm,t,bs,j.nx):En).code.length=bs.1+1:=by rw[ok.len.1];simp[En.code]
  have ld:look d l.cs= ↑(.dct (m.map En.US)):=g3.old d _ (by simpa using W.nd.symm) a.dn;have s3:=a.sp.to (S2:=l);have U:=HE (e1:=cV 4) (e2:=cV 8) (e3:=au %[1.12,1.14|0]) (ρ:=Tq w h k d z5 ↑(nA v) z7 ↑(.str nm) z9 z10 SW ↑(tR t) ↑(nA bs.1) ↑⇑j.nx) (v:=.tup [tR t,⇑j.nx]) (nm:=nm) rfl rfl rfl ld (by simp;lia);have Y:=yY (f:=En.US) (λ_=>rfl) (e:=(nm,t,bs,j.nx)) (es:=m);have g4:Gr [d] l (l.nx,put d (.dct (iK nm (.tup [tR t,⇑j.nx]) (m.map En.US))) l.cs):=.put g3.ids (.head _);have g:Gr [o,d] j (l.nx,put d (.dct (iK nm (.tup [tR t,⇑j.nx]) (m.map En.US))) l.cs):=(g3.sub (by simp)).trans (g4.sub (by simp))
  have nx:∀{i c},look i j.cs= ↑c->(∀ks,c≠.dct ks)->i∉[o,d]:=λ{i c} e J z=>by
   simp only[NB,NU,Ou]at z;rcases z with rfl|rfl
   ·rw[a.od]at e;cases e;exact J _ rfl
   ·rw[a.dn]at e;cases e;exact J _ rfl
  let(p2,q2,r2,E):=a.tw
  have lu:cU aX 1.14 (Tq w h k d z5 ↑(nA v) z7 ↑(.str nm) z9 z10 SW ↑(tR t) ↑(nA bs.1) ↑⇑j.nx) l=.ok (nA (bs.1+1)) l:=by
   have:=tN (e:=cV 14) (ρ:=Tq w h k d z5 ↑(nA v) z7 ↑(.str nm) z9 z10 SW ↑(tR t) ↑(nA bs.1) ↑⇑j.nx) (i:=j.nx) rfl I
   rwa [NC,cl]at this
  have q:look o (put d (.dct (iK nm (.tup [tR t,⇑j.nx]) (m.map En.US))) l.cs)= ↑(.dct ((j4 (nm,t,bs,j.nx) m).map En.ord)):=by rw[EV.Ru W.nd];exact T
  have wl:=a8 a.ids E;have yl:=a8 a.ids a.sp.rd
  have l4:look j.nx (put d (.dct (iK nm (.tup [tR t,⇑j.nx]) (m.map En.US))) l.cs)= ↑(.lst (((nm,t,bs,j.nx):En).code.map nA)):=by have:=a8 a.ids a.dn;rw[EV.Ru ⋯];exact I
  refine(j4 (nm,t,bs,j.nx) m,_,_,_,_,aa (aW (aj rfl e1)) (aa (FV (RI (aj rfl e2) (RI (aj rfl e3) rfl))) (aa (af (G6 rfl) rfl) (aa (af (Du rfl (RY (RB lu rfl zG))) rfl (by rw[N2];rfl)) (aP rfl U)))),?_);exact(g.ids,(g.old _ _ (nx a.sp.ob (by simp)) a.sp.ob,g.old _ _ (nx a.sp.rd (by simp)) a.sp.rd,rP (.inl q)),q,g.old _ _ (nx a.st (by simp)) a.st,by rw[<- Y];exact aq ld,λx G=>(lC G).elim (λz=>by rw[z];exact l4) λz=>g.old _ _ (nx (a.cs x z.1) (by simp)) (a.cs x z.1),(p2,q2,r2,g.old _ _ (nx E (by simp)) E),a.hs,CU a.ok ok,a.ky,a.yw,a.kw,λx G=>(lC G).elim (λz=>by rw[z];exact(by show j.nx≠y;lia,by show j.nx≠w;lia)) λz=>a.cy x z.1,a.nd)
end
theorem zi(H:gF dl)(W:Wd w h o d S y k ps U)(f Y z7 M g a i j l q:Option A):∃t I e r y6 y7 y8 N V0 YS YT YU YV J,tK (cN dl (n+41)) (Tq w h k d f Y z7 M g a i j l q) S=.ok (.nx (Tq w h t d f y6 y7 y8 N V0 YS YT YU YV)) J/\Wd w h o d J I t e r:=by
 let(p0,q0,r0,t0):=W.tw;let(v,p1,q1,S1,hv,g1,t1,e1):=jn (n:=n+40) (m:=5) H W.ids t0 ⋯ ⋯;have W1:=W.XS g1 t1;have e2:=E3 (dl:=dl) (n:=n+40) (S:=S1);let(x,p2,q2,J,hx,g2,t2,e3):=lH (n:=n+39) (xs:=Uv.map Rn) H W1.ids t1 (by simp[Uv]) (by simp[Uv]);let(p,hp,rfl):=OO.mp hx;have W2:=W1.XS g2 t2;let(u,p3,q3,S3,hu,g3,t3,e4):=lH (n:=n+39) (xs:=[.str 0,.str 1,.str 2]) H W2.ids t2 (by simp) (by simp)
 obtain⟨nm,hn,rfl⟩:∃nm,(nm=0\/nm=1\/nm=2)/\u=.str nm:=by simp only[NB,NU,Ou]at hu;rcases hu with rfl|rfl|rfl<;>exact(_,by simp,rfl)
 have O:=W2.XS g3 t3;have Q:mC [gN 6,gN 7] %[(ae (cN dl (n+41) 81) %[1.0,1.1,2.5|0]),(ae (cN dl (n+41) 71) %[1.0,1.1,(ae (cN dl (n+41) 76) aN)|0])|0] (Tq w h k d f Y z7 M g a i j l q) S=.ok (.nx (Tq w h k d f ↑(nA v) ↑(Rn p) M g a i j l q)) J:=FV (RI (aj rfl e1) (RI (aj (RI rfl (RI rfl (RI (aj rfl e2) rfl))) e3) rfl));have T:aw 8 (ae (cN dl (n+41) 71) %[1.0,1.1,(bf %[3.0,3.1,3.2|0])|0]) (Tq w h k d f ↑(nA v) ↑(Rn p) M g a i j l q) J=.ok (.nx (Tq w h k d f ↑(nA v) ↑(Rn p) ↑(.str nm) g a i j l q)) S3:=aW (aj (RI rfl (RI rfl (RI (tO rfl rfl) rfl))) e4)
 have fin:∀{t I e r g a i j l q} {S4:Rm},Wd w h o d S4 I t e r->∃z,AI (Sn (tV (ae (cN dl (n+41) 80) %[1.0,1.1,1.2,1.3,1.4|0]))) (Tq w h t d f ↑(nA v) ↑(Rn p) ↑(.str nm) g a i j l q) S4=.ok (.nx (Tq w h t d f ↑(nA v) ↑(Rn p) ↑(.str nm) g a i j l q)) z/\Wd w h o d z I t e r:=λB=>by let(z,E,G):=pM (n:=n) H B;exact(z,af (Vc (aj rfl E)) rfl,G)
 rcases Nat.lt_trichotomy v 1 with hv1|rfl|hv1
 ·obtain rfl:v=0:=by lia
  let(t,N,e,S4,E,B):=yo (n:=n) (z5:=f) (z8:= ↑(.str nm)) (z9:=g) (z10:=a) (SW:=i) (Sz:=j) (SX:=l) (SY:=q) O hp;let(z,L,G):=fin B;exact(t,y,e,U,_,_,_,_,_,_,_,_,_,z,aa Q (aa T (aa (aP rfl E) (aa (af rfl rfl) (aa (af rfl rfl) L)))),G)
 ·let(t,I,e,N,V0,YS,S4,E,B):=wz (n:=n) (x:=Rn p) (z5:=f) (z8:= ↑(.str nm)) (z9:=g) (z10:=a) (SW:=i) (Sz:=j) (SX:=l) (SY:=q) H O;let(z,L,G):=fin B;exact(t,I,e,U,_,_,_,_,_,_,_,_,_,z,aa Q (aa T (aa (af rfl rfl) (aa (aP rfl E) (aa (af rfl rfl) L)))),G)
 ·let(r,YT,YU,YV,S4,E,B):=yn (n:=n) (z5:=f) (z7:= ↑(Rn p)) (z9:=g) (z10:=a) (SW:=i) (Sz:=j) (SX:=l) (SY:=q) (v:=v) H O hn;let(z,L,G):=fin B;have c0:∀S:Rm,Rq (cO oEq 1.6 2.0) (Tq w h k d f ↑(nA v) ↑(Rn p) ↑(.str nm) g a i j l q) S=.ok false S:=λS=>RY (RB rfl rfl (by show Res.ok (A.bl (Nat.beq v 0)) S=_;rw[eT ⋯]));have c1:∀S:Rm,Rq (cO oEq 1.6 2.1) (Tq w h k d f ↑(nA v) ↑(Rn p) ↑(.str nm) g a i j l q) S=.ok false S:=λS=>RY (RB rfl rfl (by show Res.ok (A.bl (Nat.beq v 1)) S=_;rw[eT ⋯]));have c2:∀S:Rm,Rq (cO Xn 1.6 2.1) (Tq w h k d f ↑(nA v) ↑(Rn p) ↑(.str nm) g a i j l q) S=.ok true S:=λS=>RY (RB rfl rfl (by show Res.ok (A.bl (nb (UG (.ofNat v) (.ofNat 1)))) S=_;rw[gM hv1];rfl));exact(k,y,ps,r,_,_,_,_,_,_,_,_,_,z,aa Q (aa T (aa (af (c0 _) rfl) (aa (af (c1 _) rfl) (aa (aP (c2 _) E) L)))),G)
theorem qV(u:gF dl):∀(f:List A){y k:Nat}{v:List Pc}{z:List En}{S:Rm}(B g i j l a m p q r:Option A),Wd w h o d S y k v z->∃t E,lp 4.5 (tK (cN dl (n+41))) f (Tq w h k d B g i j l a m p q r) S=.ok (.nx t) E
 |[],_,_,_,_,S,_,_,_,_,_,_,_,_,_,_,_=>(_,S,rfl)
 |x::f,y,k,v,z,S,B,g,i,j,l,a,m,p,q,r,W=>by let(k',y',G,H,I,J,L,M,N,O,Q,T,U,E,e,Y):=zi (n:=n) u W ↑x g i j l a m p q r;let(t,S3,e3):=qV u f ↑x I J L M N O Q T U Y;exact(t,S3,fD rfl e e3)
noncomputable def SI:Rm:=(7,[(6,.dct []),(5,.lst (VY.map Rn)),(4,.dct []),(3,.lst (VY.map Rn)),(2,.lst (VY.map Rn)),(1,.obj 1 [(41,⇑3),(42,⇑4)]),(0,SS 0 0 20)])
theorem xN:So VY:=(⋯,⋯,λ_ h=>Oj _ h,⋯)
theorem LL:Wd 0 1 4 6 SI 3 5 VY []:=by refine(?_,(rfl,rfl,rfl),rfl,rfl,rfl,(λ_ h=>nomatch h),(0,0,20,rfl),xN,(.nil,(λ_ h=>nomatch h)),⋯,⋯,⋯,(λ_ h=>nomatch h),⋯);intro x a;simp only[SI,NB,NU,Ou]at a ⊢;rcases a with rfl|rfl|rfl|rfl|rfl|rfl|rfl<;>decide
theorem Ia:l_1 (cN dl (n+41)) [some .SM,↑⇑0,none,none,none,none,none,none,none,none,none,none,none,none,none] (1,[(0,SS 0 0 20)])=.ok (.nx (Tq 0 1 5 6 none none none none none none none none none none)) SI:=by
 have q:cN dl (n+40) 35 [⇑2] (3,[(2,.lst (VY.map Rn)),(1,.obj 1 []),(0,SS 0 0 20)])=.ok .Ro (3,[(2,.lst (VY.map Rn)),(1,.obj 1 []),(0,SS 0 0 20)]):=gj (n:=n+26) xN rfl;have i:LQ (cN dl (n+40)) [⇑1,.Ro] (2,[(1,.obj 1 []),(0,SS 0 0 20)])=.ok .Ro (5,[(4,.dct []),(3,.lst (VY.map Rn)),(2,.lst (VY.map Rn)),(1,.obj 1 [(41,⇑3),(42,⇑4)]),(0,SS 0 0 20)]):=gm (aa rfl (aa (TY (aj rfl q)) (aa rfl rfl)))
 have m:gJ 1 (cN dl (n+41) 57) [.Ro] aN [some .SM,↑⇑0,none,none,none,none,none,none,none,none,none,none,none,none,none] (1,[(0,SS 0 0 20)])=.ok ⇑1 (5,[(4,.dct []),(3,.lst (VY.map Rn)),(2,.lst (VY.map Rn)),(1,.obj 1 [(41,⇑3),(42,⇑4)]),(0,SS 0 0 20)]):=by rw[c57];unfold gJ aN Res.b;simp only[rO,gB,b8,QY,i,Ym]
 have a:aC (gJ 1 (cN dl (n+41) 57) [.Ro] aN) %[(cU pS (cC Mn)),qh|0] [some .SM,↑⇑0,none,none,none,none,none,none,none,none,none,none,none,none,none] (1,[(0,SS 0 0 20)])=.ok [⇑1,⇑5,⇑6] SI:=RI m rfl;unfold l_1 mC Res.x;simp only[rO,gB,a];rfl
theorem zd(a:gF dl):∃S,uN (cN dl (n+41)) [.SM] (0,[])=.ok (.bl true) S:=by let(d,S,e):=qV (n:=n) a (R4 0 10) none none none none none none none none none none LL;exact(S,RG (aa rfl (aa Ia (aa (iH (xs:=R4 0 10) rfl e) rfl))))
end My
namespace My
open PySem L2 EV PyProof.Rows
theorem EF(a:zb):gF (VO a):=λp q m d=>by
 show(WG a (.ofNat p) q (.ofNat m)).1.toNat<m
 have h:∀z:Int,(z%(Int.ofNat m)).toNat<m:=λz=>by have:=O0 z (show(0:Int)<Int.ofNat m by simp only[Pp];lia);have:=Pg z (show(Int.ofNat m)≠0 by simp only[Pp];lia);simp only[Pp]at *;lia
 unfold WG;split
 ·exact h _
 ·split
  ·exact h _
  ·split<;>exact h _
noncomputable def nz(K:qs):Sp:=λd H Q _=>∃(a:Addr)(e:zb),d=[⇑a]/\WM K H a e/\∀f,Q (.bl true) f
section
theorem DL{P:Program}{w:World}{K:qs}{mg:za}{T:Txt P w K mg}{f:List V}{E:XK}(h:nz K f H Q E):∃d,EV.R9 (gx T d) (uN (cN (VO d) 41)) f H Q E:=by let(a,d,rfl,g,q):=h;let(S,e):=zd (n:=0) (EF d);refine(d,[],(0,[]),[.SM],(rfl,.nil,(λ_ h=>nomatch h),(λ_ _ h=>nomatch h)),.cons (by unfold R;exact(a,rfl,g)) .nil,?_);rw[e];intro k i _ _ v j;rw[j.Z2];exact q i
theorem Fu{K:qs}(T:Txt P w K mg):Rt P w K mg base (RT P w) 87 T.Mt.a T.Mt.d ["_law_script"] (nz K) :=
 ⟨λe H Q E h=>let⟨f,h⟩:=DL (T:=T) h;(DJ (alN (base:=base) (ns:=f) T 41)).len e H Q E h,
  λA outer s H args g e Q E i j k l h=>let⟨f,h⟩:=DL (T:=T) h;(DJ (alN (base:=base) (ns:=f) T 41)).run A outer s H args g e Q E i j k l h⟩
end
end My
end
namespace My
open PySem L2 EV PyProof.Rows
section
theorem chain{K:qs}(T:Txt P w K mg):Rt P w K mg base (RT P w) 87 T.Mt.a T.Mt.d ["_law_script"] (nz K):=Fu T
end
noncomputable def ZK{K:qs}{h:Heap}{mg:za}{n:Str}{st:Stmt}{e:zl}{f:Addr}{oc:Value}{q j:Option Addr}{g:Array (Option Value)}{m doc p d ct:Value}(X:K.In h)(G:h.Ns mainGlobals mg)(a:W.nsIn K mainGlobals n= ↑(some ⇑f))(l:K.lookup f= ↑(oc,q,.func (W.fnOf n n (bD st) (bh st) (ag st) .none m doc p j d ct),g))(c:W.codeIn K d n=true)(k:W.keepIn K ⇑f=true)
  (r:∀i:List Value,i.length=e.length->bindArgs (W.fnOf n n (bD st) (bh st) (ag st) .none m doc p j d ct) (i,[])=pure (e.zip i)):Df K mg n st e:=(f,_,Ug l c k,W.mg_of X G a,.all r)
theorem Rr.n{α:Type}{Φ:α->Prop}:Rr Φ []:=trivial
theorem Rr.c{α:Type}{Φ:α->Prop}{a:α}{l:List α}(h:Φ a)(t:Rr Φ l):Rr Φ (a::l):=(h,t)
theorem co_c{K:qs}{mg:za}(h:mg n= ↑⇑a)(e:dW K (.tup d) ⇑a=true)(r:Rr (λ(p:Str×List D)=>∃a,mg p.1= ↑⇑a/\dW K (.tup p.2) ⇑a=true) l):Rr (λ(p:Str×List D)=>∃a,mg p.1= ↑⇑a/\dW K (.tup p.2) ⇑a=true) (Prod.mk n d::l):=((a,h,e),r)
theorem ta_c{K:qs}{mg:za}(h:mg n= ↑⇑a)(e:eL K a d)(r:Rr (λ(p:Str×List (Str×KTD.Dat))=>∃a,mg p.1= ↑⇑a/\eL K a p.2) l):Rr (λ(p:Str×List (Str×KTD.Dat))=>∃a,mg p.1= ↑⇑a/\eL K a p.2) (Prod.mk n d::l):=((a,h,e),r)
theorem il_c{mg:za}(h:mg n= ↑(.int i t))(r:Rr (λ(p:Str×Int)=>∃t,mg p.1= ↑(.int p.2 t)) l):Rr (λ(p:Str×Int)=>∃t,mg p.1= ↑(.int p.2 t)) (Prod.mk n i::l):=((t,h),r)
theorem ZL{K:qs}{st:Stmt}{doc:Value}(X:K.In h)(G:h.Ns mainGlobals mg)(a:W.nsIn K mainGlobals n= ↑(some ⇑f))(l:K.lookup f= ↑(oc,r,.func (W.fnOf x q (bD st) (bh st) (ag st) .none g doc i j d ct),m))(c:W.codeIn K d q=true)(k:W.keepIn K ⇑f=true)
  (p:∀e:List Value,e.length=(gH st).length->bindArgs (W.fnOf x q (bD st) (bh st) (ag st) .none g doc i j d ct) (e,[])=pure ((gH st).zip e)):Pl K mg n st:=(_,_,f,_,Ug l c k,W.mg_of X G a,.all p)
theorem XT{K:qs}{C:Addr}{st:Stmt}{doc:Value}(a:W.findIn K ⇑C n= ↑(some ⇑f))(i:W.isFn K ⇑f=true)(l:K.lookup f= ↑(oc,t,.func (W.fnOf x q (bD st) (bh st) (ag st) .none g doc j m d ct),p))(c:W.codeIn K d q=true)(k:W.keepIn K ⇑f=true)
  (r:∀e:List Value,e.length=(gH st).length->bindArgs (W.fnOf x q (bD st) (bh st) (ag st) .none g doc j m d ct) (e,[])=pure ((gH st).zip e)):Me K C n st:=(_,_,f,_,Ug l c k,(a,i,k),.all r)
theorem fin{l:W.OpenLaw}{K:qs}(a:mg "law"= ↑⇑g)(T:Txt l.prog w K mg) :
  ∃d:FuncData,(∀(s:Shared)(v:Value),BindsTo s d ([v],[]) [("_law_script",v)])/\∀base:Heap,K.In base->base.Ns mainGlobals mg->Rt l.prog w K mg base (RT l.prog w) 87 g d ["_law_script"] (nz K):=by
 have e:=a.symm.trans T.Mt.m;cases e;let(_,_,_,_,_,_,_,_,_,e,_):=T.Mt.f.ex;exact(_,λs v=>by rw[e];exact .of_eq rfl,λbase _ _=>chain T)
theorem walk{l:W.OpenLaw}{loose:zl}{d:DefRec}{K:Params->W.Frag}(j:l.most= ↑63)(e:d.params.defaults=[])
  (m:∀(w:World)(h:Heap),p w h->(K w.params).In h)
  (F:∀(w:World)(mg:za)(g:Addr)(h:Heap),(K w.params).In h->h.Ns mainGlobals mg->mg d.name= ↑⇑g ->
   ∃i:FuncData,(∀(s:Shared)(u:Value),BindsTo s i ([u],[]) [("_law_script",u)])/\∀base:Heap,(K w.params).In base->base.Ns mainGlobals mg->Rt l.prog w (K w.params) mg base (RT l.prog w) 87 g i ["_law_script"] (nz (K w.params))) :
  W.WalkO q loose B p l.row.toRowW d [] (λf r=>PySem.call f r) :=
 L2.Xe (n:=63) (k:=87) (x:="_law_script") (CX:=λw=>RT l.prog w) (sp:=λw=>nz (K w.params)) j ⋯ e (rfl,⋯,⋯) m F (λ_ _ a t hl v y=>(a,t,rfl,GT v y,λ_=>rfl)) λ_ _ _ _ _ ⟨_,_,_,_,_,_,_,_,_,_,_,_,z⟩=>z
theorem V1{K:qs}{st:Stmt}{doc:Value}{g:qw}(l:K.lookup f= ↑(oc,p,.func (W.fnOf x qual (bD st) (bh st) (ag st) ⇑T i doc j m a ct),d))(c:W.codeIn K a qual=true)(k:W.keepIn K ⇑f=true)(e:K.lookup T= ↑(q,r,.seq g.toArray t,u)):VC K x qual st f (W.fnOf x qual (bD st) (bh st) (ag st) ⇑T i doc j m a ct) T g:=((oc,p,i,doc,j,m,a,ct,d,rfl,l,c),k,(_,_,e,rfl))
theorem TZ{l:W.OpenLaw}{K:qs}(x:K.lookup a= ↑o)(e:KTD.tabLook KTD.flatLooks (λb=>K.lookup b) a ([("hole",.int 2),("gap",.int 3),("slot",.int 2)]:List (Str×PyData))=true)(q:KTD.hashesOf (λb=>K.lookup b) a=([("hole",.int 2),("gap",.int 3),("slot",.int 2)]:List (Str×PyData)).map λp=>(PySem.strKind l.prog w).hash p.1):mH l.prog w K a ["hole","gap","slot"]:=((_,x),λh x=>(_,W.kt_tab_in l.prog w x e ⋯ q,rfl))
end My
open PySem PySem.W PyProof.Rows
set_option maxRecDepth 100000 in
set_option maxHeartbeats 0 in
theorem PySem.Challenge.cw_piecelay_k22_whole_shop_holds : PySem.Challenge.rw_piecelay_k22_whole_shop.Holds := by
 w_on;refine holds_law My.said λsaid=>?_
 refine holds_open (q:=My.view) (loose:=My.loose) (Xt:=My.xt) (XP:=XL My.view []) (Yf:=Hook.obs (kHook My.k0.heap_1 My.kas My.kas_ok)) (Ya:=Hook.val (kHook My.k0.heap_1 My.kas My.kas_ok)) (YP:=Hook.says (kHook My.k0.heap_1 My.kas My.kas_ok)) (N:=My.NN) My.left (Hook.of (kHook My.k0.heap_1 My.kas My.kas_ok)) (Hook.keeps (kHook My.k0.heap_1 My.kas My.kas_ok)) (λs e=>xl_of s (Bool.and_eq_true_iff.mp e).1) XL.keeps (by rfl) (by rfl) (by rfl) (λs e=>recFacts_of (Bool.and_eq_true_iff.mp e).2) (by rfl) (by first|assumption|decide +kernel) ⋯ (rfl,rfl,rfl,rfl,rfl,⋯) ?hw ?hc
 case hw=>w_witness2
 k_fill
 refine My.walk (l:=PySem.Challenge.rw_piecelay_k22_whole_shop) rfl rfl (λw h Y=>PySem.W.kIn_of Y) ?F
 case F =>
  intro w mg j h f G g;refine My.fin g ?T;have M:∀{n:Str}{v:Value},nsIn _ mainGlobals n= ↑(some v)->mg n= ↑v:=mg_of f G;have N:∀{n:Str},nsIn _ mainGlobals n= ↑none->mg n=none:=mg_none_of f G;constructor
  iterate 5
   refine' My.ZK f G ?a ?l ?c ?k ?b
   case a=>k_is
   case l=>change _=_;k_is
   case c=>k_is
   case k=>k_is
   case b=>exactλd hl=>by first | (match d,hl with |[_],_=>rfl) | (match d,hl with |[_,_,_],_=>rfl) | (match d,hl with |[_,_,_,_],_=>rfl)
  case fs =>
   repeat
    refine' My.Rr.c (My.ZL f G ?a ?l ?c ?k ?b) ?_
    case a=>k_is
    case l=>change _=_;k_is
    case c=>k_is
    case k=>k_is
    case b=>intro d hl;(first | (match d,(show d.length=0 from hl)with |[],_=>rfl) | (match d,(show d.length=1 from hl)with |[_],_=>rfl) | (match d,(show d.length=2 from hl)with |[_,_],_=>rfl) | (match d,(show d.length=3 from hl)with |[_,_,_],_=>rfl) | (match d,(show d.length=4 from hl)with |[_,_,_,_],_=>rfl) | (match d,(show d.length=5 from hl)with |[_,_,_,_,_],_=>rfl) | (match d,(show d.length=6 from hl)with |[_,_,_,_,_,_],_=>rfl))
   exact My.Rr.n
  all_goals try (first|refine M ?_|refine N ?_);k_is
  case il =>
   repeat
    refine' My.il_c (M ?a) ?_
    case a=>k_is
   exact My.Rr.n
  case co =>
   repeat
    refine' My.co_c (M ?a) ?b ?_
    case a=>k_is
    case b=>kernel_rfl
   exact My.Rr.n
  case ta =>
   repeat
    refine' My.ta_c (M ?a) ?b ?_
    case a=>k_is
    case b=>refineλh x=>kt_text_in x ?_;first|rfl|decide +kernel
   exact My.Rr.n
  case ky=>refine'(_,M ?o0,My.TZ ?o1 ?o2 ?o3);(case o0=>k_is);(case o1=>k_is);(case o2=>first|rfl|decide +kernel);(case o3=>first|rfl|kernel_rfl)
  case bi =>
   repeat
    refine' My.Rr.c (N ?a) ?_
    case a=>k_is
   exact My.Rr.n
  case m0 =>
   repeat
    refine' My.Rr.c (My.XT ?a ?i ?l ?c ?k ?b) ?_
    case a=>k_is
    case i=>kernel_rfl
    case l=>change _=_;k_is
    case c=>k_is
    case k=>k_is
    case b=>intro d hl;(first | (match d,(show d.length=0 from hl)with |[],_=>rfl) | (match d,(show d.length=1 from hl)with |[_],_=>rfl) | (match d,(show d.length=2 from hl)with |[_,_],_=>rfl) | (match d,(show d.length=3 from hl)with |[_,_,_],_=>rfl) | (match d,(show d.length=4 from hl)with |[_,_,_,_],_=>rfl) | (match d,(show d.length=5 from hl)with |[_,_,_,_,_],_=>rfl) | (match d,(show d.length=6 from hl)with |[_,_,_,_,_,_],_=>rfl))
   exact My.Rr.n
  case m1 =>
   repeat
    refine' My.Rr.c (My.XT ?a ?i ?l ?c ?k ?b) ?_
    case a=>k_is
    case i=>kernel_rfl
    case l=>change _=_;k_is
    case c=>k_is
    case k=>k_is
    case b=>intro d hl;(first | (match d,(show d.length=0 from hl)with |[],_=>rfl) | (match d,(show d.length=1 from hl)with |[_],_=>rfl) | (match d,(show d.length=2 from hl)with |[_,_],_=>rfl) | (match d,(show d.length=3 from hl)with |[_,_,_],_=>rfl) | (match d,(show d.length=4 from hl)with |[_,_,_,_],_=>rfl) | (match d,(show d.length=5 from hl)with |[_,_,_,_,_],_=>rfl) | (match d,(show d.length=6 from hl)with |[_,_,_,_,_,_],_=>rfl))
   exact My.Rr.n
  case na0 =>
   repeat
    refine' My.Rr.c ?a ?_
    case a=>show PySem.W.findIn _ _ _=_;kernel_rfl
   exact My.Rr.n
  case na1 =>
   repeat
    refine' My.Rr.c ?a ?_
    case a=>show PySem.W.findIn _ _ _=_;kernel_rfl
   exact My.Rr.n
  all_goals try (refine' L2.Meth.mk ?m1 ?m2 ?m3;(case m1=>k_is);(case m2=>kernel_rfl);(case m3=>k_is))
  all_goals try (refine' L2.Mk.mk ?n1 ?n2 ?n3 ?n4;(case n2=>k_is);all_goals kernel_rfl)
  (case VW=>refine' L2.Mk.mk ?o1 ?o2 ?o3 ?o4;(case o2=>k_is);all_goals kernel_rfl)
  (case LZ=>refine' My.V1 ?h1 ?h2 ?h3 ?h4;(case h1=>change _=_;k_is);(case h2=>k_is);(case h3=>k_is);(case h4=>change _=_;k_is))
  (case M8=>refine' L2.Ug ?f1 ?f2 ?f3;(case f1=>change _=_;k_is);(case f2=>k_is);(case f3=>k_is))
  (case XH=>intros;rfl)
  all_goals first|rfl|kernel_rfl|decide +kernel | (refineλh x=>kt_text_in x ?_;first|rfl|decide +kernel) | (refine' L2.Ug ?f1 ?f2 ?f3;(case f1=>change _=_;k_is);(case f2=>k_is);(case f3=>k_is)) | (refine' My.V1 ?g1 ?g2 ?g3 ?g4;(case g1=>change _=_;k_is);(case g2=>k_is);(case g3=>k_is);(case g4=>change _=_;k_is)) | (constructor<;>first|rfl|kernel_rfl|decide +kernel)
