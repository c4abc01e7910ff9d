import PyProof.Rows.All
import KE.KNest
import Wide.All
import OpenK.AllK
import Wide.FinOn
import Lean
import PyProof.EqAt
import PyProof.EqKinds
import PyProof.TupleCall
import PySem.Challenge.RW_dimhouse_k74_writing_down
open Array renaming getElem?_eq_getElem→VY,length_toList→S7,getElem?_toList→Zd,getElem?_eq_none→zb5
open BEq renaming comm→PY
open Bool renaming and_eq_true→Hm,false_ne_true→Ju,and_eq_true_iff→LB,false_eq_true→Ou,or_eq_true→NL,not_eq_true'→PZ,eq_iff_iff→RW,and_true→RX,and_eq_false_imp→Ze,or_eq_false_iff→Zf,and_assoc→VZ,true_and→V0,and_false→Zg,false_or→Zh,not_true→Zi
open Eq renaming trans→M0
open False renaming elim→MJ
open ForInStep renaming yield→RY
open Function renaming comp_def→IJ
open Inhabited renaming default→Ov
open Int renaming emod_nonneg→M1,toNat_natCast→Ow,eq_ofNat_of_zero_le→QC,emod_lt_of_pos→O8,zero_add→MK,fdiv_eq_ediv_of_nonneg→qw9
open Lean renaming maxHeartbeats→ze0
open List renaming mem_of_getElem?→Il,getElem?_map→HZ,length_map→HN,map_cons→Hz,mem_map→HG,getD_eq_getElem?_getD→KS,mem_cons→IE,getElem?_cons_succ→KU,size_toArray→JB,replicate→I0,nodup_cons→Jr,length_cons→JK,length_append→Kj,mem_append→JC,map_map→IV,range→Ir,all_eq_true→Kk,getElem?_set_self→Mh,nodup_append→Le,map_append→KW,mem_range→KF,all_cons→Ks,map_congr_left→M3,getElem?_append_right→P0,append_nil→LY,mem_append_right→Ox,getElem?_eq_none→Oy,mem_cons_of_mem→Oz,getElem?_append_left→RZ,append_assoc→NM,mem_filter→Nx,replicate_succ→O9,length_nil→Ny,map_nil→Mi,contains_iff_mem→QD,getElem?_cons_zero→R0,isEmpty_iff→Pa,length→ML,mem_iff_getElem?→R1,mem_cons_self→QE,lookup_cons→P1,getElem_mem→P2,mem_flatMap→P3,flatten_cons→QF,ext_getElem?→QG,lookup→Nz,length_set→P5,find?_cons→P6,any_cons→Pb,mem_singleton→R3,pairwise_cons→R4,nodup_range→R5,take_of_length_le→V1,length_singleton→V2,take_sublist→S8,drop_eq_getElem_cons→Zj,not_mem_nil→S9,filterMap_cons→V3,getElem?_eq_getElem→qq9,getElem?_take_of_lt→Zk,map_set→QH,Sublist→QI,getElem?_replicate→Zl,foldl_cons→Ta,pairwise_singleton→Zm,length_range→V4,find?→P7,nodup_nil→Tc,zipWith→R6,length_take→V5,eq_nil_of_length_eq_zero→qv0,drop_length→V6,getElem?_set_ne→qv3,nil_append→V7,mem_filterMap→Zn,getElem?_zip_eq_some→qx9,flatMap_cons→Zo,filter_cons_of_pos→za1,filter_cons_of_neg→za2,map_take→V8,range'_succ→Zp,map_fst_zip→Zq,filter_eq_nil_iff→zb7,of_mem_zip→Zr,getElem?_zipWith→zd2,length_filter_le→zd3,foldl→Td,all_map→Zs,all_nil→Zt
open List.Pairwise renaming map→Pc,nil→Zu
open List.cons renaming injEq→OA
open Nat renaming ne_of_lt→IS,lt_of_lt_of_le→KG,le_trans→JS,le_succ_of_le→Mj,add_sub_cancel_left→P8,lt_or_ge→MM,zero_le→Ml,lt_of_le_of_lt→P9,ne_of_gt→NA,not_lt→Mm,lt_trans→OB,lt_irrefl→Qa,le_succ→OC,succ_le_succ→Te,le_of_lt→QJ,lt_succ_self→V9,le_refl→Tf,zero_add→Tg,sub_zero→Wa,sub_eq_zero_of_le→zc7,min_eq_left→Zv,add_zero→Zw,reduceLT→Zx
open Ne renaming symm→JQ
open Option renaming bind_some→G8,map_some→Iy,map_eq_some_iff→OD,bind_eq_some_iff→Ti,isNone_iff_eq_none→Wb,join_some→Wc,isSome_iff_exists→qy6,isSome_map→Zy,getD_none→Zz
open Option.some renaming inj→JU,injEq→We
open Prod renaming fst→NN
open PyProof.Rows renaming callWith_type1→ZA,subscriptTail_builtinR→zb3,AllBare→Pd,subscriptTail→ZB,envOfC→Qb
open PySem renaming wpAny_pure→Hf,sizeLine→G6,Shared→pv,starEach→Hn,sizeLine_eq→Ih,Program→Iz,compareOp→JL,wpAny_dictEntries→NO,mainGlobals→Lf,bootBuiltins→LZ,wpAny_call_entry→NP,wpAny_newObj_type→OE,assignEach→Lg,sysModules→LC,foldedSetIterable→Pe,wpAny_callSpecial?_slot→R7,wpAny_bind→L0,backTo→IK,keywordEach→MN,attributeBase→NQ,swapsWith→LD,wpAny_typeNameOfWhole_itemiter→Wf,binaryOp→KY,wpAny_typeNameOfWhole_keyiter→Wg,wpAny_holding→OF,Builtin→JV,Around→Jo,wpAny_dictEpoch→Qc,wpAny_Call_Name_kw→R8,tupleKind_room_in1→R9,wpAny_notOrdered_dict→Tj,wpAny_setField_rec→Sa,wpAny_typeNameOf_itemiter→Wh,wpAny_typeNameOf_keyiter→Wi,wpAny_field→OG,wpAny_mono→NR,holding→LE,swapsWithSole→QK,backToKw→MO,firstArgMember→Sd,Operator→NB,rawInt→La,wpAny_pyIter_tuple→Wj,wpAny_passesOwn→Tl,getattributeRaised→Wl,wpAny_isOneOf_itemiter→ZC,sliceBounds→QL,FuncData→NS,wpAny_setField→Tm,pyNext→LI,plainId_quiet→Tp,call_meets→QN,letOwnedTupleGo→Wn,getMethod→Qd,codeAny→NC,codeAny_builtin→Wo,wpAny_updateSeq→Wp,NameKind→Pf,standAt→NU,Keyword→NV,wpAny_seqItems→Wq,wpAny_fieldsOf→Wr,tupleKind→QO,wpAny_truthy_bool→ZD,assign→MP,swappedStores→Ws,wpAny_pyNext_tuple_item→qz5,behindInMarks→Wt,wpAny_attempt→Wu,noFill_tuple_add→ZE,wpAny_isInstance→ZF,wpAny_pyNext_list_item→zb1,wpAny_pyNext_tuple_end→zb2,wpAny_pyNext_list_end→zc0,codeAny_mono→Wv,concat_meets→Ww,call_meetsIn→Wx,wpAny_isOneOf_keyiter→zd0,builtinLookup_eq_fast→zd1,callWith→QP,callerA→Qe,wpAny_standAt→ZG,seq_tuple_add→ZI,seqIndex?→Tq,compPost→Se,comprehension→ZJ,wpAny_handled→ZK,builtinsNs→Wy,valueAt→QR,seqIndex_neg→ZL,wpAny_typeOf→ZM,bindArgs→Ts,DictEntry→Wz,updateSeq→WA
open PySem.Around renaming under_plainId→WB,under→ZN
open PySem.AutoSeq1 renaming wpAny_loadPart'→ZO
open PySem.Builtin renaming bitAnd→WC
open PySem.Builtin.Dict renaming showsAll→Tt,samePairs→ZP,dictSlotArgs→qx8,updateFrom→qz8
open PySem.Builtin.Dict_items renaming ownsTuple→Tu,ownedTupleFields→qq7,ownedTupleIsFree→qq8,pairFromOwner→qs8
open PySem.Builtin.List renaming listExtendWith→ZQ,listTooLong→ZR,listSameRef→qz1,listItems→zb6
open PySem.Builtin.SmallTypes renaming nextOf→WD
open PySem.Builtin.Str renaming occurrences→ZS
open PySem.Calls renaming callWith_builtin→ZT,Name_function_global→qw8,spliced_cons→ZU
open PySem.Code renaming isFrame→ZV
open PySem.F renaming slot_dict_itemiterator_next→Tv,slot_dict_keyiterator_next→Tw,slot_tuple_iterator_next→WE,slot_tuple_getattribute→ZW,slot_list_getattribute→ZX,args_dict_itemiterator_next_1→qt6,entry_dict_itemiterator_next→qu3,args_dict_keyiterator_next_1→qu5,entry_dict_keyiterator_next→qv2,args_tuple_iterator_next_1→qv6,entry_tuple_iterator_next→qw4,slot_dict_items_iter→zb4
open PySem.Heap renaming lt_size→Ii,get?_push_size→JW,get?_update_self→Ph,SameBut→L3,get?_update_other→Sf,size_push→QS,get?_push_of_some→zb0,ExtBut→WF
open PySem.Heap.SameBut renaming update→Sg
open PySem.NameKind renaming free→M4
open PySem.Obj renaming mapSeq→MQ,data_mapFields→WG,isFreed_of_fields→zc9
open PySem.SeqAt renaming EqAt→Kt,RcAt→Si,RcNeAt→WH
open PySem.SeqAt.EqAt renaming of_refs→ZY,same→ZZ
open PySem.SeqAt.RcAt renaming lists_lengths→qz0
open PySem.Str renaming ofString→Jv,ofString_eq_toList→zb8
open PySem.Txt renaming join→Tx
open PySem.Value renaming ref→HH,none→Kl,type→OH,bool→Qf,int→Tz,str→TB
open Sum renaming inr→JM,inl→JT
open Sum.inl renaming injEq→TC
open Sum.inr renaming injEq→OI,inj→TD
open True renaming intro→M5
set_option Elab.async false
set_option linter.all false
set_option compiler.extract_closed false
local macro_rules|`(tactic|rcases $h:ident)=>`(tactic|split at $h:ident<;>first|(cases $h:ident;done)|skip)
local macro_rules|`(command|omit x)=>`(command|set_option tactic.hygienic true)
local macro_rules|`(‹$t›)=>`(by simpa using $t)
local macro_rules|`(tactic|rwa[$r,*]$(l)?)=>do
 let a:=r.getElems.map λx=>Lean.mkNode ``Lean.Parser.Tactic.simpLemma #[Lean.mkNullNode,x.raw[0],x.raw[1]]
 `(tactic|simp only[$a,*]$(l)?)
open Lean Parser Tactic in
local macro_rules|`(tactic|have⟨$p,*⟩:=$e)=>do
 let w k a:=mkNode ``rcasesPatLo #[mkNode ``rcasesPatMed #[mkNullNode #[mkNode (`Lean.Parser.Tactic.rcasesPat++k) a]],mkNullNode]
 `(tactic|obtain $(⟨((←`(⟨$p,*⟩)).raw.rewriteBottomUp λx=>if x.isIdent then w `one #[x] else if x.isOfKind ``Term.hole then w `ignore x.getArgs else if x.isOfKind ``Term.anonymousCtor then w `tuple x.getArgs else x)[0]⟩):rcasesPatMed:=$e)
open Lean in
def mL0(s:String):=(s.splitOn " ").toArray.map λs=>mkNode ``Parser.Tactic.simpLemma #[mkNullNode,mkNullNode,mkIdent (`L2++s.toName)]
def mD0:="lent vw Qg cg ixV QT QU eQ cj rG vws uB iy ic HE Hs LJ Jh c5 uw KH Z0 MR QV TF TH TJ Z1 Z2 Z3 Z4 Z5 WI yp TK Mn TL fin T.d al dats CV.sol CV.kp CV.old ip bR ci cO im getV c9 vG finL Dy TN ofS"
namespace ZH
open PySem PySem.W PyProof.Rows
def trees:List Obj→BT→Nat→Option (BT×Nat)
  | [],t,n=>some (t,n)
  | o::r,t,n=>match ((t.ins n o).get n).isSome with
    | true=>trees r (t.ins n o) (n+1)
    | false=>none
def topRunT (tb:String→Option Builtin) (p:Program) (w:World) (n₀:Nat) (ann:Option Value):Nat→SharedT→Thread→Option SharedT
  | 0,_,_=>none
  | n+1,s,t=>match through t with
    | true=>some s
    | false=>match stepOk n₀ ann t with
      | false=>none
      | true=>match stepT (denote tb) p w s t with
        | some (s',t')=>topRunT tb p w n₀ ann n s' t'
        | none=>none
def toT (s:Shared):Option SharedT:=(trees s.heap.objs.toList .nil 0).map fun q=>⟨q.1,q.2,s.heap.life,s.gens,s.drawn,s.toks,s.os⟩
section
variable {tb:String→Option Builtin} {p:Program} {w:World} {n₀:Nat} {ann:Option Value}
theorem topRun_of:∀ {n:Nat} {s s':SharedT} {t:Thread},topRunT tb p w n₀ ann n s t=some s'→topRun tb p w n₀ ann n s.abs t=some s'.abs
  | 0,_,_,_,h=>by cases h
  | n+1,s,s',t,h=>by
    unfold topRunT at h
    unfold topRun
    cases he:through t with
    | true=>rw [he] at h;cases h;rfl
    | false =>
      rw [he] at h
      cases hk:stepOk n₀ ann t with
      | false=>rw [hk] at h;cases h
      | true =>
        rw [hk] at h
        cases hs:stepT (denote tb) p w s t with
        | none=>rw [hs] at h;cases h
        | some r=>obtain ⟨s₂,t₂⟩:=r;rw [hs] at h;rw [stepT_spec hs];exact topRun_of h
theorem trees_abs {life:Life}:∀ {l:List Obj} {t t':BT} {n n':Nat},trees l t n=some (t',n')→(absHeap t' n' life).objs.toList=(absHeap t n life).objs.toList++l
  | [],t,t',n,n',h=>by cases h;simp
  | o::r,t,t',n,n',h=>by
    unfold trees at h
    cases q:((t.ins n o).get n).isSome with
    | false=>rw [q] at h;cases h
    | true =>
      rw [q] at h
      rw [trees_abs h,absHeap_ins q]
      show ((absHeap t n life).objs.push o).toList++r=_
      rw [Array.toList_push,List.append_assoc];rfl
theorem toT_abs {s:Shared} {sT:SharedT} (h:toT s=some sT):sT.abs=s:=by
  obtain ⟨⟨heap,life⟩,gens,drawn,toks,os⟩:=s
  unfold toT at h
  obtain ⟨⟨t,n⟩,h1,rfl⟩:=Option.map_eq_some_iff.mp h
  have e:=trees_abs (life:=life) h1
  have e0:(absHeap BT.nil 0 life).objs.toList=[]:=rfl
  rw [e0,List.nil_append] at e
  have e1:(absHeap t n life).objs=heap:=Array.toList_inj.mp e
  show Shared.mk (absHeap t n life) gens drawn toks os=_
  have e2:absHeap t n life=⟨heap,life⟩:=by
    have:absHeap t n life=⟨(absHeap t n life).objs,life⟩:=rfl
    rw [this,e1]
  rw [e2]
def tp {γ:Type} (p:Program) (w w':World) (N:Nat) (A:Shared→Shared→γ):Option γ:=(fencedOpening treeTable p w N).bind fun s=>(toT s).bind fun sT=>(topRunT treeTable p w' s.heap.objs.size (s.heap.nsMap mainGlobals "__annotations__") N sT (topStub p)).map fun z=>A s z.abs
def ckT (p:Program) (s₀ s₁:Shared):Bool:=(s₀.heap.isNs mainGlobals&&s₀.gens.size==0)&&(staticsOk (importedModules p.main.body) s₀.heap s₁.heap&&namesBound p s₁.heap&&gensDone s₁&&laidKept s₀.heap s₁.heap)
theorem tp3 {w':World} {N:Nat} {α β γ:Type} {A:Shared→α×β} {θ:Shared→γ} {a:α} {b:β} {c:γ} (h1:tp p w w' N (fun s z=>(ckT p s z,(A z).1))=some (true,a)) (h2:tp p w w' N (fun _ z=>(A z).2)=some b) (h3:tp p w w' N (fun _ z=>θ z)=some c):(fencedOpening treeTable p w N).map (fun s₀=>(topFrom treeTable p w' N s₀).map fun z=>(A z,θ z))=some (some ((a,b),c)):=by
  unfold tp at h1 h2 h3
  obtain ⟨s,q1,h1⟩:=Option.bind_eq_some_iff.mp h1
  obtain ⟨sT,q2,h1⟩:=Option.bind_eq_some_iff.mp h1
  obtain ⟨z,q3,h1⟩:=Option.map_eq_some_iff.mp h1
  rw [q1,Option.bind_some,q2,Option.bind_some,q3] at h2 h3
  have e2:(A z.abs).2=b:=Option.some.inj h2
  have e3:θ z.abs=c:=Option.some.inj h3
  obtain ⟨k1,k2⟩:=Prod.mk.inj h1
  have hr:=topRun_of q3
  rw [toT_abs q2] at hr
  obtain ⟨k3,k4⟩:=Bool.and_eq_true_iff.mp k1
  rw [q1]
  show some ((topFrom treeTable p w' N s).map _)=_
  unfold topFrom
  rw [k3]
  dsimp only
  rw [hr,Option.bind_some,k4]
  show some (some (A z.abs,θ z.abs))=_
  rw [e3,← k2,← e2]
end
end ZH
namespace P74H
open PySem PySem.W PyProof.Rows
section
local macro_rules | `(tactic| o_head $_) => `(tactic| exact (by assumption : ∀ p : Prop, p) _)
set_option maxRecDepth 100000 in
set_option maxHeartbeats 0 in
theorem pre (h0:∀ p:Prop,p):PySem.Challenge.rw_dimhouse_k74_writing_down.row.Holds:=by
  k_head
end
def seen:Program:={PySem.Challenge.pw_dimhouse_k74_writing_down with main:={PySem.Challenge.pw_dimhouse_k74_writing_down.main with body:=[0,1,3,4,5,6,8,10,11,12,13,14,16,18,20,22,23,24,25,26,27,28,29,30,31,32,33,34,35,36,37,38,39,40,41].filterMap fun i=>PySem.Challenge.pw_dimhouse_k74_writing_down.main.body[i]?}}
noncomputable abbrev hook:Hook:=kHook P74H.pre.heap_1 [2,3,15,17,18,20,21,22,24,25,27,28,29,32,33,34,36,37,39,40,41,43,44,46,47,55,57,58,60,61,62,64,65,67,68,69,71,72,74,75,76,78,79,81,82,83,84,85,86,87,97,99,100,102,103,104,106,107,109,110,111,112,113,114,115,118,121,122,123,125,126,128,129,130,133,134,135,137,138,140,141,149,152,153,154,156,157,159,160,161,163,164,166,167,168,170,171,173,174,175,177,178,180,181,182,184,185,187,188,189,191,192,194,195,196,198,199,201,202,203,205,206,208,209,210,212,213,215,216,217,219,220,222,223,224,226,227,229,230,231,233,234,236,237,238,240,241,243,244,245,246,247,248,249,259,262,263,264,266,267,269,270,271,273,274,276,277,278,280,281,283,284,285,287,288,290,291,292,294,295,297,298,299,301,302,304,305,306,308,309,311,312,313,315,316,318,319,320,322,323,325,326,327,329,330,332,333,334,336,337,339,340,341,343,344,346,347,348,350,351,353,354,355,357,358,360,361,362,364,365,367,368,369,371,372,374,375,376,378,379,381,382,383,385,386,388,389,390,392,393,395,396,397,399,400,402,403,404,406,407,409,410,411,413,414,416,417,418,419,420,421,422,432,435,436,437,439,440,442,443,444,446,447,449,450,451,453,454,456,457,458,460,461,463,464,465,467,468,470,471,472,474,475,477,478,479,481,482,484,485,486,488,489,491,492,493,495,496,498,499,500,502,503,505,506,507,509,510,512,513,514,516,517,519,520,521,523,524,526,527,528,530,531,533,534,535,537,538,540,541,542,543,544,545,546,549,551,552,554,555,556,558,559,561,562,563,566,567,568,570,571,573,574,575,577,578,580,581,582,585,586,587,589,590,592,593,594,596,597,599,600,601,604,605,606,609,610,611,613,614,616,617,618,620,621,623,624,625,627,628,630,631,632,634,635,637,638,639,641,642,644,645,646,649,650,651,653,654,656,657,658,661,662,663,666,667,668,670,671,673,674] (fun _=>by kernel_rfl)
abbrev pg:=PySem.Challenge.rw_dimhouse_k74_writing_down.row.prog
abbrev oA (s:Shared):=openSeen seen [] (importedModules pg.main.body) (fun s=>xlAt seen [] s&&recOk (RowW.records (OpenRow.toRowW PySem.Challenge.rw_dimhouse_k74_writing_down.row)) s) true s
theorem map_two {α β γ:Type} {x:Option α} {f:α→β} {g:α→γ} {a:β} {b:γ} (h:x.map f=some a) (h':x.map g=some b):x.map (fun s=>(f s,g s))=some (a,b):=by
  cases x with
  | none=>cases h
  | some s=>simp only [Option.map_some,Option.some.injEq] at h h' ⊢;rw [h,h']
set_option maxRecDepth 100000
set_option maxHeartbeats 0
abbrev tq {γ:Type} (b:Bool) (w:World) (A:Shared→Shared→γ):Option γ:=ZH.tp pg w (w.withFollow "special-get-raises" b) 8500 A
abbrev gd:=openGood seen []
theorem ra_false (w:World):tq false w (fun s z=>(ZH.ckT pg s z,(oA z).1))=some (true,gd.1):=by
  kernel_rfl
theorem rb_false (w:World):tq false w (fun _ z=>(oA z).2)=some gd.2:=by
  kernel_rfl
theorem rc_false (w:World):tq false w (fun _ z=>Hook.obs hook z)=some (Hook.val hook (w.withFollow "special-get-raises" false)):=by
  kernel_rfl
theorem ra_true (w:World):tq true w (fun s z=>(ZH.ckT pg s z,(oA z).1))=some (true,gd.1):=by
  kernel_rfl
theorem rb_true (w:World):tq true w (fun _ z=>(oA z).2)=some gd.2:=by
  kernel_rfl
theorem rc_true (w:World):tq true w (fun _ z=>Hook.obs hook z)=some (Hook.val hook (w.withFollow "special-get-raises" true)):=by
  kernel_rfl
theorem ws:PySem.Challenge.rw_dimhouse_k74_writing_down.wellSaid=true:=by
  kernel_rfl
end P74H
set_option maxRecDepth 100000
set_option maxHeartbeats 4000000
set_option genSizeOf false
set_option genInjectivity false
set_option bootstrap.genMatcherCode false
set_option tactic.hygienic false
open PySem.W renaming Frag->xA9,kia_one->xB9,findIn->xC9,emptyDict->xD9,instObj->xE9,nsIn->xF9,keepIn->xG9,kitOne->xH9,plainGet->xI9,isFn->xJ9,lookIn->xK9,hasDictIn->xL9,kitx_dict->xM9,mg_of->xN9,methodObj->xO9,plainGet_of->xP9,plainOver->xQ9,takerIn->xR9,makesIn->xS9,methodCall_KW->xT9,kitx_list->xU9,callWith_K->xV9,callWith_K0->xW9
open PySem renaming Addr->J4,World->J5,Stmt->J6,Expr->J8,Scope->J9
noncomputable section
def χ{p:Prop}(h:p:=by decide +kernel):p:=h
def Ψ{p:Prop}(h:p:=by walk_at "x"):p:=h
def Θ{p:Prop}(h:p:=by lia):p:=h
def Ξ{p:Prop}(h:p:=by simp):p:=h
def Ω{p:Prop}(h:p:=by decide):p:=h
open Option renaming some->Z,none->J
open Bool renaming true->C,false->ξ
abbrev B:=@List
abbrev ζ:=@Option
def gX{α:Type _}{l:B α}{i:Nat}{a:α}(h:l[i]?=Z a):∃z:i<l.length,l[i]=a:=List.getElem?_eq_some_iff.mp h
open PySem PySem.Spec PyProof.Rows in abbrev gN := @List.getElem?_set_ne
open PySem PySem.Spec PyProof.Rows in abbrev gP := @Heap.get?_push_of_some
open PySem PySem.Spec PyProof.Rows in abbrev wB := @wpAny_bind
open PySem PySem.Spec PyProof.Rows in abbrev gL := @List.getElem?_append_left
open PySem PySem.Spec PyProof.Rows in abbrev gR := @List.getElem?_append_right
open PySem PySem.Spec PyProof.Rows in abbrev gQ := @List.getElem?_eq_getElem
open PySem PySem.Spec PyProof.Rows in abbrev nL := @Nat.le_refl
set_option maxRecDepth 100000
set_option maxHeartbeats 4000000
namespace L2
open PySem PySem.Spec PyProof.Rows
abbrev rb:=Sum Int Str
noncomputable def jg:rb->Value->Bool
 |.inl k,v=>Value.isInt k v
 |.inr x,v=>Value.isStrOf x v
noncomputable def Z6(w:J5):rb->Int
 |.inl k=>hashInt k
 |.inr x=>hashStr w x
def aB:∀{k:rb}{v:Value},jg k v=C->(∃i t,k=JT i/\v=Tz i t)\/(∃x t,k=JM x/\v=TB x t)
 |.inl i,v,h=>by have⟨t,e⟩:=Value.isInt_shape (k:=i) (v:=v) h;exact .inl ⟨i,t,rfl,e⟩
 |.inr x,v,h=>by have⟨t,e⟩:=Value.isStrOf_shape (x:=x) (v:=v) h;exact .inr ⟨x,t,rfl,e⟩
def qE(i:Int)(t:Tok):jg (.inl i) (.int i t)=C:=by simp[jg,Value.isInt]
def qF(x:Str)(t:Tok):jg (.inr x) (.str x t)=C:=by simp[jg,Value.isStrOf]
def A7(a b:Int):decide ((JT a:rb)=JT b)=(a==b):=by
 by_cases e:a=b
 .subst e;simp
 .have h:¬ (JT a:rb)=JT b:=λq=>e (JT.inj q)
  rw[decide_eq_false h];exact(beq_eq_false_iff_ne.mpr e).symm
def A8(a b:Str):decide ((JM a:rb)=JM b)=decide (a=b):=by
 by_cases e:a=b
 .subst e;simp
 .have h:¬ (JM a:rb)=JM b:=λq=>e (TD q)
  rw[decide_eq_false h,decide_eq_false e]
def A9(a:Int)(b:Str):decide ((JT a:rb)=JM b)=ξ:=decide_eq_false (λq=>nomatch q)
def Ba(a:Str)(b:Int):decide ((JM a:rb)=JT b)=ξ:=decide_eq_false (λq=>nomatch q)
def am(prog:Iz)(w:J5):PySem.KeyKind prog w rb where
 is:=jg
 hash:=Z6 w
 inj:=λv a b W hb=>by
  rcases aB W with ⟨i,t,rfl,rfl⟩|⟨x,t,rfl,rfl⟩
  .rcases aB hb with ⟨j,u,rfl,e⟩|⟨y,u,rfl,e⟩
   .injection e with O _;rw[O]
   .exact nomatch e
  .rcases aB hb with ⟨j,u,rfl,e⟩|⟨y,u,rfl,e⟩
   .exact nomatch e
   .injection e with O _;rw[O]
 byValue:=λk v h=>by rcases aB h with ⟨i,t,rfl,rfl⟩|⟨x,t,rfl,rfl⟩<;>rfl
 pyHash:=λU h=>by
  rcases aB U with ⟨i,t,rfl,rfl⟩|⟨x,t,rfl,rfl⟩
  .exact wpAny_pyHash_int h
  .exact wpAny_pyHash_str h
 eqBool:=λhu U h=>by
  rcases aB hu with ⟨i,t,rfl,rfl⟩|⟨x,t,rfl,rfl⟩
  .rcases aB U with ⟨j,u,rfl,rfl⟩|⟨y,u,rfl,rfl⟩
   .rw[A7]at h;exact wpAny_eqBool_int h
   .rw[A9]at h;exact Kt.int_str i t y u _ _ _ _ h
  .rcases aB U with ⟨j,u,rfl,rfl⟩|⟨y,u,rfl,rfl⟩
   .rw[Ba]at h;exact Kt.str_int x t j u _ _ _ _ h
   .rw[A8]at h;exact wpAny_eqBool_str h
 «strs»:=λk x t v h=>by
  rcases aB h with ⟨i,u,rfl,e⟩|⟨y,u,rfl,e⟩
  .exact nomatch e
  .injection e with O _;subst O;cases v<;>rfl
def lZ(prog:Iz)(w:J5)(i:Int)(t:Tok):(am prog w).is (.inl i) (.int i t)=C:=qE i t
def l4(prog:Iz)(w:J5)(x:Str)(t:Tok):(am prog w).is (.inr x) (.str x t)=C:=qF x t
set_option genInjectivity true in
inductive V where
 |ek|bl (b:Bool)|int (i:Int)|str (x:Str)|L4 (b:Array UInt8)|QW (b:UInt64)|ref (a:J4)|ty (n:String)
 deriving DecidableEq
def Da:V->Value->Prop
 |.ek,u=>u=Kl
 |.bl b,u=>u=Qf b
 |.int i,u=>∃t,u=Tz i t
 |.str x,u=>∃t,u=TB x t
 |.L4 b,u=>∃t,u=Value.bytes b t
 |.QW b,u=>∃t,u=Value.float b t
 |.ref a,u=>u=HH a
 |.ty n,u=>u=OH n
abbrev E3:B V->B Value->Prop:=Paired Da
variable{xs:B V}{us:B Value}
def E3.length(r:E3 xs us):xs.length=us.length:=Paired.length r
theorem E3.get:∀{xs:B V}{us:B Value}{i:Nat}{x:V},E3 xs us->xs[i]?=Z x->∃u,us[i]?=Z u/\Da x u
 |_,_,_,_,.nil,e=>by simp at e
 |_,_,0,_,.cons r _,e=>by simp at e;subst e;exact⟨_,rfl,r⟩
 |_,_,i+1,x,.cons _ t,e=>by have⟨u,h1,h2⟩:=E3.get (i:=i) (x:=x) t ‹e›;exact⟨u,‹h1›,h2⟩
variable{u:Value}
theorem E3.set{x:V}(r:Da x u):∀{xs:B V}{us:B Value}(i:Nat),E3 xs us->E3 (xs.set i x) (us.set i u)
 |_,_,_,.nil=>.nil
 |_,_,0,.cons _ t=>.cons r t
 |_,_,i+1,.cons q t=>.cons q (E3.set r i t)
theorem E3.append:∀{xs ys:B V}{us ws:B Value},E3 xs us->E3 ys ws->E3 (xs++ys) (us++ws)
 |_,_,_,_,.nil,s=>s
 |_,_,_,_,.cons r t,s=>.cons r (E3.append t s)
theorem E3.take:∀{xs:B V}{us:B Value}(n:Nat),E3 xs us->E3 (xs.take n) (us.take n)
 |_,_,0,_=>.nil
 |_,_,_+1,.nil=>.nil
 |_,_,n+1,.cons r t=>.cons r (E3.take n t)
theorem E3.drop:∀{xs:B V}{us:B Value}(n:Nat),E3 xs us->E3 (xs.drop n) (us.drop n)
 |_,_,0,r=>r
 |_,_,_+1,.nil=>.nil
 |_,_,n+1,.cons _ t=>E3.drop n t
def IW:ζ V->ζ Value->Prop
 |some v,Z u=>Da v u
 |none,J=>True
 |_,_=>False
def KV{κ:Type}:B (κ×V)->B (κ×Value)->Prop:=Paired λ(p:κ×V)(q:κ×Value)=>p.1=q.1/\Da p.2 q.2
noncomputable def kV:rb->V
 |.inl i=>.int i
 |.inr x=>.str x
inductive HO where
 |e (xs:List V)
 |t (xs:List V)
 |dK (J1:List (rb×V))|dT (J1:List (List rb×V))
 |set (S:Int->Bool) (n:Nat)
 |ins (θ dx:J4) (fs:List (Str×V))
 |own (x:J4)
 |xd (fs:List (Str×V))
 |met (f x:J4)
 |Qh (lo hi:Int)
 |Iq (o:Obj) (u:HO)
 |QX (ps:Array Value)
 |code (q:Str)
 |Lh (qs:List ((Nat×Nat)×Str))
 |ext (φ:Heap->Prop)
abbrev Hp:=J4->ζ HO
noncomputable def upd(H:Hp)(a:J4)(o:HO):Hp:=λb=>if b=a then Z o else H b
variable{H:Hp}{a:J4}
def ac{o:HO}:upd H a o a=Z o:=by unfold upd;rw[if_pos rfl]
def aa{b:J4}{o:HO}(h:b≠a):upd H a o b=H b:=by unfold upd;rw[if_neg h]
def xp{b:J4}{o u:HO}(h:H a=Z o)(h':H b=Z u)(d:o≠u):a≠b:=by intro e;subst e;rw[h]at h';exact d (JU h')
def aE{b:J4}{o:HO}(h:H a=Z o)(h':H b=J):a≠b:=by intro e;subst e;rw[h]at h';cases h'
def Ku(h:Heap)(a:J4)(items:Array Value):Prop:=IsTup h a items/\∀o,h.get? a=Z o->o.dict=J
variable{items:Array Value}
def Ku.of{h:Heap}{o:Obj}{n:Nat}(e:h.get? a=Z o)(hc:o.cls=.type "tuple")(U:o.data=.seq items n)(O:o.dict=J):Ku h a items:=⟨⟨o,e,hc,n,U⟩,λu q=>by rw[e]at q;cases q;exact O⟩
def Ku.new(h:Heap)(items:Array Value):Ku (h.push {cls:=.type "tuple",data:=.seq items}) h.objs.size items:=.of (JW _ rfl) rfl rfl rfl
def Ku.kept{h h':Heap}(x:Ku h a items)(k:∀u,h.get? a=Z u->h'.get? a=Z u):Ku h' a items:=by have⟨⟨o,e,hc,n,U⟩,O⟩:=x;exact .of (k o e) hc U (O o e)
section
variable(P:Iz)(w:J5)
def Hc(H:Hp)(h:Heap)(a:J4):HO->Prop
 |.e xs=>xs.length<=G6/\∃(J3:B Value)(n:Nat),E3 xs J3/\h.get? a=Z {cls:=.type "list",data:=.seq J3.toArray n}
 |.t xs=>xs.length<=G6/\∃J3:B Value,E3 xs J3/\Ku h a J3.toArray
 |.dK J1=>J1.length<=G6/\(a==LC)=ξ/\∃vs,KV J1 vs/\h.DictOf (am P w) a vs
 | .dT J1=>J1.length<=G6/\(a==LC)=ξ/\∃xs:B (B rb×J4×Value),
     Paired (λ(p:B rb×V)(q:B rb×J4×Value)=>p.1=q.1/\H q.2.1=Z (.t (p.1.map kV))/\Da p.2 q.2.2) J1 xs∧
     ∃o es ep,h.get? a=Z o/\o.ExactDict/\o.data=.dict es ep/\es.toList=xs.map (entryOfKey (QO (am P w)))/\(xs.map (·.1)).Nodup
 |.set S n=>h.SetOf (intKind P w) a S n
 |.ins θ dx fs=>H dx=Z (.own a)/\fs.length<=1000/\dx≠a/\h.get? a=Z (xE9 θ dx)∧∃mA,h.Ns1 dx mA/\(∀f,IW (fs.lookup f) (mA f))/\PySem.Within mA (fs.map (·.1))
 |.own _=>∃o,h.get? a=Z o
 |.xd fs=>∃mA,h.Ns1 a mA/\∀f,IW (fs.lookup f) (mA f)
 |.Qh lo hi=>∃t u v,h.get? a=Z {cls:=.type "range",data:=.fields #[.int lo t,.int hi u,.int 1 v]}
 |.Iq o u=>h.get? a=Z o/\Hc H h a u
 |.QX ps=>h.get? a=Z {cls:=.none,data:=.fields ps}
 |.code q=>h.CodeRec (.ref a) q
 |.Lh O=>∃ps:Array Value,h.get? a=Z {cls:=.none,data:=.fields ps}/\TriplesOk ps.toList/\∀(pos:Pos)(q:Str)(v:Value),((pos.line,pos.col),q)∈O->codeAmong pos ps.toList=Z v->∃c o,v=.ref c/\H c=Z (.Iq o (.code q))
 |.met f x=>h.get? a=Z (xO9 (.ref f) (.ref x))
 |.ext φ=>φ h/\(∃o,h.get? a=Z o)/\∀h1 h2:Heap,φ h1->(∀o,h1.get? a=Z o->h2.get? a=Z o)->φ h2
def Jw(H:Hp)(h:Heap):Prop:=∀a o,H a=Z o->Hc P w H h a o
end
section
variable{P:Iz}{w:J5}{H H':Hp}{h h':Heap}{a:J4}{o:HO}
def Hc.lt(x:Hc P w H h a o):a<h.objs.size:=by
 cases o with
 |e xs=>have⟨_,_,_,_,e⟩:=x;exact Ii e
 |t xs=>have⟨_,_,_,p⟩:=x;exact p.1.lt
 |dK J1=>have⟨_,_,_,_,o,_,_,e,_⟩:=x;exact Ii e
 |dT J1=>have⟨_,_,_,_,o,_,_,e,_⟩:=x;exact Ii e
 |set S n=>have⟨o,_,_,_,e,_⟩:=x;exact Ii e
 |ins θ dx fs=>have⟨_,_,_,e,_⟩:=x;exact Ii e
 |own y=>have⟨_,e⟩:=x;exact Ii e
 |xd fs=>have⟨_,⟨_,_,_,e,_⟩,_⟩:=x;exact Ii e
 |Qh lo hi=>have⟨_,_,_,e⟩:=x;exact Ii e
 |Iq ob u=>have⟨e,_⟩:=x;exact Ii e
 |QX ps=>exact Ii (show h.get? a=Z _ from x)
 |code q=>have⟨c,o,vs,t,e,g,_⟩:=x;cases e;exact Ii g
 |Lh O=>have⟨ps,g,_⟩:=x;exact Ii g
 |met f y=>exact Ii (show h.get? a=Z _ from x)
 |ext φ=>have⟨_,⟨_,e⟩,_⟩:=x;exact Ii e
theorem Paired.M6{α β:Type}{F G:α->β->Prop}:∀{O:B α}{U:B β},Paired F O U->(∀a b,F a b->G a b)->Paired G O U
 |_,_,.nil,_=>.nil
 |_,_,.cons r t,f=>.cons (f _ _ r) (Paired.M6 t f)
def Hc.Kv (x:Hc P w H h a o) (k:∀ b u,(b=a\/H b=Z (.own a))->h.get? b=Z u->h'.get? b=Z u)
  (ho:∀b,H b=Z (.own a)->H' b=Z (.own a)) (ht:∀b xs,H b=Z (.t xs)->H' b=Z (.t xs)) (O:∀b ob q,H b=Z (.Iq ob (.code q))->H' b=Z (.Iq ob (.code q))):Hc P w H' h' a o:=by
 induction o with
 |e xs=>have⟨z,J3,n,r,e⟩:=x;exact⟨z,J3,n,r,k _ _ (.inl rfl) e⟩
 |t xs=>have⟨z,J3,r,t⟩:=x;exact⟨z,J3,r,t.kept λu e=>k _ _ (.inl rfl) e⟩
 |dK J1=>have⟨z,y,vs,r,ob,es,ep,e,c⟩:=x;exact⟨z,y,vs,r,ob,es,ep,k _ _ (.inl rfl) e,c⟩
 |dT J1=>have⟨z,y,xs,r,ob,es,ep,e,c⟩:=x;exact⟨z,y,xs,Paired.M6 r λp q z=>⟨z.1,ht _ _ z.2.1,z.2.2⟩,ob,es,ep,k _ _ (.inl rfl) e,c⟩
 |set S n=>have⟨ob,es,ep,t,e,c⟩:=x;exact⟨ob,es,ep,t,k _ _ (.inl rfl) e,c⟩
 |ins θ dx fs=>have⟨d,z,ne,e,mA,⟨U,es,ep,e2,c⟩,r⟩:=x;exact⟨ho _ d,z,ne,k _ _ (.inl rfl) e,mA,⟨U,es,ep,k _ _ (.inr d) e2,c⟩,r⟩
 |own y=>have⟨ob,e⟩:=x;exact⟨ob,k _ _ (.inl rfl) e⟩
 |xd fs=>have⟨mA,⟨U,es,ep,e,c⟩,r⟩:=x;exact⟨mA,⟨U,es,ep,k _ _ (.inl rfl) e,c⟩,r⟩
 |Qh lo hi=>have⟨t,u,v,e⟩:=x;exact⟨t,u,v,k _ _ (.inl rfl) e⟩
 |Iq ob u ih=>have⟨e,q⟩:=x;exact⟨k _ _ (.inl rfl) e,ih q⟩
 |QX ps=>have e:h.get? a=Z {cls:=.none,data:=.fields ps}:=x;show h'.get? a=Z {cls:=.none,data:=.fields ps};exact k a _ (.inl rfl) e
 |code q=>have⟨c,o,vs,t,e,g,r⟩:=x;cases e;exact⟨a,o,vs,t,rfl,k a _ (.inl rfl) g,r⟩
 |Lh qs=>have⟨ps,g,r1,r2⟩:=x;exact⟨ps,k a _ (.inl rfl) g,r1,λpos q v h1 h2=>let ⟨c,ob,e,g⟩:=r2 pos q v h1 h2;⟨c,ob,e,O c ob q g⟩⟩
 |met f y=>have e:h.get? a=Z (xO9 (.ref f) (.ref y)):=x;show h'.get? a=Z (xO9 (.ref f) (.ref y));exact k a _ (.inl rfl) e
 |ext φ=>have⟨p,⟨o,e⟩,st⟩:=x;exact⟨st _ _ p λo q=>k _ _ (.inl rfl) q,⟨o,k _ _ (.inl rfl) e⟩,st⟩
def Jw.lt(x:Jw P w H h)(e:H a=Z o):a<h.objs.size:=(x a o e).lt
def Jw.fresh(x:Jw P w H h)(e:h.objs.size<=a):H a=J:=by
 cases q:H a with
 |none=>rfl
 |some u=>exact absurd (KG (x.lt q) e) (Qa _)
def Jw.kept(x:Jw P w H h)(k:∀b u,h.get? b=Z u->h'.get? b=Z u):Jw P w H h':=λa o e=>(x a o e).Kv (λb u _ q=>k b u q) (λ_ q=>q) (λ_ _ q=>q) λ_ _ _ q=>q
def Jw.laid(x:Jw P w H h)(k:∀b u,h.get? b=Z u->h'.get? b=Z u)(hp:h.objs.size<=a)(new:Hc P w (upd H a o) h' a o):Jw P w (upd H a o) h':=λb u e=>by
 have O:=x.fresh hp;by_cases hb:b=a
 .subst hb;rw[ac]at e;cases e;exact new
 .rw[aa hb]at e;exact(x b u e).Kv (λc v _ q=>k c v q) (λc q=>by rw[aa (aE q O)];exact q) (λc xs q=>by rw[aa (aE q O)];exact q) λc ob xs q=>by rw[aa (aE q O)];exact q
end
def Rd(H:Hp)(a:J4)(u:HO):Prop:=H a=Z u\/∃o,H a=Z (.Iq o u)
def Rd.of{u:HO}(h:H a=Z u):Rd H a u:=.inl h
variable{P:Iz}
def Rd.ok{w:J5}{h:Heap}{u:HO}(r:Rd H a u)(x:Jw P w H h):Hc P w H h a u:=by
 rcases r with r|⟨o,r⟩
 .exact x a u r
 .have⟨_,q⟩:=x a _ r;exact q
def Sj:ζ HO->Prop
 |some (.e _)=>True
 |some (.dK _)=>True
 |some (.dT _)=>True
 |some (.set _ _)=>True
 |some (.ins _ _ _)=>True
 |some (.ext _)=>True
 |_=>False
section
variable{P:Iz}{w:J5}{H:Hp}{h h':Heap}{x e:J4}{o':HO}
def Jw.write (ok:Jw P w H h) (W:Sj (H x)) (he:e=x\/H e=Z (.own x)) (k:∀ b u,b≠e->h.get? b=Z u->h'.get? b=Z u) (Z7:∃ u,h'.get? e=Z u)
  (new:Hc P w (upd H x o') h' x o'):Jw P w (upd H x o') h':=λb u q=>by
 have U:∀c y,H c=Z (.own y)->c≠x:=λc y r z=>by subst z;rw[r]at W;exact W
 have Z8:∀c xs,H c=Z (.t xs)->c≠x:=λc xs r z=>by subst z;rw[r]at W;exact W
 have Z9:∀c ob xs,H c=Z (.Iq ob (.code xs))->c≠x:=λc ob xs r z=>by subst z;rw[r]at W;exact W
 by_cases hb:b=x
 .subst hb;rw[ac]at q;cases q;exact new
 .rw[aa hb]at q;by_cases O:b=e
  .have q':H b=Z (.own x):=by
    rcases he with z|z
    .exact absurd (O.trans z) hb
    .rw[O];exact z
   rw[q]at q';cases q'
   have⟨v,hv⟩:=Z7;exact⟨v,by rw[O];exact hv⟩
  .refine(ok b u q).Kv (λc v hc r=>k c v ?_ r) (λc r=>by rw[aa (U c b r)];exact r) (λc xs r=>by rw[aa (Z8 c xs r)];exact r) λc ob xs r=>by rw[aa (Z9 c ob xs r)];exact r
   rcases hc with rfl|hc
   .exact O
   .rintro rfl;rcases he with z|z
    .exact U c b hc z
    .rw[hc]at z;cases z;exact hb rfl
end
structure Un(fs ex:List J4)(H H':Hp)(h h':Heap):Prop where
 keep:∀b o,h.get? b=Z o->H b=J->b∉fs->b∉ex->h'.get? b=Z o
 slot:∀b o,h.get? b=Z o->H b=J->b∈fs->b∉ex->∃sl,h'.get? b=Z {o with slots:=sl}
 free:∀b o,h.get? b=Z o->H b=J->b∉ex->H' b=J
 there:∀b o,h.get? b=Z o->b∉ex->∃o',h'.get? b=Z o'
 Li:∀b xs,H b=Z (.t xs)->H' b=Z (.t xs)
 Kw:∀b o u,H b=Z (.Iq o u)->H' b=Z (.Iq o u)
 Lj:∀b ps,H b=Z (.QX ps)->∃more,H' b=Z (.QX (ps++more))
 NW:∀b qs,H b=Z (.Lh qs)->H' b=Z (.Lh qs)
section
variable{fs Sk ex WJ:B J4}{H H1 H2:Hp}{h h1 h2 h':Heap}{a x e:J4}{o:HO}
def Un.any(u:Un fs ex H H1 h h1){b:J4}{ob:Obj}(q:h.get? b=Z ob)(n:H b=J)(O:b∉ex):∃sl,h1.get? b=Z {ob with slots:=sl}:=by
 by_cases hb:b∈fs
 .exact u.slot b ob q n hb O
 .exact⟨ob.slots,u.keep b ob q n hb O⟩
def Un.kept(k:∀b u,h.get? b=Z u->h'.get? b=Z u):Un fs ex H H h h':=⟨λb ob q _ _ _=>k b ob q,λb ob q _ _ _=>⟨ob.slots,k b ob q⟩,λ_ _ _ n _=>n,λb ob q _=>⟨ob,k b ob q⟩,λ_ _ q=>q,λ_ _ _ q=>q,λ_ ps q=>⟨#[],by rw[q];simp⟩,λ_ _ q=>q⟩
def Un.refl:Un fs ex H H h h:=Un.kept λ_ _ q=>q
def Un.laid(k:∀b u,h.get? b=Z u->h'.get? b=Z u)(hp:h.objs.size<=a)(O:H a=J):Un fs ex H (upd H a o) h h' where
 keep:=λb u q _ _ _=>k b u q
 slot:=λb u q _ _ _=>⟨u.slots,k b u q⟩
 free:=λb u q n _=>by rw[aa (IS (KG (Ii q) hp))];exact n
 there:=λb u q _=>⟨u,k b u q⟩
 Li:=λb xs q=>by rw[aa (aE q O)];exact q
 Kw:=λb u xs q=>by rw[aa (aE q O)];exact q
 Lj:=λb ps q=>⟨#[],by rw[aa (aE q O),q];simp⟩
 NW:=λb U q=>by rw[aa (aE q O)];exact q
def Un.write(U:Sj (H x))(he:e=x\/H e=Z (.own x))(k:∀b u,b≠e->h.get? b=Z u->h'.get? b=Z u)(Z7:∃u,h'.get? e=Z u):Un fs ex H (upd H x o) h h':=by
 have hx:∀b,H b=J->b≠x:=λb n z=>by subst z;rw[n]at U;exact U
 have hb:∀b,H b=J->b≠e:=λb n z=>by
  subst z;rcases he with r|r
  .exact hx b n r
  .rw[n]at r;cases r
 have W:∀b u,H b=Z u->¬ Sj (Z u)->b≠x:=λb u q nm z=>by subst z;rw[q]at U;exact nm U
 refine⟨λb u q n _ _=>k b u (hb b n) q,λb u q n _ _=>⟨u.slots,k b u (hb b n) q⟩,λb u q n _=>by rw[aa (hx b n)];exact n,λb u q _=>?_,λb xs q=>by rw[aa (W b _ q λz=>z)];exact q,λb u xs q=>by rw[aa (W b _ q λz=>z)];exact q,λb ps q=>⟨#[],by rw[aa (W b _ q λz=>z),q];simp⟩,λb xs q=>by rw[aa (W b _ q λz=>z)];exact q⟩
 by_cases O:b=e
 .subst O;exact Z7
 .exact⟨u,k b u O q⟩
end
noncomputable def WK(h:Heap)(H:Hp):B J4:=(Ir h.objs.size).filter λa=>(H a).isSome
def j3(h:Heap)(H:Hp):Heap:=PySem.W.hideAll h (WK h H)
def qG(h:Heap)(H:Hp):(j3 h H).objs.size=h.objs.size:=PySem.W.hideAll_size _ _
def sM{h:Heap}{b:J4}{o:Obj}(e:h.get? b=Z o)(n:H b=J):(j3 h H).get? b=Z o:=PySem.W.hideAll_get _ e λO=>by have q:(H b).isSome=C:=(Nx.mp O).2;rw[n]at q;simp at q
def xq{h:Heap}{b:J4}{o:Obj}(e:(j3 h H).get? b=Z o):h.get? b=Z o/\H b=J:=by
 have O:h.get? b=Z o:=PySem.W.of_hideAll (WK h H) e;refine⟨O,?_⟩;cases q:H b with
 |none=>rfl
 |some x=>have U:b∈WK h H:=Nx.mpr ⟨KF.mpr (Ii O),by simp[q]⟩;have z:(j3 h H).get? b=J:=PySem.W.hideAll_none (WK h H) U;rw[z]at e;cases e
noncomputable def xt(g h:Heap)(L:J4):B (J4×Obj):=(Ir h.objs.size).filterMap λa=>if a=L\/(g.get? a).isSome=C then J else(h.get? a).map λo=>(a,o)
def HF(g h:Heap)(L d:J4):B (J4×Obj):=(xt g h L).filter λp=>decide (p.1≠d)
noncomputable def M7:B Str:=["way_to_reading","spoilt"]
noncomputable def Ef(x:Str)(ss:B J6):B ((Nat×Nat)×Str):=ss.filterMap λst=>match st with
 |.FunctionDef name _ _ _ _ _ _ _ _ pos=>Z ((pos.line,pos.col),x++".<locals>."++name)
 |_=>J
def Bb(K:xA9)(x:Str):ζ (J4×B ((Nat×Nat)×Str)):=match PySem.W.tabIn K x with
 |some (_,P)=>(match xF9 K Lf x with
  |some (Z (.ref f))=>(match K.lookup f with
   |some o=>(match o.data with
    |.func fd=>(match fd.body with
     |.stmts b=>Z (P,Ef x b)
     |_=>J)
    |_=>J)
   |none=>J)
  |_=>J)
 |none=>J
def l5(K:xA9):B (J4×B ((Nat×Nat)×Str)):=M7.filterMap (Bb K)
structure Mod(K:xA9)(mg:Str->Option Value)(base:Heap):Prop where
 Sn:K.In base
 glob:base.Ns Lf mg
 blt:∃mb,base.Ns Wy mb/\∀x:Str,x≠"__name__"->mb x=LZ x
 nolimit:base.NoLimit
structure Cx where
 prog:Iz
 w:J5
 K:xA9
 mg:Str->Option Value
 base:Heap
 A:Jo
 N:List Str
 s₀:pv
 Lk:Hp
 env:Env
 outer:List Env
 stack:List Env
 ex:List J4
 fn:Str->Bool
 calm:Bool
 pn:List (J4×Obj)
 xe:Value->pv->Prop
noncomputable def ND(l:B Env):B J4:=l.filterMap (·.frame)
abbrev Cx.fs(X:Cx):B J4:=ND X.outer
def Vis(sc:J9)(x:Str):Prop:=sc.names.lookup x=Z .local\/sc.names.lookup x=Z .cell\/sc.names.lookup x=Z .free
def So(sc:J9)(x:Str):Prop:=sc.names.lookup x=Z .local\/sc.names.lookup x=Z .cell
def Look(env:Env)(h:Heap)(m:Str->ζ Value)(x:Str)(u:Value):Prop:=(env.kindOf x=Z .local/\m x=Z u)\/((env.kindOf x=Z .cell\/env.kindOf x=Z .free)/\∃c,env.cells.lookup x=Z c/\h.IsCell c (Z u))
structure Cx.Ok(X:Cx):Prop where
 mod:Mod X.K X.mg X.base
 kind:X.env.scope.kind=.function
 glob:X.env.globals=Lf
 blt:X.env.builtins=Wy
 above:X.s₀.heap.objs.size<=X.env.locals
 inj:∀x y c,X.env.cells.lookup x=Z c->X.env.cells.lookup y=Z c->x=y
 has:∀x,(X.env.kindOf x=Z .cell\/X.env.kindOf x=Z .free)->∃c,X.env.cells.lookup x=Z c
 TQ:∀x c,X.fn x=C->X.env.cells.lookup x=Z c->X.s₀.heap.objs.size<=c
 hd:X.calm=C->X.A.handled=J
 frames:X.A.frames=Z X.stack
 WL:X.stack=X.outer\/(X.stack=X.env::X.outer/\X.env.frame=Z X.env.locals)
 exf:∀b∈X.ex,b≠X.env.locals/\∀x c,X.env.cells.lookup x=Z c->c≠b
 bs:∀b o,X.base.get? b=Z o->X.s₀.heap.get? b=Z o/\X.Lk b=J
 OJ:X.base.objs.size<=X.s₀.heap.objs.size
 NX:∀b o,X.base.get? b=Z o->b∉X.ex
 Pi:∀b∈X.ex,b∉X.fs
 JX:X.s₀.heap.FunFrames X.base X.outer
 QY:∀b∈X.fs,X.Lk b=J
 tb:∀p∈l5 X.K,X.Lk p.1=Z (.Lh p.2)
structure b7(X:Cx)(J0:List (J4×Obj))(Y:List (Option V))(H:Hp)(s:pv):Prop where
 ok:X.Ok
 os:s.os=X.s₀.os
 bare:Pd s.gens
 base:Un X.fs X.ex X.Lk H X.s₀.heap s.heap
 loc:∃m,s.heap.Ns X.env.locals m/\∀(i:Nat)(x:Str)(v:V),X.N[i]?=Z x->Y[i]?=Z (Z v)->Vis X.env.scope x->∃u,Da v u/\Look X.env s.heap m x u
 cell:∀x c,X.env.cells.lookup x=Z c->∃v,s.heap.IsCell c v
 free:H X.env.locals=J
 IG:∀x c,X.env.cells.lookup x=Z c->H c=J
 pin:∀p∈X.pn++J0,s.heap.get? p.1=Z p.2/\H p.1=J/\p.1≠X.env.locals/\p.1∉X.fs/\∀v,p.2.data≠.cell v
 Hb:Jw X.prog X.w H s.heap
 len:Y.length=X.N.length
variable{g':Array GenState}{t' j:Nat}{d':Drawn}{ch:B J4}{N:B Str}{ρ:Model}{A:Jo}{s':pv}
section
variable{X:Cx}{J0:B (J4×Obj)}{Y:B (ζ V)}{H H':Hp}{s:pv}{h':Heap}
def Cx.Ok.nofr(ok:X.Ok){b:J4}{o:Obj}(e:X.base.get? b=Z o):b∉X.fs:=λhb=>by have:=(ok.JX.mem hb).1;rw[e]at this;cases this
def b7.bs(I:b7 X J0 Y H s):∀b o,X.base.get? b=Z o->s.heap.get? b=Z o/\H b=J:=λb o e=>⟨I.base.keep b o (I.ok.bs b o e).1 (I.ok.bs b o e).2 (I.ok.nofr e) (I.ok.NX b o e),I.base.free b o (I.ok.bs b o e).1 (I.ok.bs b o e).2 (I.ok.NX b o e)⟩
def b7.bk(I:b7 X J0 Y H s):∀b o,X.base.get? b=Z o->s.heap.get? b=Z o:=λb o e=>(I.bs b o e).1
def b7.mod(I:b7 X J0 Y H s):Mod X.K X.mg X.base:=I.ok.mod
def b7.Js(I:b7 X J0 Y H s):X.K.In s.heap:=I.ok.mod.Sn.keeps I.bk
def b7.fr(I:b7 X J0 Y H s):∃m,Fr X.base X.env.locals s.heap m:=
 let ⟨m,hn,_⟩:=I.loc
 ⟨m,hn,I.bk,JS I.ok.OJ I.ok.above⟩
def b7.lt(I:b7 X J0 Y H s):X.env.locals<s.heap.objs.size:=let ⟨_,hn,_⟩:=I.loc;hn.lt
def b7.sz(I:b7 X J0 Y H s):X.s₀.heap.objs.size<=s.heap.objs.size:=JS I.ok.above (QJ I.lt)
def b7.nofs(I:b7 X J0 Y H s)(h:s.heap.objs.size<=a):a∉X.fs:=λhb=>by have⟨_,o,O,_⟩:=I.ok.JX.mem hb;exact absurd (KG (Ii O) (JS I.sz h)) (Qa _)
def b7.QZ(I:b7 X J0 Y H s):∀x c,X.env.cells.lookup x=Z c->c≠X.env.locals:=λx c e z=>by have⟨v,o,W,hd⟩:=I.cell x c e;have⟨m,⟨o',es,ep,U,O,_⟩,_⟩:=I.loc;rw[z,U]at W;cases W;rw[O]at hd;cases hd
def b7.JX(I:b7 X J0 Y H s):s.heap.FunFrames X.base X.outer:=by
 have all:∀(l:B Env),(∀b∈ND l,b∈X.fs)->X.s₀.heap.FunFrames X.base l->s.heap.FunFrames X.base l:=by
  intro l;induction l with
  |nil=>intro _ _;trivial
  |cons env r ih=>
   intro W hl;have⟨hk,⟨L,o,U,hn,ho,hd⟩,hr⟩:=hl;have O:L∈X.fs:=W L (by unfold ND;rw[V3,U];exact QE);have⟨sl,e⟩:=I.base.slot L o ho (I.ok.QY L O) O λz=>I.ok.Pi L z O
   exact⟨hk,⟨L,_,U,hn,e,hd⟩,ih (λb hb=>W b (by unfold ND;rw[V3,U];exact Oz _ hb)) hr⟩
 exact all X.outer (λ_ hb=>hb) I.ok.JX
def b7.stack(I:b7 X J0 Y H s):s.heap.FunFrames X.base X.stack:=by
 rcases I.ok.WL with e|⟨e,O⟩
 .rw[e];exact I.JX
 .rw[e];have⟨m,U,_⟩:=I.loc;refine .cons (by rw[I.ok.kind];decide) O U ?_ I.JX;exact Heap.get?_none_of_le (JS I.ok.OJ I.ok.above)
def b7.Ll(I:b7 X J0 Y H s):∀b∈ND X.stack,b∈X.env.locals::X.fs:=λb hb=>by
 rcases I.ok.WL with e|⟨e,O⟩
 .rw[e]at hb;exact Oz _ hb
 .rw[e]at hb;unfold ND at hb;rw[V3,O]at hb;exact hb
def b7.MS(I:b7 X J0 Y H s):∀b∈ND X.stack,H b=J:=λb hb=>by
 rcases IE.mp (I.Ll b hb)with e|hb
 .rw[e];exact I.free
 .have⟨_,o,O,_⟩:=I.ok.JX.mem hb;exact I.base.free b o O (I.ok.QY b hb) λz=>I.ok.Pi b z hb
def b7.step(I:b7 X J0 Y H s)
 (TR:∀b∈ch,(b∈X.ex\/X.s₀.heap.objs.size<=b)/\b≠X.env.locals/\(∀x c,X.env.cells.lookup x=Z c->c≠b)/\∀p∈X.pn++J0,p.1≠b)
 (keep:∀b o,b≠X.env.locals->b∉X.fs->b∉ch->s.heap.get? b=Z o->H b=J->h'.get? b=Z o)
 (slot:∀b o,b≠X.env.locals->b∈X.fs->b∉ch->s.heap.get? b=Z o->H b=J->∃sl,h'.get? b=Z {o with slots:=sl}) (free:∀b o,b∉ch->s.heap.get? b=Z o->H b=J->H' b=J)
 (there:∀b o,b∉ch->s.heap.get? b=Z o->∃o',h'.get? b=Z o')
 (Li:∀b xs,H b=Z (.t xs)->H' b=Z (.t xs)) (Kw:∀b o u,H b=Z (.Iq o u)->H' b=Z (.Iq o u)) (Lj:∀b ps,H b=Z (.QX ps)->∃more,H' b=Z (.QX (ps++more))) (NW:∀b qs,H b=Z (.Lh qs)->H' b=Z (.Lh qs))
 (ns:∀m,s.heap.Ns X.env.locals m->h'.Ns X.env.locals m) (Hb:Jw X.prog X.w H' h') (hg:Pd g') :
  b7 X J0 Y H' {s with heap:=h',gens:=g',drawn:=d',toks:=t'}:=by
 have neL:∀b o,X.s₀.heap.get? b=Z o->b≠X.env.locals:=λb o e=>IS (KG (Ii e) I.ok.above)
 have WM:∀b o,X.s₀.heap.get? b=Z o->b∉X.ex->b∉ch:=λb o e O hb=>by
  rcases(TR b hb).1 with z|z
  .exact O z
  .exact absurd (KG (Ii e) z) (Qa _)
 have W:∀x c,X.env.cells.lookup x=Z c->∀v,s.heap.IsCell c v->h'.IsCell c v:=λx c e v Km=>by
  have⟨o,ho,hd⟩:=Km;have U:c∉ch:=λz=>(TR c z).2.2.1 x c e rfl
  by_cases hc:c∈X.fs
  .have⟨sl,q⟩:=slot c o (I.QZ x c e) hc U ho (I.IG x c e);exact⟨_,q,hd⟩
  .exact⟨o,keep c o (I.QZ x c e) hc U ho (I.IG x c e),hd⟩
 refine⟨I.ok,I.os,hg,⟨λb o e n hb O=>?_,λb o e n hb O=>?_,λb o e n O=>?_,λb o e O=>?_,λb xs e=>Li b xs (I.base.Li b xs e),λb o xs e=>Kw b o xs (I.base.Kw b o xs e),λb ps e=>?_,λb qs e=>NW b qs (I.base.NW b qs e)⟩,?_,λx c e=>?_,?_,λx c e=>?_,λp hp=>?_,Hb,I.len⟩
 .exact keep b o (neL b o e) hb (WM b o e O) (I.base.keep b o e n hb O) (I.base.free b o e n O)
 .have⟨sl,e1⟩:=I.base.slot b o e n hb O;have⟨sl',e2⟩:=slot b _ (neL b o e) hb (WM b o e O) e1 (I.base.free b o e n O);exact⟨sl',e2⟩
 .have⟨o',e1⟩:=I.base.there b o e O;exact free b o' (WM b o e O) e1 (I.base.free b o e n O)
 .have⟨o',e1⟩:=I.base.there b o e O;exact there b o' (WM b o e O) e1
 .have⟨m1,e1⟩:=I.base.Lj b ps e;have⟨m2,e2⟩:=Lj b _ e1;exact⟨m1++m2,by rw[e2,Array.append_assoc]⟩
 .have⟨m,hn,hl⟩:=I.loc;refine⟨m,ns m hn,λi x v e1 e2 e3=>?_⟩;have⟨u,r,l⟩:=hl i x v e1 e2 e3;refine⟨u,r,?_⟩;rcases l with l|⟨k,c,e,z⟩
  .exact .inl l
  .exact .inr ⟨k,c,e,W x c e _ z⟩
 .have⟨v,z⟩:=I.cell x c e;exact⟨v,W x c e v z⟩
 .have⟨m,⟨o,_,_,ho,_⟩,_⟩:=I.loc;exact free _ o (λz=>(TR _ z).2.1 rfl) ho I.free
 .have⟨v,o,ho,hd⟩:=I.cell x c e;exact free c o (λz=>(TR c z).2.2.1 x c e rfl) ho (I.IG x c e)
 .have⟨e,n,ne,nf,d⟩:=I.pin p hp;have U:p.1∉ch:=λz=>(TR p.1 z).2.2.2 p hp rfl
  exact⟨keep p.1 p.2 ne nf U e n,free p.1 p.2 U e n,ne,nf,d⟩
def b7.un(I:b7 X J0 Y H s)(u:Un X.fs [] H H' s.heap h')(U:Jw X.prog X.w H' h'):b7 X J0 Y H' {s with heap:=h',toks:=t'}:=by
 have⟨m,⟨o,es,ep,ho,r⟩,_⟩:=id I.loc;have⟨sl,hL⟩:=u.any ho I.free Ξ
 exact I.step (g':=s.gens) (d':=s.drawn) (ch:=[]) (λ_ z=>nomatch z) (λb o _ hb _ e n=>u.keep b o e n hb Ξ) (λb o _ hb _ e n=>u.slot b o e n hb Ξ) (λb o _ e n=>u.free b o e n Ξ) (λb o _ e=>u.there b o e Ξ) u.Li u.Kw u.Lj u.NW (λm' hm=>by
  have⟨o',W,ep',O,r'⟩:=hm;rw[ho]at O;cases O
  exact⟨_,W,ep',hL,r'⟩) U I.bare
def b7.call{ch:B J4}(I:b7 X J0 Y H s)(u:Un (ND X.stack) ch H H' s.heap h')(Hb:Jw X.prog X.w H' h')(hg:Pd g')
 (U:∀b∈ch,(b∈X.ex\/X.s₀.heap.objs.size<=b)/\b≠X.env.locals/\(∀x c,X.env.cells.lookup x=Z c->c≠b)/\∀p∈X.pn++J0,p.1≠b) :
  b7 X J0 Y H' {s with heap:=h',gens:=g',drawn:=d',toks:=t'}:=by
 have⟨m,⟨o,es,ep,ho,r⟩,_⟩:=id I.loc;have⟨sl,W⟩:=u.any ho I.free λz=>(U _ z).2.1 rfl
 exact I.step (ch:=ch) U (λb o W hb hc e n=>u.keep b o e n (λz=>(IE.mp (I.Ll b z)).elim W hb) hc) (λb o _ _ hc e n=>u.any e n hc) (λb o hc e n=>u.free b o e n hc) (λb o hc e=>u.there b o e hc) u.Li u.Kw u.Lj u.NW (λm' hm=>by
  have⟨o',es',ep',O,r'⟩:=hm;rw[ho]at O;cases O
  exact⟨_,es',ep',W,r'⟩) Hb hg
def b7.turned{it:J4}(I:b7 X J0 Y H s)(k:∀b o,b≠it->s.heap.get? b=Z o->h'.get? b=Z o)(hn:H it=J)(U:it≠X.env.locals)
 (h1:it∈X.ex\/X.s₀.heap.objs.size<=it) (h2:∀x c,X.env.cells.lookup x=Z c->c≠it) (h3:∀p∈X.pn++J0,p.1≠it):b7 X J0 Y H {s with heap:=h',toks:=t'}:=by
 have O:∀b u,H b=Z u->b≠it:=λb u e z=>by rw[z,hn]at e;cases e
 refine I.step (g':=s.gens) (d':=s.drawn) (ch:=[it]) (λb hb=>?_) (λb o _ _ hc e _=>k b o (λz=>hc (by simp[z])) e) (λb o _ _ hc e _=>⟨o.slots,k b o (λz=>hc (by simp[z])) e⟩) (λ_ _ _ _ n=>n)
  (λb o hc e=>⟨o,k b o (λz=>hc (by simp[z])) e⟩) (λ_ _ e=>e) (λ_ _ _ e=>e) (λb ps e=>⟨#[],by rw[e];simp⟩) (λ_ _ e=>e) (λm hm=>?_) (λb u e=>?_) I.bare
 .have e:b=it:=‹hb›
  subst e;exact⟨h1,U,h2,h3⟩
 .have⟨o,es,ep,W,r⟩:=hm;exact⟨o,es,ep,k _ o (JQ U) W,r⟩
 .refine(I.Hb b u e).Kv (λc v hc q=>k c v ?_ q) (λ_ q=>q) (λ_ _ q=>q) λ_ _ _ q=>q
  rcases hc with z|z
  .rw[z];exact O b u e
  .exact O c _ z
def b7.tok(I:b7 X J0 Y H s)(t:Nat):b7 X J0 Y H {s with toks:=t}:=I.un (h':=s.heap) (t':=t) Un.refl I.Hb
def b7.kept(I:b7 X J0 Y H s)(k:∀b u,s.heap.get? b=Z u->h'.get? b=Z u):b7 X J0 Y H {s with heap:=h',toks:=t'}:=I.un (Un.kept k) (I.Hb.kept k)
def b7.laid {o:HO} (I:b7 X J0 Y H s) (k:∀ b u,s.heap.get? b=Z u->h'.get? b=Z u) (hp:s.heap.objs.size<=a) (new:Hc X.prog X.w (upd H a o) h' a o) :
  b7 X J0 Y (upd H a o) {s with heap:=h',toks:=t'}:=I.un (Un.laid k hp (I.Hb.fresh hp)) (I.Hb.laid k hp new)
def b7.write{x e:J4}{o:HO}(I:b7 X J0 Y H s)(U:Sj (H x))(W:e=x\/H e=Z (.own x))(k:∀b u,b≠e->s.heap.get? b=Z u->h'.get? b=Z u)(O:∃u,h'.get? e=Z u)(new:Hc X.prog X.w (upd H x o) h' x o):b7 X J0 Y (upd H x o) {s with heap:=h',toks:=t'}:=I.un (Un.write U W k O) (I.Hb.write U W k O new)
def b7.weak{O:B (ζ V)}(I:b7 X J0 Y H s)(hl:O.length=Y.length)(w:∀(i:Nat) v,O[i]?=Z (Z v)->Y[i]?=Z (Z v)):b7 X J0 O H s:=⟨I.ok,I.os,I.bare,I.base,let ⟨m,hn,hl'⟩:=I.loc;⟨m,hn,λi x v U e2 W=>hl' i x v U (w i v e2) W⟩,I.cell,I.free,I.IG,I.pin,I.Hb,hl.trans I.len⟩
def b7.MT{O:B (J4×Obj)}(I:b7 X J0 Y H s)(h:∀p∈O,s.heap.get? p.1=Z p.2/\H p.1=J/\p.1≠X.env.locals/\p.1∉X.fs/\∀v,p.2.data≠.cell v):b7 X O Y H s:=⟨I.ok,I.os,I.bare,I.base,I.loc,I.cell,I.free,I.IG,λp hp=>(JC.mp hp).elim (λz=>I.pin p (List.mem_append_left _ z)) (h p),I.Hb,I.len⟩
def gZ(U:N.Nodup){i:Nat}{x:Str}(a:N[i]?=Z x)(b:N[j]?=Z x):i=j:=by have⟨h1,O⟩:=gX a;have⟨h2,e2⟩:=gX b;exact(List.getElem_inj U).mp (O.trans e2.symm)
def jh{E:Value->pv->Prop}{i:Nat}{x:Str}{v:V}{Q:Unit->pv->Prop}(I:b7 X J0 Y H s)(hN:X.N.Nodup)(hi:X.N[i]?=Z x)(hx:So X.env.scope x)(r:Da v u)
 (h:∀s',b7 X J0 (Y.set i (Z v)) H s'->(∃a,L3 a s.heap s'.heap/\(a=X.env.locals\/X.env.cells.lookup x=Z a))->Q () s') (hf:X.fn x=C\/X.env.scope.names.lookup x=Z .local:=by first|exact .inl rfl|exact .inr rfl|assumption):wpAny ρ A (storeName X.env x u) Q E s:=by
 have⟨m,hn,hl⟩:=id I.loc;have hcls:(X.env.scope.kind==.class||(X.env.scope.kind==.module&&X.env.locals != X.env.globals))=ξ:=by rw[I.ok.kind];rfl
 have TU:i<Y.length:=by rw[I.len];exact(gX hi).1
 have QZ:=I.QZ
 have W:∀{a:J4}{h':Heap},(∃o,s.heap.get? a=Z o/\H a=J)->L3 a s.heap h'->Jw X.prog X.w H h':=λ{a h'} ha O b ob e=>by
  have⟨_,_,Qi⟩:=ha;refine(I.Hb b ob e).Kv (λc w' hc q=>(O.2 c ?_).trans q) (λ_ q=>q) (λ_ _ q=>q) λ_ _ _ q=>q
  rintro rfl;rcases hc with rfl|hc
  .rw[Qi]at e;cases e
  .rw[Qi]at hc;cases hc
 rcases hx with hk|hk
 .refine wpAny_storeName_local hk hn (λh' hn' O=>?_) hcls;have⟨oL,_,_,hoL,_⟩:=id hn;refine h _ ⟨I.ok,I.os,I.bare,⟨λb o e n hb hx=>?_,λb o e n hb hx=>?_,I.base.free,λb o e hx=>?_,I.base.Li,I.base.Kw,I.base.Lj,I.base.NW⟩,⟨_,hn',λj y v' U e2 e3=>?_⟩,λy c e=>?_,I.free,I.IG,λp hp=>?_,W ⟨oL,hoL,I.free⟩ O,‹I.len›⟩ ⟨_,O,.inl rfl⟩
  .exact(O.2 b (IS (KG (Ii e) I.ok.above))).trans (I.base.keep b o e n hb hx)
  .have⟨sl,U⟩:=I.base.slot b o e n hb hx;exact⟨sl,(O.2 b (IS (KG (Ii e) I.ok.above))).trans U⟩
  .have⟨o',U⟩:=I.base.there b o e hx;exact⟨o',(O.2 b (IS (KG (Ii e) I.ok.above))).trans U⟩
  .by_cases hj:j=i
   .subst hj;rw[hi]at U;cases U
    rw[Mh TU]at e2;cases e2;exact⟨u,r,.inl ⟨hk,Ξ⟩⟩
   .rw[gN (JQ hj)]at e2;have⟨u',r',q⟩:=hl j y v' U e2 e3;refine⟨u',r',?_⟩;rcases q with ⟨k,e⟩|⟨k,c,e,z⟩
    .refine .inl ⟨k,?_⟩;have:y≠x:=λe=>hj (gZ hN U (e▸hi))
     simp[this,e]
    .exact .inr ⟨k,c,e,z.sameBut O (QZ y c e)⟩
  .have⟨w',z⟩:=I.cell y c e;exact⟨w',z.sameBut O (QZ y c e)⟩
  .have⟨e,n,ne,nf,d⟩:=I.pin p hp;exact⟨(O.2 p.1 ne).trans e,n,ne,nf,d⟩
 .have hfn:X.fn x=C:=by
   rcases hf with z|z
   .exact z
   .rw[z]at hk;cases hk
  have⟨c,hc⟩:=I.ok.has x (.inl hk);have⟨w',z⟩:=I.cell x c hc;refine wpAny_storeName_cell I.ok.kind hk hc z (λh' WN O=>?_);have⟨oc,hoc,hocd⟩:=id z;refine h {s with heap:=h'} ⟨I.ok,I.os,I.bare,⟨λb o e n hb hx=>?_,λb o e n hb hx=>?_,I.base.free,λb o e hx=>?_,I.base.Li,I.base.Kw,I.base.Lj,I.base.NW⟩,⟨m,hn.sameBut O (JQ (QZ x c hc)),λj y v' U e2 e3=>?_⟩,λy c' e=>?_,I.free,I.IG,λp hp=>?_,W ⟨oc,hoc,I.IG x c hc⟩ O,‹I.len›⟩ ⟨c,O,.inr hc⟩
  .exact(O.2 b (IS (KG (Ii e) (I.ok.TQ x c hfn hc)))).trans (I.base.keep b o e n hb hx)
  .have⟨sl,U⟩:=I.base.slot b o e n hb hx;exact⟨sl,(O.2 b (IS (KG (Ii e) (I.ok.TQ x c hfn hc)))).trans U⟩
  .have⟨o',U⟩:=I.base.there b o e hx;exact⟨o',(O.2 b (IS (KG (Ii e) (I.ok.TQ x c hfn hc)))).trans U⟩
  .by_cases hj:j=i
   .subst hj;rw[hi]at U;cases U
    rw[Mh TU]at e2;cases e2;exact⟨u,r,.inr ⟨.inl hk,c,hc,WN⟩⟩
   .rw[gN (JQ hj)]at e2;have⟨u',r',q⟩:=hl j y v' U e2 e3;refine⟨u',r',?_⟩;rcases q with q|⟨k,c',e,z'⟩
    .exact .inl q
    .refine .inr ⟨k,c',e,z'.sameBut O ?_⟩;rintro rfl;exact hj (gZ hN U (I.ok.inj _ _ _ e hc▸hi))
  .by_cases Qj:c'=c
   .subst Qj;exact⟨_,WN⟩
   .have⟨w2,z2⟩:=I.cell y c' e;exact⟨w2,z2.sameBut O Qj⟩
  .have⟨e,n,ne,nf,d⟩:=I.pin p hp;refine⟨(O.2 p.1 ?_).trans e,n,ne,nf,d⟩;intro q;rw[q,hoc]at e;have q':oc=p.2:=JU e;exact d w' (by rw[<- q'];exact hocd)
def g6{E:Value->pv->Prop}{i:Nat}{x:Str}{v:V}{Q:Unit->pv->Prop}(I:b7 X J0 Y H s)(W:X.N.Nodup)(hi:X.N[i]?=Z x)(U:So X.env.scope x)(r:Da v u)
 (h:∀s',b7 X J0 (Y.set i (Z v)) H s'->Q () s') (hf:X.fn x=C\/X.env.scope.names.lookup x=Z .local:=by first|exact .inl rfl|exact .inr rfl|assumption):wpAny ρ A (storeName X.env x u) Q E s:=
 jh I W hi U r (λs' O _=>h s' O) hf
def b7.Qk(I:b7 X J0 Y H s)(W:s'.os=s.os)(u:Un (ND X.stack) ch H H' s.heap s'.heap)(U:Jw X.prog X.w H' s'.heap)(hg:Pd s'.gens)
 (O:∀b∈ch,(b∈X.ex\/X.s₀.heap.objs.size<=b)/\b≠X.env.locals/\(∀x c,X.env.cells.lookup x=Z c->c≠b)/\∀p∈X.pn++J0,p.1≠b):b7 X J0 Y H' s':=by
 have⟨h',g',d',t',o'⟩:=s';have e:o'=s.os:=W;subst e;exact I.call (g':=g') (t':=t') (d':=d') u U hg O
end
abbrev XK:=Value->ζ J4->Hp->Prop
abbrev St:=B (ζ V)
abbrev VK:=V->Hp->Prop
abbrev TE:=St->Hp->VK->Prop
abbrev TT:=St->Hp->(Bool->Hp->Prop)->Prop
abbrev TA:=St->Hp->(B V->Hp->Prop)->Prop
structure Kx where
 nx:St->Hp->Prop
 rt:VK
 bk:St->Hp->Prop:=λ_ _=>False
 ct:St->Hp->Prop:=λ_ _=>False
abbrev TS:=Kx->St->Hp->Prop
def EP(X:Cx)(J0:B (J4×Obj))(Y:St)(Q:VK)(u:Value)(s':pv):Prop:=∃v H',b7 X J0 Y H' s'/\Da v u/\Q v H'
def TP(X:Cx)(J0:B (J4×Obj))(Y:St)(Q:Bool->Hp->Prop)(b:Bool)(s':pv):Prop:=∃H',b7 X J0 Y H' s'/\Q b H'
def AP(X:Cx)(J0:B (J4×Obj))(Y:St)(Q:B V->Hp->Prop)(us:B Value)(s':pv):Prop:=∃vs H',b7 X J0 Y H' s'/\E3 vs us/\Q vs H'
omit x in
def SP(X:Cx)(J0:B (J4×Obj))(δ:Kx)(f:Flow)(s':pv):Prop:=
 match f with
 |.next=>∃O H',b7 X J0 O H' s'/\δ.nx O H'
 |.brk=>∃O H',b7 X J0 O H' s'/\δ.bk O H'
 |.cont=>∃O H',b7 X J0 O H' s'/\δ.ct O H'
 |.ret u=>∃v O H',b7 X J0 O H' s'/\Da v u/\δ.rt v H'
def PE(X:Cx)(e:J8)(t:TE):Prop:=∀(J0:B (J4×Obj))(s:pv)(Y:St)(H:Hp)(Q:VK),b7 X J0 Y H s->t Y H Q->wpAny (model X.prog X.w) X.A (eval e X.env) (EP X J0 Y Q) X.xe s
def PT(X:Cx)(e:J8)(t:TT):Prop:=∀(J0:B (J4×Obj))(s:pv)(Y:St)(H:Hp)(Q:Bool->Hp->Prop),b7 X J0 Y H s->t Y H Q->wpAny (model X.prog X.w) X.A (isTrue e X.env (eval e X.env)) (TP X J0 Y Q) X.xe s
def PW(X:Cx)(e:J8)(t:TT):Prop:=∀(O:Sem Value)(J0:B (J4×Obj))(s:pv)(Y:St)(H:Hp)(Q:Bool->Hp->Prop),b7 X J0 Y H s->t Y H Q->wpAny (model X.prog X.w) X.A (isTrue e X.env O) (TP X J0 Y Q) X.xe s
variable{X:Cx}{e:J8}
def PW.pt{t:TT}(h:PW X e t):PT X e t:=h _
def Ij(X:Cx)(es:B J8)(t:TA):Prop:=∀(pos:Pos)(J0:B (J4×Obj))(s:pv)(Y:St)(H:Hp)(Q:B V->Hp->Prop),b7 X J0 Y H s->t Y H Q->wpAny (model X.prog X.w) X.A (spliced (IK pos (Hn es X.env))) (AP X J0 Y Q) X.xe s
def PS(X:Cx)(st:J6)(t:TS):Prop:=∀(J0:B (J4×Obj))(s:pv)(Y:St)(H:Hp)(δ:Kx),b7 X J0 Y H s->t δ Y H->wpAny (model X.prog X.w) X.A (exec st X.env) (SP X J0 δ) X.xe s
def LK(X:Cx)(st:B J6)(t:TS):Prop:=∀(J0:B (J4×Obj))(s:pv)(Y:St)(H:Hp)(δ:Kx),b7 X J0 Y H s->t δ Y H->wpAny (model X.prog X.w) X.A (execs st X.env) (SP X J0 δ) X.xe s
def Hw{α:Type}{t:Sem α}{Q Q':α->pv->Prop}{E:Value->pv->Prop}{s:pv}(h:wpAny ρ A t Q E s)(O:∀a s,Q a s->Q' a s):wpAny ρ A t Q' E s:=NR h O λ_ _ x=>x
variable{pos:Pos}{J0:B (J4×Obj)}{Y:St}{Q:Value->pv->Prop}
section
variable{X:Cx}
def qH(i:Nat):TE:=λY H Q=>∃v,Y[i]?=Z (Z v)/\Q v H
def tC(v:V):TE:=λ_ H Q=>Q v H
def Bc{i:Nat}{x:Str}(hN:X.N[i]?=Z x)(hv:Vis X.env.scope x)(hd:(x==("__debug__":Str))=ξ:=by decide)(W:(x==("__classdict__":Str))=ξ:=by decide):PE X (.Name x pos) (qH i):=by
 intro J0 s Y H Q I h;have⟨v,e,h⟩:=h;have⟨m,hn,hl⟩:=I.loc;have⟨u,r,l⟩:=hl i x v hN e hv;have fin:EP X J0 Y Q u s:=⟨v,H,I,r,h⟩;rcases l with ⟨U,hm⟩|⟨U,c,hc,O⟩
 .exact wpAny_Name (wpAny_loadName_local I.ok.kind U hn hm fin) hd
 .rcases U with U|U
  .exact wpAny_Name (wpAny_loadName_cell I.ok.kind U hc O fin) hd
  .exact wpAny_Name (wpAny_loadName_free I.ok.kind U hc O fin W) hd
def Be{i j pos}:PE X (.Constant (.int i) j pos) (tC (.int i)):=λ_ _ _ H _ I h=>wpAny_Constant_int ⟨.int i,H,I.tok _,⟨_,rfl⟩,h⟩
def Eg{b j pos}:PE X (.Constant (.bool b) j pos) (tC (.bl b)):=λ_ _ _ H _ I h=>Constant_bool ⟨.bl b,H,I,rfl,h⟩
def Bg{j pos}:PE X (.Constant .none j pos) (tC .ek):=λ_ _ _ H _ I h=>Constant_none ⟨.ek,H,I,rfl,h⟩
def Bh{x j pos}:PE X (.Constant (.str x) j pos) (tC (.str x)):=λ_ _ _ H _ I h=>Calls.Constant_str ⟨.str x,H,I.tok _,⟨_,rfl⟩,h⟩
def Gl(X:Cx)(x:Str):Prop:=X.env.kindOf x=Z .globalImplicit
def el{E:Value->pv->Prop}{s:pv}{x:Str}(I:b7 X J0 Y H s)(W:Gl X x)(O:X.mg x=Z u)(h:Q u s)
 (U:(x==("__debug__":Str))=ξ:=by decide):wpAny (model X.prog X.w) X.A (eval (.Name x pos) X.env) Q E s:=
 qw8 I.ok.kind W (Calls.loadGlobal_global (by rw[I.ok.glob];exact I.mod.glob.keeps I.bk) O h) U
def g7{E:Value->pv->Prop}{s:pv}{x:Str}(I:b7 X J0 Y H s)(O:Gl X x)(W:X.mg x=J)(hv:LZ x=Z u)(h:Q u s)
 (U:x≠"__name__":=by decide) (hd:(x==("__debug__":Str))=ξ:=by decide):wpAny (model X.prog X.w) X.A (eval (.Name x pos) X.env) Q E s:=by
 have⟨mb,h1,h2⟩:=I.mod.blt;exact qw8 I.ok.kind O (Calls.loadGlobal_builtin (by rw[I.ok.glob];exact I.mod.glob.keeps I.bk) W (by rw[I.ok.blt];exact h1.keeps I.bk) ((h2 x U).trans hv) h) hd
def xu{x:Str}{v:V}(W:Gl X x)(O:X.mg x=Z u)(r:Da v u)(U:(x==("__debug__":Str))=ξ:=by decide):PE X (.Name x pos) (tC v):=λ_ _ _ H _ I h=>el I W O ⟨v,H,I,r,h⟩ U
def xw{x:Str}{v:V}(W:Gl X x)(U:X.mg x=J)(hv:LZ x=Z u)(r:Da v u)(O:x≠"__name__":=by decide)(hd:(x==("__debug__":Str))=ξ:=by decide):PE X (.Name x pos) (tC v):=λ_ _ _ H _ I h=>g7 I W U hv ⟨v,H,I,r,h⟩ O hd
variable{a b:J8}{ta tb:TE}{pos:Pos}
variable{tA WO:TT}{HF:B J8}
def TV(t u:TT):TT:=λY H Q=>t Y H λc H1=>if c=C then u Y H1 Q else Q ξ H1
def tOr(t u:TT):TT:=λY H Q=>t Y H λc H1=>if c=C then Q C H1 else u Y H1 Q
def tNot(t:TT):TT:=λY H Q=>t Y H λc H1=>Q (!c) H1
def xx(O:PT X a tA):PW X (.BoolOp .And [a] pos) tA:=by
 intro U J0 s Y H Q I h;refine isTrue_and (Hw (O J0 s Y H Q I h) λc s1 e=>?_);cases c with
 |true=>exact isTrue_and_nil e
 |false=>exact e
def Bi(O:PT X a tA):PW X (.BoolOp .Or [a] pos) tA:=by
 intro U J0 s Y H Q I h;refine isTrue_or (Hw (O J0 s Y H Q I h) λc s1 e=>?_);cases c with
 |false=>exact isTrue_or_nil e
 |true=>exact e
def Bj(W:PT X a tA)(hb:PW X (.BoolOp .And (b::HF) pos) WO):PW X (.BoolOp .And (a::b::HF) pos) (TV tA WO):=by
 intro wh J0 s Y H Q I h;refine isTrue_and (Hw (W J0 s Y H _ I h) λc s1 O=>?_);have⟨H1,U,q1⟩:=O;cases c with
 |true=>exact hb wh J0 s1 Y H1 Q U q1
 |false=>exact⟨H1,U,q1⟩
def Eh(W:PT X a tA)(hb:PW X (.BoolOp .Or (b::HF) pos) WO):PW X (.BoolOp .Or (a::b::HF) pos) (tOr tA WO):=by
 intro wh J0 s Y H Q I h;refine isTrue_or (Hw (W J0 s Y H _ I h) λc s1 O=>?_);have⟨H1,U,q1⟩:=O;cases c with
 |true=>exact⟨H1,U,q1⟩
 |false=>exact hb wh J0 s1 Y H1 Q U q1
def Bk(O:PT X a tA):PT X (.UnaryOp .Not a pos) (tNot tA):=by intro J0 s Y H Q I h;exact isTrue_not (O J0 s Y H (λc H1=>Q (!c) H1) I h)
def Ei(ta tb:TE):TE:=λY H Q=>ta Y H λx H1=>∃c,x=.bl c/\if c=C then tb Y H1 Q else Q (.bl ξ) H1
def Bl{op}{t:TE}(h:PE X a t):PE X (.BoolOp op [a] pos) t:=λJ0 s Y H Q I O=>BoolOp_one (h J0 s Y H Q I O)
def Bm(ha:PE X a ta)(hb:PE X (.BoolOp .And (b::HF) pos) tb):PE X (.BoolOp .And (a::b::HF) pos) (Ei ta tb):=by
 intro J0 s Y H Q I h;refine BoolOp_and (Hw (ha J0 s Y H _ I h) λv s1 O=>?_);have⟨x,H1,U,W,q1⟩:=O;have⟨c,rfl,q1⟩:=q1;cases W;refine ZD ?_;cases c with
 |true=>exact hb J0 s1 Y H1 Q U q1
 |false=>exact⟨.bl ξ,H1,U,rfl,q1⟩
def tIf(t:TT)(ta tb:TE):TE:=λY H Q=>t Y H λc H1=>if c=C then ta Y H1 Q else tb Y H1 Q
def sO{c:J8}(hc:PT X c tA)(W:PE X a ta)(hb:PE X b tb):PE X (.IfExp c a b pos) (tIf tA ta tb):=by
 intro J0 s Y H Q I h;refine wpAny_IfExp (Hw (hc J0 s Y H _ I h) λd s1 O=>?_);have⟨H1,U,q1⟩:=O;cases d with
 |true=>exact W J0 s1 Y H1 Q U q1
 |false=>exact hb J0 s1 Y H1 Q U q1
end
def Id(K:xA9)(H:Hp)(a:J4)(xs:B V):Prop:=Rd H a (.e xs)\/∃(o:Obj)(J3:Array Value)(n:Nat),K.lookup a=Z o/\o.cls=.type "list"/\o.dict=J/\o.data=.seq J3 n/\J3.size<=G6/\E3 xs J3.toList
def Im(K:xA9)(H:Hp)(a:J4)(xs:B V):Prop:=H a=Z (.t xs)\/∃(o:Obj)(J3:Array Value)(n:Nat),K.lookup a=Z o/\o.cls=.type "tuple"/\(o.data=.seq J3 n/\o.dict=J)/\J3.size<=G6/\E3 xs J3.toList
noncomputable def absV:Value->ζ V
 |.none=>Z .ek
 |.bool b=>Z (.bl b)
 |.int i _=>Z (.int i)
 |.str x _=>Z (.str x)
 |.bytes b _=>Z (.L4 b)
 |.float b _=>Z (.QW b)
 |.ref a=>Z (.ref a)
 |.type n=>Z (.ty n)
 |_=>J
def Da.abs{x:V}(r:Da x u):absV u=Z x:=by
 cases x with
 |ek=>cases r;rfl
 |bl _=>cases r;rfl
 |int _=>have⟨t,rfl⟩:=r;rfl
 |str _=>have⟨t,rfl⟩:=r;rfl
 |L4 _=>have⟨t,rfl⟩:=r;rfl
 |QW _=>have⟨t,rfl⟩:=r;rfl
 |ref _=>cases r;rfl
 |ty _=>cases r;rfl
variable{y:V}
def Da.inj{x:V}(r:Da x u)(q:Da y u):x=y:=JU (r.abs.symm.trans q.abs)
theorem E3.inj:∀{xs ys:B V}{us:B Value},E3 xs us->E3 ys us->xs=ys
 |_,_,_,.nil,.nil=>rfl
 |_,_,_,.cons r t,.cons O t'=>by rw[r.inj O,E3.inj t t']
variable{K:xA9}
section
variable{X:Cx}{J0:B (J4×Obj)}{Y:St}{H:Hp}{s:pv}{a:J4}{xs ys:B V}
def Id.of(h:H a=Z (.e xs)):Id K H a xs:=.inl (.inl h)
def Im.of(h:H a=Z (.t xs)):Im K H a xs:=.inl h
def b7.list(I:b7 X J0 Y H s)(h:Id X.K H a xs):∃J3:B Value,E3 xs J3/\PlainL s.heap a J3.toArray/\xs.length<=G6:=by
 rcases h with h|⟨o,J3,n,W,hc,U,O,hz,r⟩
 .have⟨z,J3,n,r,e⟩:=h.ok I.Hb;exact⟨J3,r,⟨_,n,e,rfl,rfl,rfl⟩,z⟩
 .refine⟨J3.toList,r,⟨o,n,I.Js a o W,hc,U,‹O›⟩,?_⟩;have e:=r.length;rwa[S7]at e;lia
def b7.tup(I:b7 X J0 Y H s)(h:Im X.K H a xs):∃J3:B Value,E3 xs J3/\Ku s.heap a J3.toArray/\xs.length<=G6:=by
 rcases h with h|⟨o,J3,n,U,hc,O,hz,r⟩
 .have⟨z,J3,r,p⟩:=(Rd.of h).ok I.Hb;exact⟨J3,r,p,z⟩
 .refine⟨J3.toList,r,.of (n:=n) (I.Js a o U) hc ‹O.1› O.2,?_⟩;have e:=r.length;rwa[S7]at e;lia
def b7.tuple(I:b7 X J0 Y H s)(h:Im X.K H a xs):∃J3:B Value,E3 xs J3/\IsTup s.heap a J3.toArray/\xs.length<=G6:=let ⟨J3,r,p,z⟩:=I.tup h;⟨J3,r,p.1,z⟩
def b7.Ky(I:b7 X J0 Y H s)(h:Id X.K H a xs)(h':Id X.K H a ys):xs=ys:=by
 have⟨J3,r,⟨o,n,e,_,_,d⟩,_⟩:=I.list h;have⟨Ht,U,⟨o',n',O,_,_,d'⟩,_⟩:=I.list h';rw[e]at O;cases O
 rw[d]at d';injection d' with d1 _;have:J3=Ht:=‹congrArg Array.toList d1›
 subst this;exact r.inj U
def b7.JR(I:b7 X J0 Y H s)(h:Im X.K H a xs)(h':Im X.K H a ys):xs=ys:=by
 have⟨J3,r,⟨o,e,_,n,d⟩,_⟩:=I.tuple h;have⟨Ht,U,⟨o',O,_,n',d'⟩,_⟩:=I.tuple h';rw[e]at O;cases O
 rw[d]at d';injection d' with d1 _;have:J3=Ht:=‹congrArg Array.toList d1›
 subst this;exact r.inj U
end
noncomputable abbrev Cx.KZ(X:Cx)(E:Value->pv->Prop):Cx:={X with xe:=E}
abbrev Cx.WP(X:Cx):Cx:=X.KZ λ_ _=>False
def Cx.Ok.KZ(ok:X.Ok)(E:Value->pv->Prop):(X.KZ E).Ok:=⟨ok.mod,ok.kind,ok.glob,ok.blt,ok.above,ok.inj,ok.has,ok.TQ,ok.hd,ok.frames,ok.WL,ok.exf,ok.bs,ok.OJ,ok.NX,ok.Pi,ok.JX,ok.QY,ok.tb⟩
def Cx.Ok.Jb{E:Value->pv->Prop}(ok:(X.KZ E).Ok):X.Ok:=⟨ok.mod,ok.kind,ok.glob,ok.blt,ok.above,ok.inj,ok.has,ok.TQ,ok.hd,ok.frames,ok.WL,ok.exf,ok.bs,ok.OJ,ok.NX,ok.Pi,ok.JX,ok.QY,ok.tb⟩
section
variable{X:Cx}{J0:B (J4×Obj)}{Y:St}{H:Hp}{s:pv}{E:Value->pv->Prop}
def b7.KZ(I:b7 X J0 Y H s)(E:Value->pv->Prop):b7 (X.KZ E) J0 Y H s:=⟨I.ok.KZ E,I.os,I.bare,I.base,I.loc,I.cell,I.free,I.IG,I.pin,I.Hb,I.len⟩
def b7.Jb(I:b7 (X.KZ E) J0 Y H s):b7 X J0 Y H s:=⟨I.ok.Jb,I.os,I.bare,I.base,I.loc,I.cell,I.free,I.IG,I.pin,I.Hb,I.len⟩
omit x in
def SP.Jb{δ:Kx}{f:Flow}(h:SP (X.KZ E) J0 δ f s'):SP X J0 δ f s':=by
 cases f with
 |next=>have⟨O,H',I,q⟩:=h;exact⟨O,H',I.Jb,q⟩
 |brk=>have⟨O,H',I,q⟩:=h;exact⟨O,H',I.Jb,q⟩
 |cont=>have⟨O,H',I,q⟩:=h;exact⟨O,H',I.Jb,q⟩
 |ret u=>have⟨v,O,H',I,r,q⟩:=h;exact⟨v,O,H',I.Jb,r,q⟩
def LK.WP{st:B J6}{t:TS}(h:LK X.WP st t):LK X st t:=λJ0 s Y H δ I O=>NR (h J0 s Y H δ (I.KZ _) O) (λ_ _ q=>q.Jb) λ_ _ z=>MJ z
end
section
variable{X:Cx}{st:J6}{HF:B J6}{t u:TS}{e:J8}{te:TE}{pos:Pos}
def sQ:TS:=λδ Y H=>δ.nx Y H
def tSeq(t u:TS):TS:=λδ Y H=>t {δ with nx:=u δ} Y H
def xy:LK X [] sQ:=λ_ _ Y H _ I h=>wpAny_execs_nil ⟨Y,H,I,h⟩
omit x in
def sR(h1:PS X st t)(h2:LK X HF u):LK X (st::HF) (tSeq t u):=by
 intro J0 s Y H δ I h;refine wpAny_execs_cons (Hw (h1 J0 s Y H {δ with nx:=u δ} I h) λf s1 q=>?_);cases f with
 |next=>have⟨O,H',U,q⟩:=q;exact h2 J0 s1 O H' δ U q
 |ret v=>exact q
 |brk=>exact q
 |cont=>exact q
def xz:PS X (.Pass pos) sQ:=λ_ _ Y H _ I h=>wpAny_Pass ⟨Y,H,I,h⟩
def b7.quiet{s:pv}(I:b7 X J0 Y H s):interactive X.env=ξ:=by simp[interactive,I.ok.kind]
omit x in
def Bn{x j pos pos'}:PS X (.Expr (.Constant (.str x) j pos) pos') sQ:=λ_ s Y H _ I h=>wpAny_Expr (Calls.Constant_str (show SP X _ _ .next {s with toks:=s.toks+1} from⟨Y,H,I.tok _,h⟩)) I.quiet
def Ej(te:TE):TS:=λδ Y H=>te Y H λ_ H1=>δ.nx Y H1
def dw(W:PE X e te)(hs:LD e J pos.line X.env=pure ξ:=by rfl):PS X (.Expr e pos) (Ej te):=by intro J0 s Y H δ I h;exact wpAny_Expr_any (Hw (W J0 s Y H _ I h) λv s1 O=>by have⟨x,H1,U,r1,q1⟩:=O;exact⟨Y,H1,U,q1⟩) I.quiet hs
def tRet(te:TE):TS:=λδ Y H=>te Y H δ.rt
def Bo(he:PE X e te):PS X (.Return (Z e) pos) (tRet te):=by intro J0 s Y H δ I h;exact wpAny_Return_some (Hw (he J0 s Y H _ I h) λv s1 O=>by have⟨x,H1,U,W,q1⟩:=O;exact⟨x,Y,H1,U,W,q1⟩)
def Ek:TS:=λδ _ H=>δ.rt .ek H
def xB:PS X (.Return J pos) Ek:=λ_ _ Y H _ I h=>wpAny_Return_none ⟨.ek,Y,H,I,rfl,h⟩
def tIfS(c:TT)(t u:TS):TS:=λδ Y H=>c Y H λb H1=>if b=C then t δ Y H1 else u δ Y H1
def El{c:J8}{a b:B J6}{tc:TT}(hc:PT X c tc)(W:LK X a t)(hb:LK X b u):PS X (.If c a b pos) (tIfS tc t u):=by
 intro J0 s Y H δ I h;refine wpAny_If (Hw (hc J0 s Y H _ I h) λd s1 O=>?_);have⟨H1,U,q1⟩:=O;cases d with
 |true=>exact W J0 s1 Y H1 δ U q1
 |false=>exact hb J0 s1 Y H1 δ U q1
end
abbrev TG:=V->St->Hp->(St->Hp->Prop)->Prop
abbrev Ql:=B V->St->Hp->(St->Hp->Prop)->Prop
def PG(X:Cx)(O:J8)(t:TG):Prop:=
 ∀(J0:B (J4×Obj))(s:pv)(Y:St)(H:Hp)(v:V)(u:Value)(Q:St->Hp->Prop),b7 X J0 Y H s->Da v u->t v Y H Q→
  wpAny (model X.prog X.w) X.A (MP O X.env u) (λ_ s'=>∃U H',b7 X J0 U H' s'/\Q U H') X.xe s
def OK(X:Cx)(ts:B J8)(t:Ql):Prop:=
 ∀(J0:B (J4×Obj))(s:pv)(Y:St)(H:Hp)(vs:B V)(us:B Value)(Q:St->Hp->Prop),b7 X J0 Y H s->E3 vs us->t vs Y H Q→
  wpAny (model X.prog X.w) X.A (assignInOrder ((Lg ts X.env).map (·.2)) us) (λ_ s'=>∃O H',b7 X J0 O H' s'/\Q O H') X.xe s
abbrev sT:=V->V->V->Hp->(Hp->Prop)->Prop
def Lm(X:Cx)(t:sT):Prop:=
 ∀(J0:B (J4×Obj))(s:pv)(Y:St)(H:Hp)(o i v:V)(O iv u:Value)(Q:Hp->Prop),b7 X J0 Y H s->Da o O->Da i iv->Da v u->t o i v H Q→
  wpAny (model X.prog X.w) X.A (setItem O iv u) (λ_ s'=>∃H',b7 X J0 Y H' s'/\Q H') X.xe s
abbrev TIp:=V->V->Hp->VK->Prop
def PIp(X:Cx)(op:NB)(t:TIp):Prop:=
 ∀(J0:B (J4×Obj))(s:pv)(Y:St)(H:Hp)(x y:V)(v u:Value)(Q:VK),b7 X J0 Y H s->Da x v->Da y u->t x y H Q→
  wpAny (model X.prog X.w) X.A (inplaceOp op v u) (EP X J0 Y Q) X.xe s
variable{es:B J8}{tg:J8}{te:TE}
section
variable{X:Cx}{pos:Pos}
def er(i:Nat):TG:=λv Y H Q=>Q (Y.set i (Z v)) H
def oQ{i:Nat}{x:Str}(hN:X.N.Nodup)(hi:X.N[i]?=Z x)(W:So X.env.scope x)(O:X.fn x=C\/X.env.scope.names.lookup x=Z .local:=by first|exact .inl rfl|exact .inr rfl|assumption):PG X (.Name x pos) (er i):=by intro J0 s Y H v u Q I r h;exact wpAny_assign_Name (g6 I hN hi W r (λs' U=>⟨_,H,U,h⟩) O)
def gNil:Ql:=λvs Y H Q=>vs=[]/\Q Y H
def Eo(t:TG)(u:Ql):Ql:=λvs Y H Q=>∃v r,vs=v::r/\t v Y H λO H'=>u r O H' Q
def xC:OK X [] gNil:=by intro J0 s Y H vs us Q I r h;have⟨e,h⟩:=h;subst e;cases r;exact assignInOrder_nil ⟨Y,H,I,h⟩
def sU{t:TG}{u:Ql}(h1:PG X e t)(h2:OK X es u)
 (hs:(Lg (e::es) X.env).map (·.2)=MP e X.env::(Lg es X.env).map (·.2):=by rfl):OK X (e::es) (Eo t u):=by
 intro J0 s Y H vs us Q I r h;have⟨v,vr,e1,h⟩:=h;subst e1;cases r with
 |cons r rr=>rw[hs];refine assignInOrder_cons (Hw (h1 J0 s Y H _ _ _ I r h) λ_ s1 O=>?_);have⟨U,H1,W,q1⟩:=O;exact h2 J0 s1 U H1 _ _ Q W rr q1
def gTup(K:xA9)(n:Nat)(t:Ql):TG:=λv Y H Q=>∃a xs,v=.ref a/\Im K H a xs/\xs.length=n/\t xs Y H Q
def sV{k:Nat}{t:Ql}{n:Nat}(hc:X.calm=C)(h:OK X es t)
 (hn:(Lg es X.env).length=n:=by rfl) (O:(Lg es X.env).findIdx? (·.1)=J:=by rfl):PG X (.Tuple es k pos) (gTup X.K n t):=by
 intro J0 s Y H v u Q I r U;have⟨a,xs,e1,hq,hl,U⟩:=U;subst e1;cases r;have⟨J3,W,ht,hz⟩:=I.tuple hq;refine assign_Tuple_tuple (I.ok.hd hc) ht (by simp[hn,<- hl,W.length]) O λh' hx=>?_
 have I1:b7 X J0 Y H {s with heap:=h'}:=I.kept (t':=s.toks) λb o e=>hx b o (IS (Ii e)) e
 exact h J0 _ Y H xs _ Q I1 ‹W› U
def gSub(to U:TE)(t:sT):TG:=λv Y H Q=>to Y H λo H1=>U Y H1 λi H2=>t o i v H2 λO=>Q Y O
def sW {o i:J8} {to ti:TE} {t:sT} (ho:PE X o to) (hi:PE X i ti) (hs:Lm X t)
  (ha:∀v,MP (.Subscript o i pos) X.env v=(do
   let O <- LE [v] (eval o X.env);let iv <- LE [v,O] (eval i X.env)
   NU pos
   LE [v,O,iv] (setItem O iv v)
   release [v,O,iv] []):=by intro _;rfl):PG X (.Subscript o i pos) (gSub to ti t):=by
 intro J0 s Y H v u Q I r h;rw[ha];refine wB (OF (Hw (ho J0 s Y H _ I h) λO s1 hq20=>?_));have⟨x,H1,I1,r1,q1⟩:=hq20;refine wB (OF (Hw (hi J0 s1 Y H1 _ I1 q1) λiv s2 U=>?_));have⟨y,H2,I2,r2,q2⟩:=U;refine wB (ZG (wB (OF (Hw (hs J0 s2 Y H2 x y v O iv u _ I2 r1 r2 r q2) λ_ s3 W=>?_))));have⟨H3,I3,q3⟩:=W;exact wpAny_release ⟨Y,H3,I3,q3⟩
def xD(te:TE)(g:TG):TS:=λδ Y H=>te Y H λx H1=>g x Y H1 δ.nx
def j4{g:TG}(he:PE X e te)(W:PG X tg g)(hs:QK [tg] e pos.line X.env=pure ξ:=by rfl)(hw:Ws [tg] e X.env=pure J:=by rfl)
 (h1:(Lg [tg] X.env).map (·.2)=[MP tg X.env]:=by rfl):PS X (.Assign [tg] e pos) (xD te g):=by
 intro J0 s Y H δ I h;refine wpAny_Assign_stores (Hw (he J0 s Y H _ I h) λv s1 O=>?_) hs hw;have⟨x,H1,U,r1,q1⟩:=O;rw[h1];exact Hw (W J0 s1 Y H1 x v _ U r1 q1) λ_ s2 q=>q
def Bp {i:Nat} {x:Str} {pos':Pos} (hN:X.N.Nodup) (hi:X.N[i]?=Z x) (hx:So X.env.scope x) (he:PE X e te) (hs:LD e (Z (.Name x pos')) pos.line X.env=pure ξ:=by rfl) (hf:X.fn x=C\/X.env.scope.names.lookup x=Z .local:=by first | exact .inl rfl | exact .inr rfl | assumption) :
  PS X (.Assign [.Name x pos'] e pos) (xD te (er i)):=by
 intro J0 s Y H δ I h;refine wpAny_Assign_Name (Hw (he J0 s Y H _ I h) λv s1 O=>?_) hs;have⟨y,H1,U,r1,q1⟩:=O;exact g6 U hN hi hx r1 (λs2 W=>⟨_,H1,W,q1⟩) hf
def ipI(f:Int->Int->Int):TIp:=λx y H Q=>∃i j,x=.int i/\y=.int j/\Q (.int (f i j)) H
def Bq:PIp X .Add (ipI λi j=>i+j):=by intro J0 s Y H x y v u Q I W U h;have⟨i,j,O,e2,q⟩:=h;subst O;subst e2;have⟨t,rfl⟩:=W;have⟨t',rfl⟩:=U;exact iadd_int ⟨.int _,H,I.tok _,⟨_,rfl⟩,q⟩
end
structure It where
 go:Nat->Hp->Prop
 OL:Nat->Hp->V->Hp->Prop
 stop:Nat->Hp->Prop
def dI(X:Cx)(J0:B (J4×Obj))(H:Hp)(b:J4):Prop:=H b=J/\b≠X.env.locals/\b∉X.fs/\(b∈X.ex\/X.s₀.heap.objs.size<=b)/\(∀x c,X.env.cells.lookup x=Z c->c≠b)/\∀p∈X.pn++J0,p.1≠b
def b7.M8{H':Hp}{s:pv}{b:J4}(I:b7 X J0 Y H s)(hb:s.heap.objs.size<=b)(O:H' b=J):dI X J0 H' b:=by
 refine⟨O,NA (KG I.lt hb),I.nofs hb,.inr (JS I.sz hb),λx c e z=>?_,λp hp z=>?_⟩
 .have⟨v,q⟩:=I.cell x c e;exact absurd (KG q.lt (by rw[z];exact hb)) (Qa _)
 .exact absurd (KG (Ii (I.pin p hp).1) (by rw[z];exact hb)) (Qa _)
structure M9(P:Iz)(w:J5)(K:xA9)(tg:J8)(ψ:It)(fp:List J4)(it:J4)(tn:Nat->Heap->Prop):Prop where
 mem:it∈fp
 obj:∀i h,tn i h->∀b∈fp,∃o,h.get? b=Z o/\∀v,o.data≠.cell v
 keep:∀i h h',tn i h->(∀b∈fp,∀o,h.get? b=Z o->h'.get? b=Z o)->tn i h'
 item:∀(X:Cx),X.prog=P->X.w=w->X.K=K->X.calm=C->∀(i:Nat)(J0:List (J4×Obj))(s:pv)(Y:St)(H:Hp)(E:Value->pv->Prop),b7 X J0 Y H s->(∀b∈fp,dI X J0 H b)->tn i s.heap->ψ.go i H→
  wpAny (model P w) X.A (LI (.ref it)) (λr s1=>∃u,r=Z u∧wpAny (model P w) X.A (Wn tg (.ref it) u) (λ_ s2=>∃x H',b7 X J0 Y H' s2/\Da x u/\ψ.OL i H x H'/\tn (i+1) s2.heap/\∀b∈fp,H' b=J) E s1) E s
 done:∀(X:Cx),X.prog=P->X.w=w->X.K=K->X.calm=C->∀(i:Nat)(J0:List (J4×Obj))(s:pv)(Y:St)(H:Hp)(E:Value->pv->Prop),b7 X J0 Y H s->(∀b∈fp,dI X J0 H b)->tn i s.heap->ψ.stop i H→
  wpAny (model P w) X.A (LI (.ref it)) (λr s1=>r=J/\b7 X J0 Y H s1) E s
 self:∀(A:Jo)(i:Nat)(s:pv)(Q E:Value->pv->Prop),tn i s.heap->Q (.ref it) s->wpAny (model P w) A (pyIter (.ref it)) Q E s
abbrev TI:=St->Hp->(It->Hp->Prop)->Prop
def PIE(X:Cx)(J0:B (J4×Obj))(Y:St)(tg:J8)(R:It->Hp->Prop)(O:Value)(U:pv):Prop:=∃(it:J4)(fp:B J4)(tn:Nat->Heap->Prop)(ψ:It)(H':Hp),O=.ref it/\b7 X J0 Y H' U/\M9 X.prog X.w X.K tg ψ fp it tn/\tn 0 U.heap/\(∀b∈fp,dI X J0 H' b)/\R ψ H'
def PI(X:Cx)(tg iter:J8)(wi:TI):Prop:=
 ∀(J0:B (J4×Obj))(s:pv)(Y:St)(H:Hp)(R:It->Hp->Prop),b7 X J0 Y H s->wi Y H R→
  wpAny (model X.prog X.w) X.A (eval iter X.env) (λv s1=>wpAny (model X.prog X.w) X.A (pyIter v) (PIE X J0 Y tg R) X.xe s1) X.xe s
def oR{E:Value->pv->Prop}{s:pv}{it:J4}{o:Obj}{n:String}{vs:Array Value}{Q:Unit->pv->Prop}(U:s.heap.get? it=Z o)(hc:o.cls=.type n)(hd:o.data=.fields vs)
 (W:["enumerate","zip","dict_itemiterator","dict_reverseitemiterator","odict_iterator","itertools.zip_longest","itertools.pairwise"].contains n=ξ) (O:Q () s):wpAny ρ A (Wn tg (.ref it) u) Q E s:=by
 unfold Wn
 cases tg<;>first
  |exact Hf O
  | (cases u<;>first
      |exact Hf O
      | (refine wB (wpAny_load U ?_)
         rw[hc,hd];show wpAny ρ A (if(["enumerate","zip","dict_itemiterator","dict_reverseitemiterator","odict_iterator","itertools.zip_longest","itertools.pairwise"].contains n&&vs[0]?==Z (La _))=C then _ else _) Q E s;rw[if_neg (by intro h;rw[W,Bool.false_and]at h;cases h)];exact Hf O))
noncomputable def Itl(K:xA9)(a:J4):It:=⟨λi H=>∃xs x,Id K H a xs/\xs[i]?=Z x,λi H x H'=>H'=H/\∀xs,Id K H a xs->xs[i]?=Z x,λi H=>∃xs,Id K H a xs/\xs.length<=i⟩
noncomputable def Itt(K:xA9)(a:J4):It:=⟨λi H=>∃xs x,Im K H a xs/\xs[i]?=Z x,λi H x H'=>H'=H/\∀xs,Im K H a xs->xs[i]?=Z x,λi H=>∃xs,Im K H a xs/\xs.length<=i⟩
noncomputable def WQ(lo:Int)(n:Nat):It:=⟨λi _=>i<n,λi H x H'=>H'=H/\x=.int (lo+i),λi _=>n<=i⟩
def qI{w:J5}(a it:J4):M9 P w K tg (Itl K a) [it] it (λi h=>h.IsListIter it a i) where
 mem:=by simp
 obj:=λi h st b hb=>by
  have e:b=it:=‹hb›
  subst e;have⟨o,e,c,d⟩:=st;exact⟨o,e,λv z=>by rw[d]at z;cases z⟩
 keep:=λi h h' st k=>st.at λo e=>k it Ξ o e
 item:=by
  intro X hP hw hK hc i J0 s Y H E I W st hg;subst hP hw hK;have⟨xs,x,U,hx⟩:=hg;have⟨J3,rv,p,hz⟩:=I.list U;have⟨u,hu,ru⟩:=rv.get hx;have⟨f0,f1,f2,f3,f4,f5⟩:=W it Ξ;refine zb1 st p.isList (x:=u) ‹hu› λh' O sb=>?_
  have I1:b7 X J0 Y H {s with heap:=h'}:=I.turned (t':=s.toks) (λb o hb e=>(sb.2 b hb).trans e) f0 f1 f3 f4 f5;have⟨o,e,c,d⟩:=id O;exact⟨u,rfl,oR (s:={s with heap:=h'}) e c d Ω ⟨x,H,I1,ru,⟨rfl,λys hy=>by rw[I.Ky hy U];exact hx⟩,O,λb hb=>(W b hb).1⟩⟩
 done:=by intro X hP hw hK hc i J0 s Y H E I W st hg;subst hP hw hK;have⟨xs,U,hx⟩:=hg;have⟨J3,rv,p,hz⟩:=I.list U;have⟨f0,f1,f2,f3,f4,f5⟩:=W it Ξ;have hl:=rv.length;exact zc0 (I.ok.hd hc) st p.isList (by simp;lia) λh' eb=>⟨rfl,I.turned (t':=s.toks) (λb o hb e=>eb b o hb e) f0 f1 f3 f4 f5⟩
 self:=λ_ _ _ _ _ st h=>wpAny_pyIter_listiter st h
def nj{w:J5}(a it:J4):M9 P w K tg (Itt K a) [it] it (λi h=>h.IsTupleIter it a i) where
 mem:=by simp
 obj:=λi h st b hb=>by
  have e:b=it:=‹hb›
  subst e;have⟨o,e,c,d⟩:=st;exact⟨o,e,λv z=>by rw[d]at z;cases z⟩
 keep:=λi h h' st k=>st.at λo e=>k it Ξ o e
 item:=by
  intro X hP hw hK hc i J0 s Y H E I W st hg;subst hP hw hK;have⟨xs,x,U,hx⟩:=hg;have⟨J3,rv,p,hz⟩:=I.tuple U;have⟨u,hu,ru⟩:=rv.get hx;have⟨f0,f1,f2,f3,f4,f5⟩:=W it Ξ;refine qz5 st (show s.heap.IsTuple a J3.toArray from p) (x:=u) ‹hu› λh' O sb=>?_
  have I1:b7 X J0 Y H {s with heap:=h'}:=I.turned (t':=s.toks) (λb o hb e=>(sb.2 b hb).trans e) f0 f1 f3 f4 f5;have⟨o,e,c,d⟩:=id O;exact⟨u,rfl,oR (s:={s with heap:=h'}) e c d Ω ⟨x,H,I1,ru,⟨rfl,λys hy=>by rw[I.JR hy U];exact hx⟩,O,λb hb=>(W b hb).1⟩⟩
 done:=by intro X hP hw hK hc i J0 s Y H E I W st hg;subst hP hw hK;have⟨xs,U,hx⟩:=hg;have⟨J3,rv,p,hz⟩:=I.tuple U;have⟨f0,f1,f2,f3,f4,f5⟩:=W it Ξ;have hl:=rv.length;exact zb2 (I.ok.hd hc) st (show s.heap.IsTuple a J3.toArray from p) (by simp;lia) λh' eb=>⟨rfl,I.turned (t':=s.toks) (λb o hb e=>eb b o hb e) f0 f1 f3 f4 f5⟩
 self:=λ_ _ _ _ _ st h=>wpAny_pyIter_tupleiter st h
def nl{w:J5}(it:J4)(lo:Int)(n:Nat):M9 P w K tg (WQ lo n) [it] it (λi h=>IsRangeIter h it (lo+(i:Nat)*1) ((n:Int)-(i:Nat)) 1) where
 mem:=by simp
 obj:=λi h st b hb=>by
  have e:b=it:=‹hb›
  subst e
  exact⟨_,st,λv z=>by have z':Data.fields _=Data.cell v:=z;cases z'⟩
 keep:=λi h h' st k=>k it Ξ _ st
 item:=by
  intro X hP hw hK hc i J0 s Y H E I U st hg;subst hP hw hK;have⟨f0,f1,f2,f3,f4,f5⟩:=U it Ξ;have W:=Walks.range (prog:=X.prog) (w:=X.w) (I.ok.hd hc) it lo 1 n;refine W.item i s _ _ hg st λv h' tk hv O kk=>?_
  have⟨t,rfl⟩:=hv;have I1:b7 X J0 Y H {s with heap:=h',toks:=tk}:=I.turned (λb o hb e=>kk b o ‹hb› e) f0 f1 f3 f4 f5;refine⟨_,rfl,oR (s:={s with heap:=h',toks:=tk}) (n:="range_iterator") O rfl rfl Ω ⟨.int (lo+i),H,I1,⟨t,?_⟩,⟨rfl,rfl⟩,O,λb hb=>(U b hb).1⟩⟩;rw[Int.mul_one]
 done:=by intro X hP hw hK hc i J0 s Y H E I U st hg;subst hP hw hK;have⟨f0,f1,f2,f3,f4,f5⟩:=U it Ξ;exact wpAny_pyNext_range_end (I.ok.hd hc) st (by have:n<=i:=hg;lia) λh' eb=>⟨rfl,I.turned (t':=s.toks) (λb o hb e=>eb b o hb e) f0 f1 f3 f4 f5⟩
 self:=λ_ _ _ _ _ st h=>wpAny_pyIter_rangeiter st h
variable{l:J8}{tl:TE}{fp:B J4}{body:B J6}
section
variable{X:Cx}{tg:J8}
def Ep(K:xA9)(tl:TE):TI:=λY H R=>tl Y H λx H1=>∃a,x=.ref a/\(∃xs,Id K H1 a xs)/\R (Itl K a) H1
def iTup(K:xA9)(tl:TE):TI:=λY H R=>tl Y H λx H1=>∃a,x=.ref a/\(∃xs,Im K H1 a xs)/\R (Itt K a) H1
def xG(hl:PE X l tl):PI X tg l (Ep X.K tl):=by
 intro J0 s Y H R I h;refine Hw (hl J0 s Y H _ I h) λv s1 O=>?_
 have⟨x,H1,U,r1,q1⟩:=O;have⟨a,e,⟨xs,W⟩,q⟩:=q1;subst e;cases r1;have⟨J3,rv,p,hz⟩:=U.list W;refine wpAny_pyIter_list p.isList ?_;refine⟨s1.heap.objs.size,[s1.heap.objs.size],_,_,H1,rfl,U.kept (t':=s1.toks) λb o e=>gP _ e,qI a _,⟨_,JW _ rfl,rfl,rfl⟩,λb hb=>?_,q⟩;have e:b=s1.heap.objs.size:=‹hb›
 subst e;exact U.M8 (nL _) (U.Hb.fresh (nL _))
def Br(hl:PE X l tl):PI X tg l (iTup X.K tl):=by
 intro J0 s Y H R I h;refine Hw (hl J0 s Y H _ I h) λv s1 O=>?_
 have⟨x,H1,U,r1,q1⟩:=O;have⟨a,e,⟨xs,W⟩,q⟩:=q1;subst e;cases r1;have⟨J3,rv,p,hz⟩:=U.tuple W;refine Wj (show s1.heap.IsTuple a J3.toArray from p) ?_;refine⟨s1.heap.objs.size,[s1.heap.objs.size],_,_,H1,rfl,U.kept (t':=s1.toks) λb o e=>gP _ e,nj a _,⟨_,JW _ rfl,rfl,rfl⟩,λb hb=>?_,q⟩;have e:b=s1.heap.objs.size:=‹hb›
 subst e;exact U.M8 (nL _) (U.Hb.fresh (nL _))
def sX{s:pv}{R:It->Hp->Prop}{E:Value->pv->Prop}{lo hi:Int}{t u v:Tok}{U:Nat}(I:b7 X J0 Y H s)(h1:-(2^62)<=lo)(h2:lo<2^62)(h3:-(2^62)<=hi)(h4:hi<2^62)
 (q:R (WQ lo (hi-lo).toNat) H):wpAny (model X.prog X.w) X.A (pyIter (.ref s.heap.objs.size)) (PIE X J0 Y tg R) E {s with heap:=s.heap.push {cls:=.type "range",data:=.fields #[.int lo t,.int hi u,.int 1 v]},toks:=U}:=by
 refine wpAny_pyIter_range (IsRange.new ..) (small_one h1 h2 h3 h4) ?_;have O:b7 X J0 Y H {s with heap:=s.heap.push {cls:=.type "range",data:=.fields #[.int lo t,.int hi u,.int 1 v]},toks:=U}:=I.kept λb o e=>gP _ e
 refine⟨(s.heap.push {cls:=.type "range",data:=.fields #[.int lo t,.int hi u,.int 1 v]}).objs.size,[(s.heap.push {cls:=.type "range",data:=.fields #[.int lo t,.int hi u,.int 1 v]}).objs.size],_,_,H,rfl,O.kept (t':=U) λb o e=>gP _ e,nl _ lo (hi-lo).toNat,?_,λb hb=>?_,q⟩
 .have W:lo+((0:Nat):Int)*1=lo:=by simp
  have e2:(((hi-lo).toNat:Nat):Int)-((0:Nat):Int)=JV.Range.rangeSize lo hi 1:=by rw[rangeSize_one];split<;>lia
  show IsRangeIter _ _ (lo+((0:Nat):Int)*1) ((((hi-lo).toNat:Nat):Int)-((0:Nat):Int)) 1;rw[W,e2];exact JW _ rfl
 .have e:b=(s.heap.push {cls:=.type "range",data:=.fields #[.int lo t,.int hi u,.int 1 v]}).objs.size:=‹hb›
  subst e;exact O.M8 (nL _) (O.Hb.fresh (nL _))
def z7(ta:TA):TI:=λY H R=>ta Y H λvs H1=>∃j:Int,vs=[.int j]/\-(2^62)<=j/\j<2^62/\R (WQ 0 j.toNat) H1
def qJ{a:J8}{ta:TA}{p:Pos}(hg:Gl X "range")(hm:X.mg "range"=J)(ha:Ij X [a] ta)(hs:Hn [a] X.env=[(ξ,eval a X.env)]:=by rfl):PI X tg (.Call (.Name "range" p) [a] [] pos) (z7 ta):=by
 intro J0 s Y H R I h;refine Call_ (g7 I hg hm boot_range (ZA (Hw (ha pos J0 s Y H _ I h) λus s1 O=>?_) hs rfl));have⟨vs,H1,U,r1,q1⟩:=O;have⟨j,e,q1,q2,q⟩:=q1;subst e;cases r1 with
 |cons r W=>cases W;have⟨t,rfl⟩:=r;exact call_range_1 (sX U Θ Θ q1 q2 ‹q›)
def TW(wi:TI)(g:TG)(tb:TS):TS:=λδ Y H=>wi Y H λψ H1=>∃W:Nat->Nat->St->Hp->Prop,(∃m,W 0 m Y H1)/\∀i m Y H,W i m Y H→ (ψ.stop i H/\δ.nx Y H)\/(ψ.go i H/\∃N:St->Hp->Prop,(∀O H',N O H'->∃m',m'<m/\W (i+1) m' O H')/\∀x H',ψ.OL i H x H'->g x Y H' λU H2=>tb {δ with nx:=N,ct:=N,bk:=δ.nx} U H2)
noncomputable def fF(fp:B J4)(h:Heap):B (J4×Obj):=fp.filterMap λb=>(h.get? b).map λo=>(b,o)
def cB{h:Heap}{b:J4}{o:Obj}(hb:b∈fp)(e:h.get? b=Z o):(b,o)∈fF fp h:=Zn.mpr ⟨b,hb,by rw[e];rfl⟩
def qK{h:Heap}{p:J4×Obj}(hp:p∈fF fp h):p.1∈fp/\h.get? p.1=Z p.2:=by
 have⟨b,hb,e⟩:=Zn.mp hp;cases q:h.get? b with
 |none=>rw[q]at e;cases e
 |some o=>rw[q]at e;have O:(b,o)=p:=JU e;subst O;exact⟨hb,q⟩
def b7.pinned{s:pv}(I:b7 X J0 Y H s)(hf:∀b∈fp,dI X J0 H b)(U:∀b∈fp,∃o,s.heap.get? b=Z o/\∀v,o.data≠.cell v):b7 X (J0++fF fp s.heap) Y H s:=
 I.MT λp hp=>(JC.mp hp).elim (λz=>I.pin p (Ox _ z)) λz=>by
  have⟨hb,e⟩:=qK z;have⟨f0,f1,W,_⟩:=hf p.1 hb;have⟨o,O,d⟩:=U p.1 hb;rw[e]at O;cases O
  exact⟨e,f0,f1,W,d⟩
def b7.JD{pl:B (J4×Obj)}{s:pv}(I:b7 X (J0++pl) Y H s):b7 X J0 Y H s:=I.MT λp hp=>I.pin p (Ox _ (List.mem_append_left _ hp))
omit x in
def Bs{iter:J8}{wi:TI}{g:TG}{tb:TS}(hp:PassesOwn (model X.prog X.w) X.A X.env X.xe)(hc:X.calm=C)(hi:PI X tg iter wi)(hg:PG X tg g)(hb:LK X body tb)
 (hs:∀x,Pe iter X.env x=pure x:=by intro _;rfl):PS X (.For tg iter body [] pos) (TW wi g tb):=by
 intro J0 s Y H δ I h;refine wpAny_For (Hw (hi J0 s Y H _ I h) λv s1 h1=>Hw h1 λitv s2 h2=>?_) hs;have⟨it,fp,tn,ψ,H2,e,I2,T,Sq,f2,W,⟨m0,w0⟩,turn⟩:=h2;subst e
 -- what stays C of MU iterator's objects through MU loop
 have Mo:∀{H':Hp},(∀b∈fp,H' b=J)->∀b∈fp,dI X J0 H' b:=λhn b hb=>⟨hn b hb,(f2 b hb).2⟩
 refine codeAny_forLoop_any (λn s'=>∃i K0 H',b7 X J0 K0 H' s'/\tn i s'.heap/\(∀b∈fp,H' b=J)/\W i n K0 H') ?_ m0 ⟨0,Y,H2,I2,Sq,λb hb=>(f2 b hb).1,w0⟩;rintro n s3 ⟨i,TX,H3,I3,TY,fr3,w3⟩;rcases turn i n TX H3 w3 with ⟨stop,qn⟩|⟨go,N,hN,step⟩
 .refine Tl hp (Hw (T.done X rfl rfl rfl hc i J0 s3 TX H3 X.xe I3 (Mo fr3) TY stop) λr s4 hq39=>?_);have⟨hr,I4⟩:=hq39;subst hr;exact wpAny_execs_nil ⟨TX,H3,I4,qn⟩
 .refine Tl hp (Hw (T.item X rfl rfl rfl hc i J0 s3 TX H3 X.xe I3 (Mo fr3) TY go) λr s4 ⟨u,hr,h4⟩=>?_);subst hr;refine Tl hp (Hw h4 λ_ s5 hq41=>?_);have⟨x,H5,I5,r5,y5,Pj,WR⟩:=hq41;have I5':=I5.pinned (Mo WR) (T.obj _ _ Pj);refine Tl hp (Hw (hg _ s5 TX H5 x u _ I5' r5 (step x H5 y5)) λ_ s6 hq42=>?_);have⟨σ6,H6,I6,q6⟩:=hq42;refine Tl hp (Hw (hb _ s6 σ6 H6 _ I6 q6) λf s7 q7=>?_)
  have again:∀{O:St}{U:Hp},b7 X (J0++fF fp s5.heap) O U s7->N O U->∃m,m<n/\∃i K0 H',b7 X J0 K0 H' s7/\tn i s7.heap/\(∀b∈fp,H' b=J)/\W i m K0 H':=λ{O U} I7 n7=>by have⟨m',hm,w7⟩:=hN O U n7;refine⟨m',hm,i+1,O,U,I7.JD,T.keep _ _ _ Pj λb hb o e=>(I7.pin (b,o) (Ox _ (Ox _ (cB hb e)))).1,λb hb=>?_,w7⟩;have⟨o,e,d⟩:=T.obj _ _ Pj b hb;exact(I7.pin (b,o) (Ox _ (Ox _ (cB hb e)))).2.1
  cases f with
  |next=>have⟨O,U,I7,n7⟩:=q7;exact again I7 n7
  |cont=>have⟨O,U,I7,n7⟩:=q7;exact again I7 n7
  |brk=>have⟨O,U,I7,q7⟩:=q7;exact⟨O,U,I7.JD,q7⟩
  |ret v=>have⟨x7,O,U,I7,r7,q7⟩:=q7;exact⟨x7,O,U,I7.JD,r7,q7⟩
end
abbrev R2:=V->V->Hp->VK->Prop
def HI(X:Cx)(f:Value->Value->Sem Value)(r:R2):Prop:=
 ∀(J0:B (J4×Obj))(s:pv)(Y:St)(H:Hp)(x y:V)(v u:Value)(Q:VK),b7 X J0 Y H s->Da x v->Da y u->r x y H Q→
  wpAny (model X.prog X.w) X.A (f v u) (EP X J0 Y Q) X.xe s
def UnR(X:Cx)(f:Value->Sem Value)(r:V->Hp->VK->Prop):Prop:=
 ∀(J0:B (J4×Obj))(s:pv)(Y:St)(H:Hp)(x:V)(v:Value)(Q:VK),b7 X J0 Y H s->Da x v->r x H Q→
  wpAny (model X.prog X.w) X.A (f v) (EP X J0 Y Q) X.xe s
def Hx(X:Cx)(f:Value)(r:B V->Hp->VK->Prop):Prop:=
 ∀(J0:B (J4×Obj))(s:pv)(Y:St)(H:Hp)(xs:B V)(us:B Value)(Q:VK),b7 X J0 Y H s->E3 xs us->r xs H Q→
  wpAny (model X.prog X.w) X.A (call f us) (EP X J0 Y Q) X.xe s
def TruR(X:Cx)(r:V->Hp->(Bool->Hp->Prop)->Prop):Prop:=
 ∀(J0:B (J4×Obj))(s:pv)(Y:St)(H:Hp)(x:V)(v:Value)(Q:Bool->Hp->Prop),b7 X J0 Y H s->Da x v->r x H Q→
  wpAny (model X.prog X.w) X.A (truthy v) (TP X J0 Y Q) X.xe s
def TZ(r:R2)(ta tb:TE):TE:=λY H Q=>ta Y H λx H1=>tb Y H1 λy H2=>r x y H2 Q
def tUn(r:V->Hp->VK->Prop)(ta:TE):TE:=λY H Q=>ta Y H λx H1=>r x H1 Q
def g8(θ:Int->Int->Prop)(g:Int->Int->V):R2:=λx y H Q=>∃i j,x=.int i/\y=.int j/\θ i j/\Q (g i j) H
def Na(g:Int->Int->V):R2:=λx y H Q=>∃i j,x=.int i/\y=.int j/\Q (g i j) H
def rU(g:Int->V):V->Hp->VK->Prop:=λx H Q=>∃i,x=.int i/\Q (g i) H
variable{r:R2}
section
variable{X:Cx}{a b c:J8}{ta tb tc:TE}{pos:Pos}
def Bt(ha:PE X a ta)(hb:PE X b tb){s:pv}{R:V->V->Hp->Prop}(I:b7 X J0 Y H s)
 (h:ta Y H λx H1=>tb Y H1 λy H2=>R x y H2) {f:Value->Value->Sem Value}
 (hf:∀v u s2 x y H2,b7 X J0 Y H2 s2->Da x v->Da y u->R x y H2->wpAny (model X.prog X.w) X.A (f v u) Q X.xe s2) :
  wpAny (model X.prog X.w) X.A (eval a X.env) (λv U=>wpAny (model X.prog X.w) X.A (eval b X.env) (λu W=>wpAny (model X.prog X.w) X.A (f v u) Q X.xe W) X.xe U) X.xe s:=by
 refine Hw (ha J0 s Y H _ I h) λv s1 hq44=>?_
 have⟨x,H1,I1,r1,q1⟩:=hq44;refine Hw (hb J0 s1 Y H1 _ I1 q1) λu s2 O=>?_
 have⟨y,H2,I2,r2,q2⟩:=O;exact hf v u s2 x y H2 I2 r1 r2 q2
def Er{op:NB}(O:HI X (KY op) r)(ha:PE X a ta)(hb:PE X b tb):PE X (.BinOp a op b pos) (TZ r ta tb):=by intro J0 s Y H Q I h;exact wpAny_BinOp (Bt ha hb I h λv u s2 x y H2 W rx U q=>O J0 s2 Y H2 x y v u Q W rx U q)
def Es{op:UnaryOp}{r:V->Hp->VK->Prop}(U:UnR X (unaryOp op) r)(ha:PE X a ta):PE X (.UnaryOp op a pos) (tUn r ta):=by intro J0 s Y H Q I h;exact UnaryOp_ (Hw (ha J0 s Y H _ I h) λv s1 O=>by have⟨x,H1,W,r1,q1⟩:=O;exact U J0 s1 Y H1 x v Q W r1 q1)
def T0 {f:Value->Value->Sem Value} {θ:Int->Int->Prop} {g:Int->Int->Int}
  (O:∀(i j:Int)(t u:Tok)(s:pv)(Q E:Value->pv->Prop),θ i j->Q (.int (g i j) s.toks) {s with toks:=s.toks+1}->wpAny (model X.prog X.w) X.A (f (.int i t) (.int j u)) Q E s) :
  HI X f (g8 θ λi j=>.int (g i j)):=by
 intro J0 s Y H x y v u Q I W U h;have⟨i,j,rfl,rfl,hc,q⟩:=h;have⟨t,rfl⟩:=W;have⟨t',rfl⟩:=U;exact O i j t t' s _ _ hc ⟨.int (g i j),H,I.tok _,⟨_,rfl⟩,q⟩
def sY {f:Value->Value->Sem Value} {g:Int->Int->Int}
  (O:∀(i j:Int)(t u:Tok)(s:pv)(Q E:Value->pv->Prop),Q (.int (g i j) s.toks) {s with toks:=s.toks+1}->wpAny (model X.prog X.w) X.A (f (.int i t) (.int j u)) Q E s) :
  HI X f (Na λi j=>.int (g i j)):=by
 intro J0 s Y H x y v u Q I W U h;have⟨i,j,rfl,rfl,q⟩:=h;have⟨t,rfl⟩:=W;have⟨t',rfl⟩:=U;exact O i j t t' s _ _ ⟨.int (g i j),H,I.tok _,⟨_,rfl⟩,q⟩
def T2 {f:Value->Value->Sem Value} {g:Int->Int->Bool}
  (O:∀(i j:Int)(t u:Tok)(s:pv)(Q E:Value->pv->Prop),Q (.bool (g i j)) s->wpAny (model X.prog X.w) X.A (f (.int i t) (.int j u)) Q E s) :
  HI X f (Na λi j=>.bl (g i j)):=by
 intro J0 s Y H x y v u Q I W U h;have⟨i,j,rfl,rfl,q⟩:=h;have⟨t,rfl⟩:=W;have⟨t',rfl⟩:=U;exact O i j t t' s _ _ ⟨.bl (g i j),H,I,rfl,q⟩
def Bu(i j:Int):Prop:=0<=j/\j<=1000000/\i.natAbs<2^64
def NY(i j:Int):Prop:=(-(2^64)<i/\i<2^64)\/(-(2^64)<j/\j<2^64)
def NY.ok{i j:Int}(h:NY i j):IntMulOk i j:=by
 rcases h with ⟨h1,h2⟩|⟨h1,h2⟩
 .exact .of_left (intBits_le_64 h1 h2)
 .exact .of_right (intBits_le_64 h1 h2)
def nn(k:Nat):(0:Int)<=2^k:=by rw[two_pow_cast];exact Int.natCast_nonneg _
def Bv:HI X (KY .Add) (Na λi j=>.int (i+j)):=sY λ_ _ _ _ _ _ _ q=>add_int q
def Bw:HI X (KY .Sub) (Na λi j=>.int (i-j)):=sY λ_ _ _ _ _ _ _ q=>sub_int q
def By:HI X (KY .Mult) (g8 NY λi j=>.int (i*j)):=T0 λ_ _ _ _ _ _ _ hc q=>mul_int q hc.ok
def Bz:HI X (KY .Mod) (g8 (λ_ j=>0<j) λi j=>.int (i%j)):=T0 λi j _ _ _ _ _ hc q=>by have h1:(0:Int)<j:=hc;exact mod_int' Θ (by rw[Int.fmod_eq_emod_of_nonneg i Θ];exact q)
def BA:HI X (KY .Pow) (g8 Bu λi j=>.int (i^j.toNat)):=T0 λ_ _ _ _ _ _ _ hc q=>pow_int_small hc.1 hc.2.1 hc.2.2 q
def BB:HI X (KY .RShift) (g8 (λ_ j=>0<=j) λi j=>.int (i/2^j.toNat)):=T0 λi j _ _ _ _ _ hc q=>rshift_int hc (by rw[qw9 i (nn _)];exact q)
def BC:HI X (KY .BitAnd) (Na λi j=>.int (WC i j)):=sY λ_ _ _ _ _ _ _ q=>and_int q
def Et:HI X (KY .BitOr) (Na λi j=>.int (JV.bitOr i j)):=sY λ_ _ _ _ _ _ _ q=>or_int q
def BD:HI X (KY .BitXor) (Na λi j=>.int (JV.bitXor i j)):=sY λ_ _ _ _ _ _ _ q=>xor_int q
def unI {f:Value->Sem Value} {g:Int->Int}
  (O:∀(i:Int)(t:Tok)(s:pv)(Q E:Value->pv->Prop),Q (.int (g i) s.toks) {s with toks:=s.toks+1}->wpAny (model X.prog X.w) X.A (f (.int i t)) Q E s) :
  UnR X f (rU λi=>.int (g i)):=by
 intro J0 s Y H x v Q I U h;have⟨i,rfl,q⟩:=h;have⟨t,rfl⟩:=U;exact O i t s _ _ ⟨.int (g i),H,I.tok _,⟨_,rfl⟩,q⟩
def BE:UnR X (unaryOp .USub) (rU λi=>.int (-i)):=unI λ_ _ _ _ _ q=>neg_int q
end
noncomputable def BF:V->V->Bool
 |.ek,.ek=>C|.ek,.int _=>C|.int _,.ek=>C|.ek,.bl _=>C|.bl _,.ek=>C|.ek,.str _=>C|.str _,.ek=>C
 |.int _,.int _=>C|.bl _,.bl _=>C|.str _,.str _=>C|.L4 _,.L4 _=>C
 |.int _,.str _=>C|.str _,.int _=>C|.bl _,.str _=>C|.str _,.bl _=>C
 |_,_=>ξ
def rEq:R2:=λx y H Q=>BF x y=C/\Q (.bl (decide (x=y))) H
def rNe:R2:=λx y H Q=>BF x y=C/\Q (.bl (!decide (x=y))) H
def oS{i j:Int}:decide (V.int i=V.int j)=(i==j):=by rw[RW];simp
def sZ{i j:Bool}:decide (V.bl i=V.bl j)=(i==j):=by rw[RW];simp
def oT{i j:Str}:decide (V.str i=V.str j)=(i==j):=by rw[RW];simp
def oU{i j:Array UInt8}:decide (V.L4 i=V.L4 j)=(i.toList==j.toList):=by rw[RW];cases i;cases j;simp
section
variable{X:Cx}{a b c:J8}{ta tb tc:TE}{pos:Pos}
def ao{s:pv}{Q:VK}{k k':Bool}(I:b7 X J0 Y H s)(q:Q (.bl k) H)(e:k=k'):EP X J0 Y Q (.bool k') s:=by subst e;exact⟨.bl k,H,I,rfl,q⟩
def Eu:HI X (JL .Eq) rEq:=by
 intro J0 s Y H x y v u Q I rx O h;have⟨U,q⟩:=h;cases x with
 |ek=>
  cases rx;cases y with
  |ek=>cases O;exact PySem.EqNone.eq_none_none (ao I q Ξ)
  |bl j=>cases O;exact PySem.EqNone.eq_none_bool (ao I q Ξ)
  |int j=>have⟨t',rfl⟩:=O;exact PySem.EqNone.eq_none_int (ao I q Ξ)
  |str j=>have⟨t',rfl⟩:=O;exact PySem.EqNone.eq_none_str (ao I q Ξ)
  |_=>exact absurd (show ξ=C from U) Ju
 |bl i=>
  cases rx;cases y with
  |ek=>cases O;exact PySem.EqNone.eq_bool_none (ao I q Ξ)
  |bl j=>cases O;exact eq_bool (ao I q sZ)
  |str j=>have⟨t',rfl⟩:=O;exact PySem.EqMixed.eq_bool_str (ao I q Ξ)
  |_=>exact absurd (show ξ=C from U) Ju
 |int i=>
  have⟨t,rfl⟩:=rx;cases y with
  |ek=>cases O;exact PySem.EqNone.eq_int_none (ao I q Ξ)
  |int j=>have⟨t',rfl⟩:=O;exact eq_int (ao I q oS)
  |str j=>have⟨t',rfl⟩:=O;exact PySem.EqMixed.eq_int_str (ao I q Ξ)
  |_=>exact absurd (show ξ=C from U) Ju
 |str i=>
  have⟨t,rfl⟩:=rx;cases y with
  |ek=>cases O;exact PySem.EqNone.eq_str_none (ao I q Ξ)
  |bl j=>cases O;exact PySem.EqMixed.eq_str_bool (ao I q Ξ)
  |int j=>have⟨t',rfl⟩:=O;exact PySem.EqMixed.eq_str_int (ao I q Ξ)
  |str j=>have⟨t',rfl⟩:=O;exact eq_str (ao I q oT)
  |_=>exact absurd (show ξ=C from U) Ju
 |L4 i=>
  have⟨t,rfl⟩:=rx;cases y with
  |L4 j=>have⟨t',rfl⟩:=O;exact PySem.W.eq_bytes (ao I q oU)
  |_=>exact absurd (show ξ=C from U) Ju
 |_=>cases y<;>exact absurd (show ξ=C from U) Ju
def Ev:HI X (JL .NotEq) rNe:=by
 intro J0 s Y H x y v u Q I rx O h;have⟨U,q⟩:=h;cases x with
 |ek=>
  cases rx;cases y with
  |ek=>cases O;exact PySem.EqNone.ne_none_none (ao I q Ξ)
  |bl j=>cases O;exact PySem.EqNone.ne_none_bool (ao I q Ξ)
  |int j=>have⟨t',rfl⟩:=O;exact PySem.EqNone.ne_none_int (ao I q Ξ)
  |str j=>have⟨t',rfl⟩:=O;exact PySem.EqNone.ne_none_str (ao I q Ξ)
  |_=>exact absurd (show ξ=C from U) Ju
 |bl i=>
  cases rx;cases y with
  |ek=>cases O;exact PySem.EqNone.ne_bool_none (ao I q Ξ)
  |bl j=>cases O;exact ne_bool (ao I q (congrArg not sZ))
  |str j=>have⟨t',rfl⟩:=O;exact PySem.EqMixed.ne_bool_str (ao I q Ξ)
  |_=>exact absurd (show ξ=C from U) Ju
 |int i=>
  have⟨t,rfl⟩:=rx;cases y with
  |ek=>cases O;exact PySem.EqNone.ne_int_none (ao I q Ξ)
  |int j=>have⟨t',rfl⟩:=O;exact ne_int (ao I q (congrArg not oS))
  |str j=>have⟨t',rfl⟩:=O;exact PySem.EqMixed.ne_int_str (ao I q Ξ)
  |_=>exact absurd (show ξ=C from U) Ju
 |str i=>
  have⟨t,rfl⟩:=rx;cases y with
  |ek=>cases O;exact PySem.EqNone.ne_str_none (ao I q Ξ)
  |bl j=>cases O;exact PySem.EqMixed.ne_str_bool (ao I q Ξ)
  |int j=>have⟨t',rfl⟩:=O;exact PySem.EqMixed.ne_str_int (ao I q Ξ)
  |str j=>have⟨t',rfl⟩:=O;exact ne_str (ao I q (congrArg not oT))
  |_=>exact absurd (show ξ=C from U) Ju
 |L4 i=>
  have⟨t,rfl⟩:=rx;cases y with
  |L4 j=>have⟨t',rfl⟩:=O;exact PySem.W.ne_bytes (ao I q (congrArg not oU))
  |_=>exact absurd (show ξ=C from U) Ju
 |_=>cases y<;>exact absurd (show ξ=C from U) Ju
def Ew:HI X (JL .Lt) (Na λi j=>.bl (decide (i<j))):=T2 λ_ _ _ _ _ _ _ q=>lt_int q
def Ex:HI X (JL .Gt) (Na λi j=>.bl (decide (j<i))):=T2 λ_ _ _ _ _ _ _ q=>gt_int q
def qL:HI X (JL .In) (λx y H Q=>∃i j,x=.str i/\y=.str j/\Q (.bl (!(ZS j i 0 j.length 1).isEmpty)) H):=by intro J0 s Y H x y v u Q I U O h;have⟨i,j,rfl,rfl,q⟩:=h;have⟨t,rfl⟩:=U;have⟨t',rfl⟩:=O;exact in_str (ao I q rfl)
def BG:HI X (JL .Is) (λx y H Q=>y=.ek/\Q (.bl (decide (x=.ek))) H):=by
 intro J0 s Y H x y v u Q I O U h;have⟨rfl,q⟩:=h;cases U;refine is_none_gen (ao I q ?_)
 cases x<;>first
  |(cases O;rfl)
  |(have⟨t,rfl⟩:=O;rfl)
def xH:HI X (JL .IsNot) (λx y H Q=>y=.ek/\Q (.bl (!decide (x=.ek))) H):=by
 intro J0 s Y H x y v u Q I O U h;have⟨rfl,q⟩:=h;cases U;refine isnot_none_gen (ao I q ?_)
 cases x<;>first
  |(cases O;rfl)
  |(have⟨t,rfl⟩:=O;rfl)
def HI.or{f:Value->Value->Sem Value}{W:R2}(h:HI X f r)(h':HI X f W):HI X f (λx y H Q=>r x y H Q\/W x y H Q):=by
 intro J0 s Y H x y v u Q I U O q;rcases q with q|q
 .exact h J0 s Y H x y v u Q I U O q
 .exact h' J0 s Y H x y v u Q I U O q
def xI{op:CmpOp}(O:HI X (JL op) r)(ha:PE X a ta)(hb:PE X b tb)(hm:Wt op b=ξ):PE X (.Compare a [op] [b] pos) (TZ r ta tb):=by intro J0 s Y H Q I h;exact wpAny_Compare1 (Bt ha hb I h λv u s2 x y H2 W rx U q=>O J0 s2 Y H2 x y v u Q W rx U q) hm
def Ey(t:TE):TT:=λY H Q=>t Y H λx H'=>∃k,x=.bl k/\Q k H'
def xJ{op:CmpOp}(U:HI X (JL op) r)(ha:PE X a ta)(hb:PE X b tb)(hm:Wt op b=ξ):PT X (.Compare a [op] [b] pos) (Ey (TZ r ta tb)):=by
 intro J0 s Y H Q I h
 refine wpAny_isTrue_Compare1 (Hw (ha J0 s Y H _ I h) λv s1 ⟨x,H1,W,r1,q1⟩=>Hw (hb J0 s1 Y H1 _ W q1) λu s2 ⟨y,H2,I2,r2,q2⟩=>Hw (U J0 s2 Y H2 x y v u _ I2 r1 r2 q2) λc s3 O=>?_) hm
 have⟨z,H3,I3,r3,k,e,q3⟩:=O;subst e;cases r3;exact ZD ⟨H3,I3,q3⟩
def BH(K:xA9)(x:V)(H:Hp)(k:Bool):Prop:=
 match x with
 |.ek=>k=ξ
 |.bl b=>k=b
 |.int i=>k=(i != 0)
 |.str y=>y.length<=G6/\k=((y.length:Int) != 0)
 |.L4 y=>y.size<=G6/\k=((y.size:Int) != 0)
 |.ref p=>(∃xs,Id K H p xs/\k=!xs.isEmpty)\/(∃xs,Im K H p xs/\k=!xs.isEmpty)\/∃J1,H p=Z (.dK J1)/\k=!J1.isEmpty
 |_=>False
def np{κ:Type}{J1:B (κ×V)}{vs:B (κ×Value)}(r:KV J1 vs):(!vs.isEmpty)=!J1.isEmpty:=by cases r<;>rfl
def g9{J3:B Value}(r:E3 xs J3):(!J3.toArray.isEmpty)=!xs.isEmpty:=by cases r<;>simp
def fG:(G6:Nat)<2^63:=by rw[Ih];decide
def BI:TruR X (λx H Q=>∃k,BH X.K x H k/\Q k H):=by
 intro J0 s Y H x v Q I rx h;have⟨k,e,q⟩:=h;have hl:=fG;have hs:G6=16777216:=Ih;cases x with
 |ek=>cases rx;have e':k=ξ:=e;subst e';exact truthy_none ⟨H,I,q⟩
 |bl b=>cases rx;have e':k=b:=e;subst e';exact ZD ⟨H,I,q⟩
 |int i=>have⟨t,rfl⟩:=rx;have e':k=(i != 0):=e;subst e';exact PySem.P.truthy_int ⟨H,I,q⟩
 |str y=>have⟨t,rfl⟩:=rx;obtain⟨hy,e'⟩:y.length<=G6/\k=((y.length:Int) != 0):=e;subst e';exact PySem.P.truthy_str Θ ⟨H,I.tok _,q⟩
 |L4 y=>have⟨t,rfl⟩:=rx;obtain⟨hy,e'⟩:y.size<=G6/\k=((y.size:Int) != 0):=e;subst e';exact PySem.W.truthy_bytes Θ ⟨H,I.tok _,q⟩
 |ref p=>
  cases rx;have e':(∃xs,Id X.K H p xs/\k=!xs.isEmpty)\/(∃xs,Im X.K H p xs/\k=!xs.isEmpty)\/∃J1,H p=Z (.dK J1)/\k=!J1.isEmpty:=e;rcases e' with ⟨xs,hx,e'⟩|⟨xs,hx,e'⟩|⟨J1,hx,e'⟩
  .subst e';have⟨J3,r,pl,hz⟩:=I.list hx;have hlen:=r.length;exact wpAny_truthy_list pl.isList (by rwa[JB];lia) ⟨H,I.tok _,by rw[g9 r];exact q⟩
  .subst e';have⟨J3,r,pl,hz⟩:=I.tuple hx;have hlen:=r.length;exact truthy_tuple pl (by rwa[JB];lia) ⟨H,I.tok _,by rw[g9 r];exact q⟩
  .subst e';obtain⟨hz,hS,vs,r,m⟩:J1.length<=G6/\(p==LC)=ξ/\∃vs,KV J1 vs/\s.heap.DictOf (am X.prog X.w) p vs:=I.Hb p _ hx;have hlen:J1.length=vs.length:=Paired.length r;exact wpAny_truthy_dict hS m Θ ⟨H,I.tok _,by rw[np r];exact q⟩
 |_=>exact(show False from e).elim
def tf (ha:PE X a ta) (he:∀ O,isTrue a X.env O=(do let v <- O;NU a.pos;LE [v] (truthy v))) :
  PT X a (λY H Q=>ta Y H λx H'=>∃k,BH X.K x H' k/\Q k H'):=by
 intro J0 s Y H Q I h;exact isTrue_plain (Hw (ha J0 s Y H _ I h) λv s1 U=>by have⟨x,H1,W,r1,q1⟩:=U;exact BI J0 s1 Y H1 x v Q W r1 q1) (he _)
def nr:HI X (KY .Add) (λx y H Q=>∃i j,x=.str i/\y=.str j/\i.length+j.length<=G6/\Q (.str (i++j)) H):=by intro J0 s Y H x y v u Q I U O h;have⟨i,j,rfl,rfl,hz,q⟩:=h;have⟨t,rfl⟩:=U;have⟨t',rfl⟩:=O;exact add_str (λt' W=>⟨.str (i++j),H,I.tok _,⟨_,rfl⟩,q⟩) hz
def dF{x:V}(r:E3 [x] us):∃u,us=[u]/\Da x u:=by
 cases r with
 |cons U O=>cases O;exact⟨_,rfl,U⟩
def tj{x:V}(r:E3 [x,y] us):∃u w',us=[u,w']/\Da x u/\Da y w':=by
 cases r with
 |cons W U=>
  cases U with
  |cons r3 O=>cases O;exact⟨_,_,rfl,W,r3⟩
def qM(hc:X.calm=C):Hx X (.builtin "max") (λxs H Q=>∃i j,xs=[.int i,.int j]/\Q (.int (if j > i then j else i)) H):=by
 intro J0 s Y H xs us Q I r h;have⟨i,j,rfl,q⟩:=h;have⟨u,U,rfl,⟨t,rfl⟩,⟨t',rfl⟩⟩:=tj r;refine max_two_ints (I.ok.hd hc) λh' W k=>⟨_,H,I.kept k,?_,q⟩
 by_cases O:j > i
 .rw[if_pos O,if_pos O];exact⟨_,rfl⟩
 .rw[if_neg O,if_neg O];exact⟨_,rfl⟩
def qN:Hx X (.type "int") (λxs H Q=>(∃i,xs=[.int i]/\Q (.int i) H)\/∃k,xs=[.bl k]/\Q (.int (if k then 1 else 0)) H):=by
 intro J0 s Y H xs us Q I r h;rcases h with ⟨i,rfl,q⟩|⟨k,rfl,q⟩
 .have⟨u,rfl,t,rfl⟩:=dF r;exact call_int_int ⟨.int i,H,I,⟨_,rfl⟩,q⟩
 .have⟨u,rfl,O⟩:=dF r;cases O;exact call_int_bool ⟨.int (if k then 1 else 0),H,I.tok _,⟨_,rfl⟩,q⟩
def T3(K:xA9)(x:V)(H:Hp)(n:Nat):Prop:=
 match x with
 |.str y=>y.length<=G6/\n=y.length
 |.L4 y=>y.size<=G6/\n=y.size
 |.ref p=>(∃xs,Id K H p xs/\n=xs.length)\/∃xs,Im K H p xs/\n=xs.length
 |_=>False
def tm:Hx X (.builtin "len") (λxs H Q=>∃x n,xs=[x]/\T3 X.K x H n/\Q (.int n) H):=by
 intro J0 s Y H xs us Q I r h;have⟨x,n,rfl,e,q⟩:=h;have⟨u,rfl,rx⟩:=dF r;have hl:=fG;have hs:G6=16777216:=Ih;cases x with
 |str y=>have⟨t,rfl⟩:=rx;obtain⟨hy,e'⟩:y.length<=G6/\n=y.length:=e;subst e';exact len_str Θ ⟨.int _,H,I.tok _,⟨_,rfl⟩,q⟩
 |L4 y=>have⟨t,rfl⟩:=rx;obtain⟨hy,e'⟩:y.size<=G6/\n=y.size:=e;subst e';exact PySem.W.len_bytes Θ ⟨.int _,H,I.tok _,⟨_,rfl⟩,q⟩
 |ref p=>
  cases rx;have e':(∃xs,Id X.K H p xs/\n=xs.length)\/∃xs,Im X.K H p xs/\n=xs.length:=e;rcases e' with ⟨xs,hx,e'⟩|⟨xs,hx,e'⟩
  .subst e';have⟨J3,r',pl,hz⟩:=I.list hx;have hlen:=r'.length;exact Calls.call_len_list pl.isList (by rwa[JB];lia) ⟨.int xs.length,H,I.tok _,⟨_,by rwa[JB];rw[hlen]⟩,q⟩
  .subst e';have⟨J3,r',pl,hz⟩:=I.tuple hx;have hlen:=r'.length;exact len_tuple pl (by rwa[JB];lia) ⟨.int xs.length,H,I.tok _,⟨_,by rwa[JB];rw[hlen]⟩,q⟩
 |_=>exact(show False from e).elim
end
structure Mp(h:Heap)(x dx θ:J4)(mA:Str->Option Value):Prop where
 obj:h.get? x=Z (xE9 θ dx)
 ns:h.Ns1 dx mA
 ne:dx≠x
variable{dx:J4}{mA:Str->ζ Value}
omit x in
def qO{h:Heap}(n:h.Ns1 dx mA):∃U,h.get? dx=Z U/\∀name,xK9 name U=Z (mA name):=by
 have⟨o,es,ep,ho,hd,hk,_,hm⟩:=n;refine⟨o,ho,λname=>?_⟩;have e:=hm name;unfold nsFind findBy at e;rw[<- Array.find?_toList]at e;unfold xK9;rw[hd];dsimp only;split
 .rename_i y q;rw[q]at e;exact congrArg Z e
 .rename_i q;rw[q]at e
  have a:es.toList.any (·.refKey)=ξ:=by rw[List.any_eq_false];intro y hy;have⟨z,t,O⟩:=hk y (Array.mem_toList_iff.mp hy);simp[Wz.refKey,O]
  have a':¬ es.toList.any (·.refKey)=C:=by rw[a];exact Ju
  rw[if_neg a'];exact congrArg Z e
variable{θ:J4}
def Mp.look{h:Heap}{x:J4}(I:Mp h x dx θ mA):∃O,PySem.W.InstAt h x (xE9 θ dx) θ (Z O)/\∀name,xK9 name O=Z (mA name):=
 let ⟨O,ho,hl⟩:=qO I.ns
 ⟨O,⟨I.obj,rfl,rfl,ho⟩,hl⟩
variable{pl:Sem Bool}{kw:B (Str×Value)}
section
variable{prog:Iz}{w:J5}{A:Jo}{E:Value->pv->Prop}{s:pv}{K:xA9}{x dx θ f:J4}{mA:Str->ζ Value}{name:Str}{v:Value}
def xK{O:Bool}(X:K.In s.heap)(I:Mp s.heap x dx θ mA)(hg:xI9 K θ name=C)(hh:xL9 K θ=C)
 (ha:xC9 K (.ref θ) name=Z J) (hv:mA name=Z v) (U:PySem.W.handedIn v=C) (h:Q v {s with toks:=s.toks+1}) :
  wpAny (model prog w) A (getAttr (.ref x) name O) Q E s:=by
 have⟨od,ψ,hl⟩:=I.look;exact PySem.W.get_value X ψ (xP9 hg).1 (PySem.W.findObj_own hh ha rfl (by rw[hl,hv])) U h
def tz{Q:Value×B Value->pv->Prop}(X:K.In s.heap)(I:Mp s.heap x dx θ mA)(O:xI9 K θ name=C)
 (hf:xC9 K (.ref θ) name=Z (Z (.ref f))) (ht:xJ9 K (.ref f)=C) (hv:mA name=J) (h:Q (.ref f,[.ref x]) s) :
  wpAny (model prog w) A (Qd (.ref x) name pl) Q E s:=by
 have⟨U,ψ,hl⟩:=I.look;exact PySem.W.method_fn X ψ (xP9 O).1 (xP9 O).2 hf (beq_iff_eq.mp ht) (by show(xK9 name U).map (·.isSome)=Z ξ;rw[hl,hv];rfl) h
def xL {ns:B Str} {Q:Unit->pv->Prop} (X:K.In s.heap) (I:Mp s.heap x dx θ mA)
  (hs:xC9 K (.ref θ) "__setattr__"=Z (Z (.builtin "object.__setattr__"))) (hp:xQ9 K θ=C) (ht:xR9 K θ name=Z J) (hh:xL9 K θ=C)
  (hw:PySem.Within mA ns) (hsz:ns.length<=G6)
  (h:∀h',Mp h' x dx θ (λy=>if y=name then Z v else mA y)->L3 dx s.heap h'->Q () {s with heap:=h',toks:=s.toks+2}) :
  wpAny (model prog w) A (setAttr (.ref x) name v) Q E s:=by
 have⟨od,ψ,hl⟩:=I.look;refine PySem.W.set_plain X ψ hs (PySem.W.osa_open (s:={s with toks:=s.toks+1}) (r:=J) X ψ hp ht λb=>?_);have⟨cd,hc,T4⟩:=PySem.W.any_some hh;have hx:s.heap.get? x=Z ⟨.ref θ,Z dx,.plain,#[]⟩:=I.obj;refine wB (Hf (wB (wB (wpAny_loadPart hx (wB (PySem.W.Looks.here (s:={s with toks:=s.toks+1}) (PySem.W.looks_clsIn X hc) ?_))))));rw[T4];refine Hf (a:=Z dx) (wB (Hf (wB ?_)));refine wpAny_nsSet1 (s:={s with toks:=s.toks+1}) I.ns λh' O U=>?_
 have⟨oD,esD,epD,hoD,hdD,hcD⟩:=O.count (PySem.Within.cons name v hw);refine wB (wpAny_lookBehind hoD (by rw[hdD];exact pastItsLine_dict (JS hcD (by rw[JK];lia))) ?_);exact Hf (h _ ⟨(U.2 _ (JQ I.ne)).trans I.obj,O,I.ne⟩ U)
def tB{R:Result->pv->Prop}{vs:B Value}(X:K.In s.heap)(U:xS9 K θ=C)
 (hi:xC9 K (.ref θ) "__init__"=Z (Z (.ref f))) (hf:PySem.W.typeIn K (.ref f)=Z (.type "function"))
 (h:NC (model prog w) (A.under (.builtin "type.__call__" ⟨.ref θ::vs,kw⟩)) (.call (.ref f) ⟨.ref (s.heap.objs.size+1)::vs,kw⟩) (PySem.W.InitBack (s.heap.objs.size+1) R)
 {s with heap:=(s.heap.push xD9).push (xE9 θ s.heap.objs.size)}) :
  NC (model prog w) A (.call (.ref θ) ⟨vs,kw⟩) R s:=by
 have⟨hh,g,d,t,os⟩:=s;exact PySem.W.make_core (PySem.W.makes_of X U) (PySem.W.looks_findIn X hi) (λO=>PySem.W.bind_fn X O hf) (.inl rfl) h
end
noncomputable def bp(f:Str)(v:V):B (Str×V)->B (Str×V)
 |[]=>[(f,v)]
 |(g,x)::r=>if g=f then(g,v)::r else(g,x)::bp f v r
theorem gf(f g:Str)(v:V):∀fs:B (Str×V),(bp f v fs).lookup g=if g=f then Z v else fs.lookup g
 |[]=>by
  show Nz g [(f,v)]=_;by_cases h:g=f
  .have hb:(g==f)=C:=beq_iff_eq.mpr h;rwa[Nz,hb,if_pos h]
  .have hb:(g==f)=ξ:=beq_eq_false_iff_ne.mpr h;rwa[Nz,hb,if_neg h]
 |(k,x)::r=>by
  have U:=gf f g v r;rw[show bp f v ((k,x)::r)=(if k=f then(k,v)::r else(k,x)::bp f v r)from rfl];by_cases O:k=f
  .rw[if_pos O];by_cases h:g=k
   .have hb:(g==k)=C:=beq_iff_eq.mpr h;rwa[Nz,hb,if_pos (h.trans O)]
   .have hb:(g==k)=ξ:=beq_eq_false_iff_ne.mpr h;rwa[Nz,hb,if_neg (λe:g=f=>h (e.trans O.symm))]
  .rw[if_neg O];by_cases h:g=k
   .have hb:(g==k)=C:=beq_iff_eq.mpr h;rwa[Nz,hb,if_neg (λe:g=f=>O (h.symm.trans e))]
   .have hb:(g==k)=ξ:=beq_eq_false_iff_ne.mpr h;rwa[Nz,hb];exact U
theorem fH(f:Str)(v:V):∀fs:B (Str×V),f∈(bp f v fs).map (·.1)/\∀g,g∈fs.map (·.1)->g∈(bp f v fs).map (·.1)
 |[]=>⟨by simp[bp],λg h=>by simp at h⟩
 |(k,x)::r=>by
  have⟨W,U⟩:=fH f v r;rw[show bp f v ((k,x)::r)=(if k=f then(k,v)::r else(k,x)::bp f v r)from rfl];by_cases O:k=f
  .rw[if_pos O];subst O;exact⟨Ξ,λg h=>‹h›⟩
  .rw[if_neg O];refine⟨?_,λg h=>?_⟩
   .rw[Hz];exact Oz _ W
   .rw[Hz]at h ⊢;rcases IE.mp h with e|e
    .exact IE.mpr (.inl e)
    .exact Oz _ (U g e)
theorem gi(f:Str)(v:V):∀fs:B (Str×V),(bp f v fs).length<=fs.length+1
 |[]=>by simp[bp]
 |(k,x)::r=>by
  have U:=gi f v r;rw[show bp f v ((k,x)::r)=(if k=f then(k,v)::r else(k,x)::bp f v r)from rfl];by_cases O:k=f
  .rw[if_pos O,JK,JK];lia
  .rw[if_neg O,JK,JK];lia
def IW.some_of{v:V}{o:ζ Value}(r:IW (Z v) o):∃u,o=Z u/\Da v u:=by
 cases o with
 |none=>exact(show False from r).elim
 |some u=>exact⟨u,rfl,r⟩
def IW.none_of{o:ζ Value}(r:IW J o):o=J:=by
 cases o with
 |none=>rfl
 |some u=>exact(show False from r).elim
def qQ{v:V}(r:Da v u):PySem.W.handedIn u=C:=by
 cases v with
 |ek=>cases (show u=Kl from r);rfl
 |bl b=>cases (show u=Qf b from r);rfl
 |int i=>have⟨t,e⟩:=(show ∃t,u=Tz i t from r);cases e;rfl
 |str x=>have⟨t,e⟩:=(show ∃t,u=TB x t from r);cases e;rfl
 |L4 b=>have⟨t,e⟩:=(show ∃t,u=Value.bytes b t from r);cases e;rfl
 |QW b=>have⟨t,e⟩:=(show ∃t,u=Value.float b t from r);cases e;rfl
 |ref a=>cases (show u=HH a from r);rfl
 |ty n=>cases (show u=OH n from r);rfl
section
variable{P:Iz}{w:J5}{H H':Hp}{h h':Heap}{a θ dx:J4}{fs Sk:B (Str×V)}
def gy(O:Jw P w H h)(e:H a=Z (.ins θ dx fs)):∃mA,Mp h a dx θ mA/\(∀f,IW (fs.lookup f) (mA f))/\PySem.Within mA (fs.map (·.1))/\fs.length<=1000/\H dx=Z (.own a):=by have⟨d,z,U,ob,mA,n,r,q⟩:=(show Hc P w H h a (.ins θ dx fs)from O a _ e);exact⟨mA,⟨ob,n,U⟩,r,q,z,d⟩
end
structure Mq(K:xA9)(θ:J4):Prop where
 pg:xI9 K θ Str.empty=C
 hd:xL9 K θ=C
 po:xQ9 K θ=C
 sa:xC9 K (.ref θ) "__setattr__"=Z (Z (.builtin "object.__setattr__"))
def Mq.get(c:Mq K θ)(f:Str):xI9 K θ f=C:=c.pg
def IL(K:xA9)(θ:J4)(f:Str):Prop:=xC9 K (.ref θ) f=Z J
def IL.T5{f:Str}(n:IL K θ f):xR9 K θ f=Z J:=by unfold xR9;rw[show xC9 K (.ref θ) f=Z J from n];rfl
structure NZ(K:xA9)(θ:J4)(m:Str)(f:J4):Prop where
 at_:xC9 K (.ref θ) m=Z (Z (.ref f))
 fn:xJ9 K (.ref f)=C
 kp:xG9 K (.ref f)=C
variable{m:Str}
section
variable{X:Cx}{J0:B (J4×Obj)}{Y:St}{H:Hp}{s:pv}{a θ dx:J4}{fs:B (Str×V)}{f:Str}{v:V}{A:Jo}{E:Value->pv->Prop}
def hJ{b:Bool}(I:b7 X J0 Y H s)(e:H a=Z (.ins θ dx fs))(c:Mq X.K θ)(n:IL X.K θ f)(l:fs.lookup f=Z v)
 (h:∀u s',b7 X J0 Y H s'->Da v u->Q u s'):wpAny (model X.prog X.w) A (getAttr (.ref a) f b) Q E s:=by
 have⟨mA,O,r,_,_,_⟩:=gy I.Hb e;have⟨u,W,U⟩:=IW.some_of (v:=v) (o:=mA f) (by rw[<- l];exact r f);exact xK I.Js O (c.get f) c.hd n W (qQ U) (h u _ (I.tok _) U)
def dJ{g:J4}{Q:Value×B Value->pv->Prop}(I:b7 X J0 Y H s)(e:H a=Z (.ins θ dx fs))(c:Mq X.K θ)(k:NZ X.K θ m g)(l:fs.lookup m=J)
 (h:Q (.ref g,[.ref a]) s):wpAny (model X.prog X.w) A (Qd (.ref a) m pl) Q E s:=by
 have⟨mA,O,r,_,_,_⟩:=gy I.Hb e;have U:mA m=J:=IW.none_of (by rw[<- l];exact r m);exact tz I.Js O (c.get m) k.at_ k.fn U h
def hU{Q:Unit->pv->Prop}(I:b7 X J0 Y H s)(e:H a=Z (.ins θ dx fs))(c:Mq X.K θ)(n:IL X.K θ f)(hl:fs.length<1000)(ry:Da y u)
 (h:∀s',b7 X J0 Y (upd H a (.ins θ dx (bp f y fs))) s'->Q () s'):wpAny (model X.prog X.w) A (setAttr (.ref a) f u) Q E s:=by
 have⟨mA,O,r,wi,_,W⟩:=gy I.Hb e;have hz:(fs.map (·.1)).length<=G6:=by rw[HN,Ih];lia
 refine xL I.Js O c.sa c.po n.T5 c.hd wi hz λh' U sb=>h _ ?_
 have hd:∃o,h'.get? dx=Z o:=let ⟨o,_,_,e',_⟩:=U.ns;⟨o,e'⟩;refine I.write (x:=a) (e:=dx) (by rw[e];exact M5) (.inr W) (λb q hb z=>(sb.2 b hb).trans z) hd ?_;refine⟨by rw[aa O.ne];exact W,?_,O.ne,U.obj,_,U.ns,λg=>?_,λg hg=>?_⟩
 .have:=gi f y fs;lia
 .show IW ((bp f y fs).lookup g) (if g=f then Z u else mA g);rw[gf];by_cases q:g=f
  .rw[if_pos q,if_pos q];exact ry
  .rw[if_neg q,if_neg q];exact r g
 .by_cases q:g=f
  .rw[q];exact(fH f y fs).1
  .refine(fH f y fs).2 g (wi g λz=>hg ?_);show(if g=f then Z u else mA g)=J;rw[if_neg q];exact z
def b7.made (I:b7 X J0 Y H s):b7 X J0 Y (upd (upd H s.heap.objs.size (.own (s.heap.objs.size+1))) (s.heap.objs.size+1) (.ins θ s.heap.objs.size []))
  {s with heap:=(s.heap.push xD9).push (xE9 θ s.heap.objs.size)}:=by
 have U:(s.heap.push xD9).get? s.heap.objs.size=Z xD9:=JW s.heap rfl
 have e2:((s.heap.push xD9).push (xE9 θ s.heap.objs.size)).get? (s.heap.objs.size+1)=Z (xE9 θ s.heap.objs.size):=by
  have:=JW (s.heap.push xD9) (o:=xE9 θ s.heap.objs.size) rfl
  rw[QS]at this;assumption
 have e3:(s.heap.push xD9).Ns s.heap.objs.size (λ_=>J):=⟨xD9,#[],_,U,rfl,(λe he=>absurd he Ξ),λ_=>rfl⟩;have I1:=I.laid (a:=s.heap.objs.size) (o:=.own (s.heap.objs.size+1)) (h':=s.heap.push xD9) (t':=s.toks) (λb u q=>gP _ q) (nL _) ⟨_,U⟩;refine I1.laid (a:=s.heap.objs.size+1) (o:=.ins θ s.heap.objs.size []) (t':=s.toks) (λb u q=>gP _ q) (Nat.le_of_eq (QS _ _)) ?_;have O:s.heap.objs.size≠s.heap.objs.size+1:=IS (V9 _);refine⟨by rw[aa O,ac],Ml _,O,e2,λ_=>J,(Heap.Ns1.of_empty e3).at λo q=>gP _ q,λ_=>M5,λy hy=>absurd rfl hy⟩
def xM{prog:Iz}{w:J5}{env:Env}{f:Str}{s:pv}(hb:NQ e f env (eval e env)=eval e env)
 (h:wpAny (model prog w) A (eval e env) (λo O=>wpAny (model prog w) A (getAttr o f C) Q E O) E s):wpAny (model prog w) A (eval (.Attribute e f pos) env) Q E s:=
 Attribute_any_ h (by rw[arm_eval_Attribute,hb])
end
def tFld(K:xA9)(ta:TE)(f:Str):TE:=λY H Q=>ta Y H λx H1=>∃a θ dx fs v,x=.ref a/\H1 a=Z (.ins θ dx fs)/\Mq K θ/\IL K θ f/\fs.lookup f=Z v/\Q v H1
def sFld(K:xA9)(ta tv:TE)(f:Str):TS:=λδ Y H=>tv Y H λy H1=>ta Y H1 λx H2=>∃a θ dx fs,x=.ref a/\H2 a=Z (.ins θ dx fs)/\Mq K θ/\IL K θ f/\fs.length<1000∧δ.nx Y (upd H2 a (.ins θ dx (bp f y fs)))
def T6(X:Cx)(op:NB)(rd:V->V->Hp->VK->Prop):Prop:=∀(J0:B (J4×Obj))(s:pv)(Y:St)(H:Hp)(x y:V)(u v:Value)(Q:VK),b7 X J0 Y H s->Da x u->Da y v->rd x y H Q->wpAny (model X.prog X.w) X.A (inplaceOp op u v) (EP X J0 Y Q) X.xe s
def xN(K:xA9)(ta tv:TE)(rd:V->V->Hp->VK->Prop)(f:Str):TS:=λδ Y H=>ta Y H λx H1=>∃a θ dx fs v,x=.ref a/\H1 a=Z (.ins θ dx fs)/\Mq K θ/\IL K θ f/\fs.lookup f=Z v∧tv Y H1 λy H2=>rd v y H2 λz U=>∃O Sk,U a=Z (.ins θ O Sk)/\Sk.length<1000/\δ.nx Y (upd U a (.ins θ O (bp f z Sk)))
section
variable{X:Cx}{o e value:J8}{f:Str}{pos pos' LL:Pos}{ta tv:TE}
def BJ(he:PE X e ta)(hb:NQ e f X.env (eval e X.env)=eval e X.env):PE X (.Attribute e f pos) (tFld X.K ta f):=by intro J0 s Y H Q I h;refine xM hb (Hw (he J0 s Y H _ I h) λu s1 O=>?_);have⟨x,H1,U,W,a,θ,dx,fs,v,ex,ea,c,n,l,q⟩:=O;subst ex;obtain rfl:u=HH a:=W;exact hJ U ea c n l λu' s2 I2 ru=>⟨v,H1,I2,ru,q⟩
theorem BK(ha:PE X o ta)(hv:PE X value tv)(hs:LD value (Z (.Attribute o f pos')) pos.line X.env=pure ξ):PS X (.Assign [.Attribute o f pos'] value pos) (sFld X.K ta tv f):=by intro J0 s Y H δ I h;refine plainObj_wpAny_Assign_Attribute (Hw (hv J0 s Y H _ I h) λu s1 ⟨y,H1,U,ry,q⟩=>Hw (ha J0 s1 Y H1 _ U q) λov s2 O=>?_) hs;have⟨x,H2,I2,W,a,θ,dx,fs,ex,ea,c,n,l,q2⟩:=O;subst ex;obtain rfl:ov=HH a:=W;exact hU I2 ea c n l ry λs3 I3=>⟨Y,_,I3,q2⟩
def qR{op:NB}{rd:V->V->Hp->VK->Prop}(ha:PE X o ta)(hv:PE X value tv)(W:T6 X op rd):PS X (.AugAssign (.Attribute o f LL) op value pos) (xN X.K ta tv rd f):=by
 intro J0 s Y H δ I h;refine wpAny_AugAssign_AttributeAny (Hw (ha J0 s Y H _ I h) λov s1 O=>?_);have⟨x,H1,I1,rx,a,θ,dx,fs,v,ex,ea,c,n,l,q⟩:=O;subst ex;obtain rfl:ov=HH a:=rx;refine hJ I1 ea c n l λu s2 I2 ru=>Hw (hv J0 s2 Y H1 _ I2 q) λw3 s3 ⟨y,H2,I3,ry,q3⟩=>Hw (W J0 s3 Y H2 v y u w3 _ I3 ru ry q3) λw4 s4 U=>?_
 have⟨z,H3,I4,rz,dx',Sk,ea',l',q4⟩:=U;exact hU I4 ea' c n l' rz λs5 I5=>⟨Y,_,I5,q4⟩
def z8{pl:Sem Bool}{apos:Pos}{args:B J8}{s:pv}(he:PE X e te)(I:b7 X J0 Y H s)
 (h:te Y H λx H1=>∃a θ dx fs g,x=.ref a/\H1 a=Z (.ins θ dx fs)/\Mq X.K θ/\NZ X.K θ m g/\fs.lookup m=J∧
 ∀s1,b7 X J0 Y H1 s1->wpAny (model X.prog X.w) X.A (QP pos (.ref g) [.ref a] (IK pos (Hn args X.env)) (MO pos (MN [] X.env))) Q X.xe s1)
 (ht:eval (.Call (.Attribute e m apos) args [] pos) X.env=(do
 let ov <- eval e X.env
 NU apos.atName
 let (f,first) <- LE [ov] (Qd ov m pl)
 QP pos f first (IK pos (Hn args X.env)) (MO pos (MN [] X.env)))) :
  wpAny (model X.prog X.w) X.A (eval (.Call (.Attribute e m apos) args [] pos) X.env) Q X.xe s:=by
 refine xT9 (pl:=pl) (Hw (he J0 s Y H _ I h) λu s1 O=>?_) ht;have⟨x,H1,U,rx,a,θ,dx,fs,g,ex,ea,c,k,l,q⟩:=O;subst ex;obtain rfl:u=HH a:=rx;exact dJ U ea c k l (q s1 U)
end
section
variable{X:Cx}{J0:B (J4×Obj)}{Y:St}{H:Hp}{s:pv}{A:Jo}{E Q:Value->pv->Prop}{c:Value}{b:Bool}
inductive JY(K:xA9)(H:Hp):V->Value->Prop where
 |ek:JY K H .ek (.type "NoneType")
 |bl (x:Bool):JY K H (.bl x) (.type "bool")
 |int (i:Int):JY K H (.int i) (.type "int")
 |str (x:Str):JY K H (.str x) (.type "str")
 |QW (x:UInt64):JY K H (.QW x) (.type "float")
 |e {a:J4} {xs:List V} (e:H a=Z (.e xs)):JY K H (.ref a) (.type "list")
 |Iq {a:J4} {o:Obj} {xs:List V} (e:H a=Z (.Iq o (.e xs))):JY K H (.ref a) (.type "list")
 |t {a:J4} {xs:List V} (e:H a=Z (.t xs)):JY K H (.ref a) (.type "tuple")
 |dK {a:J4} {J1:List (rb×V)} (e:H a=Z (.dK J1)):JY K H (.ref a) (.type "dict")
 |dT {a:J4} {J1:List (List rb×V)} (e:H a=Z (.dT J1)):JY K H (.ref a) (.type "dict")
 | ins {a θ dx:J4} {fs:List (Str×V)} (e:H a=Z (.ins θ dx fs)) (cl:Mq K θ) (ha:xC9 K (.ref θ) "__class__"=Z (Z (.builtin "object.__class__")))
     (hn:PySem.W.specialIn K (.builtin "object.__class__") "__get__"=Z (Z (.builtin "getset_descriptor.__get__"))) (htk:PySem.W.takesIn K (.builtin "object.__class__")=Z C)
     (hm:PySem.W.mroIn K θ (.type "object")=Z C):JY K H (.ref a) (.ref θ)
def dz {x:V} {t:Value} (I:b7 X J0 Y H s) (U:Da x u) (ty:JY X.K H x t) (e:xH9 X.K t c=Z b) (h:∀ tk,Q (.bool b) {s with toks:=tk}) :
  wpAny (model X.prog X.w) A (call (.builtin "isinstance") [u,c]) Q E s:=by
 cases ty with
 |ek=>cases (show u=Kl from U);exact xB9 PySem.W.kitx_none I.Js M5 e (λz=>nomatch z) h
 |bl y=>cases (show u=Qf y from U);exact xB9 PySem.W.kitx_bool I.Js M5 e (λz=>nomatch z) h
 |int i=>have⟨t,q⟩:=(show ∃t,u=Tz i t from U);cases q;exact xB9 PySem.W.kitx_int I.Js M5 e (λz=>nomatch z) h
 |str y=>have⟨t,q⟩:=(show ∃t,u=TB y t from U);cases q;exact xB9 PySem.W.kitx_str I.Js M5 e (λz=>nomatch z) h
 |QW y=>have⟨t,q⟩:=(show ∃t,u=Value.float y t from U);cases q;exact xB9 PySem.W.kitx_float I.Js M5 e (λz=>nomatch z) h
 |@e a xs ea=>cases (show u=HH a from U);have⟨_,_,n,_,h1⟩:=(show Hc X.prog X.w H s.heap a (.e xs)from I.Hb a _ ea);exact xB9 xU9 I.Js ⟨_,h1,rfl⟩ e (λz=>nomatch z) h
 |@Iq a ob xs ea=>cases (show u=HH a from U);have⟨_,_,_,n,_,h1⟩:=(show Hc X.prog X.w H s.heap a (.Iq ob (.e xs))from I.Hb a _ ea);exact xB9 xU9 I.Js ⟨_,h1,rfl⟩ e (λz=>nomatch z) h
 |@t a xs ea=>cases (show u=HH a from U);have⟨_,_,_,p⟩:=(show Hc X.prog X.w H s.heap a (.t xs)from I.Hb a _ ea);have⟨o,h1,h2,_⟩:=p.1;exact xB9 PySem.W.kitx_tuple I.Js ⟨o,h1,h2⟩ e (λz=>nomatch z) h
 |@dK a J1 ea=>cases (show u=HH a from U);have⟨_,_,vs,_,p⟩:=(show Hc X.prog X.w H s.heap a (.dK J1)from I.Hb a _ ea);have⟨o,es,ep,h1,h2,_⟩:=p;exact xB9 xM9 I.Js ⟨o,h1,h2.1⟩ e (λz=>nomatch z) h
 |@dT a J1 ea=>cases (show u=HH a from U);have⟨_,_,xs,_,o,es,ep,h1,h2,_⟩:=(show Hc X.prog X.w H s.heap a (.dT J1)from I.Hb a _ ea);exact xB9 xM9 I.Js ⟨o,h1,h2.1⟩ e (λz=>nomatch z) h
 |@ins a θ dx fs ea cl ha hn htk hm=>cases (show u=HH a from U);have⟨mA,O,_⟩:=gy I.Hb ea;have⟨od,ψ,_⟩:=O.look;exact xB9 (PySem.W.kitx_own (cl.get _) cl.hd ha hn htk hm) I.Js ψ e (λz=>nomatch z) h
end
structure Hg(k:Nat)(A:Jo):Prop where
 hd:A.handled=J
 dp:A.depth+3*k+5<recursionLimit
 un:A.units+16*k+200<cLine
def Hg.mono{k:Nat}(r:Hg k A)(h:j<=k):Hg j A:=⟨r.hd,by have:=r.dp;lia,by have:=r.un;lia⟩
def Hg.deeper{k:Nat}(r:Hg (k+1) A)(env:Env):Hg k (A.deeper env):=⟨r.hd,by have:=r.dp;show A.depth+1+3*k+5<_;lia,by have:=r.un;show A.units+3+16*k+200<_;lia⟩
def nu:(A.under (.builtin "type.__call__" ⟨.ref θ::us,kw⟩)).depth=A.depth+1:=by first|rfl|simp[ZN,Code.weight,Code.isCreation,Code.isGuard,Code.isCaller,Code.frames,ZV,guardIds]
def nv:(A.under (.builtin "type.__call__" ⟨.ref θ::us,kw⟩)).units=A.units+1:=by first|rfl|simp[ZN,Code.cUnits,Code.frames,ZV]
def Hg.make{k:Nat}(r:Hg (k+1) A)(θ:J4)(us:B Value)(kw:B (Str×Value)):Hg k (A.under (.builtin "type.__call__" ⟨.ref θ::us,kw⟩)):=⟨r.hd,by have:=r.dp;rw[nu];lia,by have:=r.un;rw[nv];lia⟩
def Hg.depth{k:Nat}(r:Hg k A):A.depth<recursionLimit:=by have:=r.dp;lia
def Hg.units{k:Nat}(r:Hg k A):A.units+64<cLine:=by have:=r.un;lia
def ny:TA:=λ_ H Q=>Q [] H
def Ez(ta:TE)(tr:TA):TA:=λY H Q=>ta Y H λx H1=>tr Y H1 λxs H2=>Q (x::xs) H2
section
variable{X:Cx}{e:J8}{es:B J8}{te:TE}{t:TA}{pos:Pos}
def cC:Ij X [] ny:=λ_ _ _ _ H Q I h=>Calls.spliced_nil ⟨[],H,I,.nil,h⟩
theorem bo(ha:PE X e te)(hr:Ij X es t)(hs:Hn (e::es) X.env=(ξ,eval e X.env)::Hn es X.env:=by rfl):Ij X (e::es) (Ez te t):=by intro pos J0 s Y H Q I h;rw[hs];show wpAny _ _ (spliced ((ξ,eval e X.env)::IK pos (Hn es X.env))) _ _ s;refine ZU (Hw (ha J0 s Y H _ I h) λu s1 U=>?_);have⟨x,H1,W,r1,q1⟩:=U;exact Hw (hr pos J0 s1 Y H1 _ W q1) λus s2 O=>by have⟨xs,H2,I2,r2,q2⟩:=O;exact⟨x::xs,H2,I2,.cons r1 r2,q2⟩
def tTup(t:TA):TE:=λY H Q=>t Y H λxs H1=>xs.length<=G6/\∀p,H1 p=J->Q (.ref p) (upd H1 p (.t xs))
def tLst(t:TA):TE:=λY H Q=>t Y H λxs H1=>xs.length<=G6/\∀p,H1 p=J->Q (.ref p) (upd H1 p (.e xs))
theorem BL{x1}(h:Ij X es t):PE X (.Tuple es x1 pos) (tTup t):=by intro J0 s Y H Q I U;refine wpAny_Tuple_spliced (Hw (h pos J0 s Y H _ I U) λus s1 ⟨xs,H1,O,r,z,q⟩=>⟨by rw[<- r.length];exact z,?_⟩);have W:H1 s1.heap.objs.size=J:=O.Hb.fresh (nL _);refine⟨.ref s1.heap.objs.size,upd H1 s1.heap.objs.size (.t xs),O.laid (t':=s1.toks) (λb u e=>gP _ e) (nL _) ?_,rfl,q _ W⟩;exact⟨z,us,r,.new _ _⟩
def BM(h:Ij X es t):PE X (.List es pos) (tLst t):=by intro J0 s Y H Q I U;refine wpAny_List_spliced (Hw (h pos J0 s Y H _ I U) λus s1 ⟨xs,H1,O,r,z,q⟩=>⟨by rw[<- r.length];exact z,?_⟩);have W:H1 s1.heap.objs.size=J:=O.Hb.fresh (nL _);refine⟨.ref s1.heap.objs.size,upd H1 s1.heap.objs.size (.e xs),O.laid (t':=s1.toks) (λb u e=>gP _ e) (nL _) ?_,rfl,q _ W⟩;exact⟨z,us,0,r,JW _ rfl⟩
end
abbrev Sp:=B V->Hp->VK->XK->Prop
abbrev Pk:=B Env->Hp->pv->XK->Value->pv->Prop
structure Mr(P:Iz)(w:J5)(K:xA9)(mg:Str->Option Value)(base:Heap)(A:Jo)(outer:List Env)(s:pv)(H:Hp):Prop where
 frames:A.frames=Z outer
 mod:Mod K mg base
 bs:∀b o,base.get? b=Z o->s.heap.get? b=Z o/\H b=J
 OJ:base.objs.size<=s.heap.objs.size
 JX:s.heap.FunFrames base outer
 QY:∀b∈ND outer,H b=J
 Hb:Jw P w H s.heap
 bare:Pd s.gens
 tb:∀p∈l5 K,H p.1=Z (.Lh p.2)
def CE(outer:B Env)(P:Iz)(w:J5)(H:Hp)(s:pv)(Q:VK)(u:Value)(s':pv):Prop:=∃v H',s'.os=s.os/\Pd s'.gens/\Un (ND outer) [] H H' s.heap s'.heap/\Jw P w H' s'.heap/\Da v u/\Q v H'
def CR(CX:Pk)(outer:B Env)(P:Iz)(w:J5)(H:Hp)(s:pv)(Q:VK)(E:XK)(r:Result)(s':pv):Prop:=
 match r with
 |.ok (.ret u)=>CE outer P w H s Q u s'
 |.ok _=>False
 |.error e=>CX outer H s E e s'
structure Iu(P:Iz)(w:J5)(K:xA9)(mg:Str->Option Value)(base:Heap)(CX:Pk)(k:Nat)(f:J4)(fd:NS)(ps:List Str)(sp:Sp):Prop where
 len:∀vs H Q E,sp vs H Q E->vs.length=ps.length
 run:∀(A:Jo)(outer:List Env)(s:pv)(H:Hp)(args:Args)(us:List Value)(vs:List V)(Q:VK)(E:XK),Hg k A->Mr P w K mg base A outer s H->BindsTo s fd args (ps.zip us)->E3 vs us->sp vs H Q E→
  NC (model P w) A (.call (.ref f) args) (CR CX outer P w H s Q E) s
variable{mg:Str->ζ Value}{base:Heap}{CX:Pk}{fd:NS}{ps:B Str}{sp:Sp}
def Iu.mono {w:J5} {k:Nat} {f:J4} (F:Iu P w K mg base CX j f fd ps sp) (h:j<=k) :
  Iu P w K mg base CX k f fd ps sp:=⟨F.len,λA outer s H args us vs Q E O=>F.run A outer s H args us vs Q E (O.mono h)⟩
def Iu.imp{w:J5}{k:Nat}{f:J4}{O:Sp}(F:Iu P w K mg base CX k f fd ps sp)
 (h:∀vs H Q E,O vs H Q E->sp vs H Q E):Iu P w K mg base CX k f fd ps O:=
 ⟨λvs H Q E q=>F.len vs H Q E (h _ _ _ _ q),λA outer s H args us vs Q E W he hb hv U=>F.run A outer s H args us vs Q E W he hb hv (h _ _ _ _ U)⟩
variable{outer:B Env}
def Mr.make {w:J5} {s:pv} (e:Mr P w K mg base A outer s H) (θ:J4) (us:B Value) (kw:B (Str×Value)) :
  Mr P w K mg base (A.under (.builtin "type.__call__" ⟨.ref θ::us,kw⟩)) outer s H:=⟨by first|exact e.frames|(simpa[ZN,Code.envs,ZV,pushEnvs] using e.frames),e.mod,e.bs,e.OJ,e.JX,e.QY,e.Hb,e.bare,e.tb⟩
section
variable{X:Cx}{J0:B (J4×Obj)}{Y:St}{H:Hp}{s s':pv}
def b7.T7(I:b7 X J0 Y H s):Mr X.prog X.w X.K X.mg X.base X.A X.stack s H:=⟨I.ok.frames,I.ok.mod,I.bs,JS I.ok.OJ I.sz,I.stack,I.MS,I.Hb,I.bare,λp hp=>I.base.NW _ _ (I.ok.tb p hp)⟩
def b7.after{Q:VK}(I:b7 X J0 Y H s)(h:CE X.stack X.prog X.w H s Q u s'):EP X J0 Y Q u s':=by have⟨v,H',os,O,un,U,r,q⟩:=h;have⟨W,g,d,t,Qm⟩:=s';obtain rfl:Qm=s.os:=os;exact⟨v,H',I.call (h':=W) (g':=g) (d':=d) (t':=t) (ch:=[]) un U O (λb z=>absurd z Ξ),r,q⟩
end
def ji(sp:Sp)(JZ:B V)(E:XK)(t:TA):TE:=λY H Q=>t Y H λvs H1=>sp (vs++JZ) H1 Q E
def tD(θ:J4)(m:Str)(sp:Sp)(JZ:B V)(E:XK)(ta:TE)(t:TA):TE:=λY H Q=>ta Y H λx H1=>∃a dx fs,x=.ref a/\H1 a=Z (.ins θ dx fs)/\fs.lookup m=J∧t Y H1 λvs H2=>sp (x::(vs++JZ)) H2 Q E
def tE(θ:J4)(sp:Sp)(JZ:B V)(E:XK)(t:TA):TE:=λY H Q=>t Y H λvs H1=>∀x dx,H1 x=J->H1 dx=J->dx≠x→
 sp (.ref x::(vs++JZ)) (upd (upd H1 dx (.own x)) x (.ins θ dx [])) (λv H2=>v=.ek/\Q (.ref x) H2) E
def Io(K:xA9)(fd:NS)(ps:B Str)(ds:B Value):Prop:=∀(s:pv)(us:B Value),K.In s.heap->(us++ds).length=ps.length->BindsTo s fd ⟨us,[]⟩ (ps.zip (us++ds))
def Io.all(h:∀us:B Value,us.length=ps.length->Ts fd ⟨us,[]⟩=pure (ps.zip us)):Io K fd ps []:=λs us _ hl=>by rw[LY]at hl ⊢;exact .of_eq (h us hl)
def cD(CX:Pk)(X:Cx)(E:XK):Prop:=∀(J0:B (J4×Obj))(Y:St)(H:Hp)(s:pv)(e:Value)(s':pv),b7 X J0 Y H s->CX X.stack H s E e s'->X.xe e s'
variable{vs:B V}
section
variable{X:Cx}{CX:Pk}{k:Nat}{f θ:J4}{fd:NS}{ps:B Str}{sp:Sp}{JZ:B V}{ds:B Value}{E:XK}{x m:Str}{p pos apos:Pos}{e o:J8}{es:B J8}{ta:TE}{t:TA}
omit x in
def j6{s:pv}{Q:VK}(F:Iu X.prog X.w X.K X.mg X.base CX k f fd ps sp)(W:Hg k X.A)(hb:Io X.K fd ps ds)(hd:E3 JZ ds)(hx:cD CX X E)
 (I:b7 X J0 Y H s) (r:E3 vs us) (h:sp (vs++JZ) H Q E):wpAny (model X.prog X.w) X.A (call (.ref f) us) (EP X J0 Y Q) X.xe s:=by
 have U:E3 (vs++JZ) (us++ds):=r.append hd;have hl:(us++ds).length=ps.length:=by rw[<- U.length];exact F.len _ _ _ _ h
 refine wpAny_call (Wv (F.run X.A X.stack s H ⟨us,[]⟩ (us++ds) (vs++JZ) Q E W I.T7 (hb s us I.Js hl) U h) λr s' O=>?_);cases r with
 |error e=>exact hx J0 Y H s e s' I O
 |ok fl=>
  cases fl with
  |ret u=>exact I.after O
  |next=>exact MJ O
  |brk=>exact MJ O
  |cont=>exact MJ O
def xO (F:Iu X.prog X.w X.K X.mg X.base CX k f fd ps sp) (hr:Hg k X.A) (hg:Gl X x) (hm:X.mg x=Z (.ref f)) (hk:xG9 X.K (.ref f)=C) (hb:Io X.K fd ps ds) (hd:E3 JZ ds) (hx:cD CX X E)
  (ha:Ij X (e::es) t) (U:(x==("__debug__":Str))=ξ:=by decide) (he:Hn (e::es) X.env=(ξ,eval e X.env)::Hn es X.env:=by rfl) (O:(IK pos (Hn es X.env)).any (·.1)=ξ:=by rfl) :
  PE X (.Call (.Name x p) (e::es) [] pos) (ji sp JZ E t):=by
 intro J0 s Y H Q I h;refine R8 (el I hg hm ?_ U);refine xV9 (h₀:=X.base) I.ok.mod.Sn hk (Hw (ha pos J0 s Y H _ I h) λus s1 ⟨vs,H1,I1,r,q⟩=>⟨I1.Js,?_⟩) he O;exact j6 F hr hb hd hx I1 r q
def tF (F:Iu X.prog X.w X.K X.mg X.base CX k f fd ps sp) (hr:Hg k X.A) (hg:Gl X x) (hm:X.mg x=Z (.ref f)) (hk:xG9 X.K (.ref f)=C) (hb:Io X.K fd ps ds) (hd:E3 JZ ds) (U:cD CX X E)
  (O:(x==("__debug__":Str))=ξ:=by decide):PE X (.Call (.Name x p) [] [] pos) (ji sp JZ E ny):=by
 intro J0 s Y H Q I h;refine R8 (el I hg hm ?_ O);exact xW9 I.Js hk (j6 (us:=[]) F hr hb hd U I .nil h)
def xP {pl:Sem Bool} (he:PE X o ta) (c:Mq X.K θ) (hm:NZ X.K θ m f) (F:Iu X.prog X.w X.K X.mg X.base CX k f fd ps sp) (hr:Hg k X.A) (hb:Io X.K fd ps ds) (hd:E3 JZ ds) (hx:cD CX X E) (ha:Ij X (e::es) t)
  (U:Hn (e::es) X.env=(ξ,eval e X.env)::Hn es X.env:=by rfl) (T8:(IK pos (Hn es X.env)).any (·.1)=ξ:=by rfl)
  (ht:eval (.Call (.Attribute o m apos) (e::es) [] pos) X.env=(do
   let ov <- eval o X.env
   NU apos.atName
   let (f,first) <- LE [ov] (Qd ov m pl)
   QP pos f first (IK pos (Hn (e::es) X.env)) (MO pos (MN [] X.env))):=by rfl) :
  PE X (.Call (.Attribute o m apos) (e::es) [] pos) (tD θ m sp JZ E ta t):=by
 intro J0 s Y H Q I h;refine xT9 (pl:=pl) (Hw (he J0 s Y H _ I h) λu s1 O=>?_) ht;have⟨x,H1,I1,rx,a,dx,fs,ex,ea,l,q⟩:=O;subst ex;obtain rfl:u=HH a:=rx;refine dJ I1 ea c hm l ?_;refine xV9 (first:=[.ref a]) (h₀:=X.base) I.ok.mod.Sn hm.kp (Hw (ha pos J0 s1 Y H1 _ I1 q) λus s2 ⟨vs,H2,I2,r,q2⟩=>⟨I2.Js,?_⟩) U T8;exact j6 (us:=.ref a::us) (vs:=.ref a::vs) F hr hb hd hx I2 (.cons rfl r) q2
def tG {pl:Sem Bool} (he:PE X o ta) (c:Mq X.K θ) (hm:NZ X.K θ m f) (F:Iu X.prog X.w X.K X.mg X.base CX k f fd ps sp) (hr:Hg k X.A) (hb:Io X.K fd ps ds) (hd:E3 JZ ds) (hx:cD CX X E)
  (ht:eval (.Call (.Attribute o m apos) [] [] pos) X.env=(do
   let ov <- eval o X.env
   NU apos.atName
   let (f,first) <- LE [ov] (Qd ov m pl)
   QP pos f first (IK pos (Hn [] X.env)) (MO pos (MN [] X.env))):=by rfl) :
  PE X (.Call (.Attribute o m apos) [] [] pos) (tD θ m sp JZ E ta ny):=by
 intro J0 s Y H Q I h;refine xT9 (pl:=pl) (Hw (he J0 s Y H _ I h) λu s1 O=>?_) ht;have⟨x,H1,U,rx,a,dx,fs,ex,ea,l,q⟩:=O;subst ex;obtain rfl:u=HH a:=rx;refine dJ U ea c hm l ?_;exact xW9 (first:=[.ref a]) U.Js hm.kp (j6 (us:=[.ref a]) (vs:=[.ref a]) F hr hb hd hx U (.cons rfl .nil) q)
structure Mk(K:xA9)(θ f:J4):Prop where
 makes:xS9 K θ=C
 init:xC9 K (.ref θ) "__init__"=Z (Z (.ref f))
 fn:xJ9 K (.ref f)=C
 kp:xG9 K (.ref θ)=C
omit x in
def l6{s:pv}{Q:VK}(ρ:Mk X.K θ f)(F:Iu X.prog X.w X.K X.mg X.base CX k f fd ps sp)(hr:Hg (k+1) X.A)(hb:Io X.K fd ps ds)(hd:E3 JZ ds)
 (hx:cD CX X E) (I:b7 X J0 Y H s) (r:E3 vs us)
 (h:∀x dx,H x=J->H dx=J->dx≠x->sp (.ref x::(vs++JZ)) (upd (upd H dx (.own x)) x (.ins θ dx [])) (λv H2=>v=.ek/\Q (.ref x) H2) E) :
  wpAny (model X.prog X.w) X.A (call (.ref θ) us) (EP X J0 Y Q) X.xe s:=by
 have W:=h (s.heap.objs.size+1) s.heap.objs.size (I.Hb.fresh (OC _)) (I.Hb.fresh (nL _)) (IS (V9 _));have U:=b7.made (θ:=θ) I;have r2:E3 (V.ref (s.heap.objs.size+1)::(vs++JZ)) (HH (s.heap.objs.size+1)::(us++ds)):=.cons rfl (r.append hd)
 have hl:(HH (s.heap.objs.size+1)::us++ds).length=ps.length:=by have e:=r2.length;rw[F.len _ _ _ _ W]at e;exact e.symm
 refine wpAny_call (tB (f:=f) I.Js ρ.makes ρ.init (beq_iff_eq.mp ρ.fn) (Wv (F.run _ X.stack _ _ ⟨HH (s.heap.objs.size+1)::us,[]⟩ (HH (s.heap.objs.size+1)::(us++ds)) _ _ E (hr.make θ us [])
  (U.T7.make θ us []) (hb _ (HH (s.heap.objs.size+1)::us) U.Js hl) r2 W) λr s' O=>?_))
 cases r with
 |error e=>exact hx J0 Y _ _ e s' U O
 |ok fl=>
  cases fl with
  |ret u=>have⟨v,H',I3,rv,ev,q3⟩:=U.after O;subst ev;exact⟨rv,⟨V.ref (s.heap.objs.size+1),H',I3,rfl,q3⟩⟩
  |next=>exact MJ O
  |brk=>exact MJ O
  |cont=>exact MJ O
def xQ (ρ:Mk X.K θ f) (F:Iu X.prog X.w X.K X.mg X.base CX k f fd ps sp) (hr:Hg (k+1) X.A) (hg:Gl X x) (hm:X.mg x=Z (.ref θ)) (hb:Io X.K fd ps ds) (hd:E3 JZ ds) (hx:cD CX X E)
  (ha:Ij X (e::es) t) (U:(x==("__debug__":Str))=ξ:=by decide) (he:Hn (e::es) X.env=(ξ,eval e X.env)::Hn es X.env:=by rfl) (O:(IK pos (Hn es X.env)).any (·.1)=ξ:=by rfl) :
  PE X (.Call (.Name x p) (e::es) [] pos) (tE θ sp JZ E t):=by
 intro J0 s Y H Q I h;refine R8 (el I hg hm ?_ U);refine xV9 (h₀:=X.base) I.ok.mod.Sn ρ.kp (Hw (ha pos J0 s Y H _ I h) λus s1 ⟨vs,H1,I1,r,q⟩=>⟨I1.Js,?_⟩) he O;exact l6 ρ F hr hb hd hx I1 r q
def tH (ρ:Mk X.K θ f) (F:Iu X.prog X.w X.K X.mg X.base CX k f fd ps sp) (hr:Hg (k+1) X.A) (hg:Gl X x) (hm:X.mg x=Z (.ref θ)) (hb:Io X.K fd ps ds) (hd:E3 JZ ds) (U:cD CX X E)
  (O:(x==("__debug__":Str))=ξ:=by decide):PE X (.Call (.Name x p) [] [] pos) (tE θ sp JZ E ny):=by
 intro J0 s Y H Q I h;refine R8 (el I hg hm ?_ O);exact xW9 I.Js ρ.kp (l6 (us:=[]) ρ F hr hb hd U I .nil h)
end
structure Ln(N P:List Str)(sc:J9):Prop where
 kind:sc.kind=.function
 co:sc.isCoroutine=ξ
 gen:sc.isGenerator=ξ
 nd:N.Nodup
 pre:N.take P.length=P
 par:∀x∈P,sc.names.lookup x=Z .local\/sc.names.lookup x=Z .cell
 Q0:∀y∈sc.names,y.2≠.free
variable{kindOf:Str->ζ Pf}
theorem jj{x:Str}:∀{binds:B (Str×Value)}{m:Str->ζ Value},(∀v,(x,v)∉binds)->bindL kindOf binds m x=m x
 |[],_,_=>rfl
 |(n,v)::r,m,h=>by
  unfold bindL;rw[jj λw hw=>h w (Oz _ hw)];split
  .have:x≠n:=by rintro rfl;exact h v QE
   simp[this]
  .rfl
theorem jk{x:Str}:∀{binds:B (Str×Value)}{m:Str->ζ Value},(∀v,(x,v)∉binds)->bindC kindOf binds m x=m x
 |[],_,_=>rfl
 |(n,v)::r,m,h=>by
  unfold bindC;rw[jk λw hw=>h w (Oz _ hw)];split
  .rfl
  .have:x≠n:=by rintro rfl;exact h v QE
   simp[this]
theorem jl {x:Str} {v:Value}:∀ {P:B Str} {vs:B Value} {i:Nat} {m:Str->ζ Value},P.Nodup->P[i]?=Z x->vs[i]?=Z v->kindOf x=Z .local→
  bindL kindOf (P.zip vs) m x=Z v
 |[],_,_,_,_,h,_,_=>by simp at h
 |_::_,[],_,_,_,_,h,_=>by simp at h
 |p::P,w::vs,0,m,nd,h1,h2,hk=>by
  simp at h1 h2;subst h1;subst h2
  show bindL kindOf ((p,w)::P.zip vs) m p=_;unfold bindL;rw[jj λv hv=>(Jr.mp nd).1 (Zr hv).1,if_pos hk];simp
 |p::P,w::vs,i+1,m,nd,h1,h2,hk=>by show bindL kindOf ((p,w)::P.zip vs) m x=_;unfold bindL;exact jl (i:=i) (Jr.mp nd).2 ‹h1› ‹h2› hk
theorem jm {x:Str} {v:Value}:∀ {P:B Str} {vs:B Value} {i:Nat} {m:Str->ζ Value},P.Nodup->P[i]?=Z x->vs[i]?=Z v->kindOf x≠Z .local→
  bindC kindOf (P.zip vs) m x=Z v
 |[],_,_,_,_,h,_,_=>by simp at h
 |_::_,[],_,_,_,_,h,_=>by simp at h
 |p::P,w::vs,0,m,nd,h1,h2,hk=>by
  simp at h1 h2;subst h1;subst h2
  show bindC kindOf ((p,w)::P.zip vs) m p=_;unfold bindC;rw[jk λv hv=>(Jr.mp nd).1 (Zr hv).1,if_neg hk];simp
 |p::P,w::vs,i+1,m,nd,h1,h2,hk=>by show bindC kindOf ((p,w)::P.zip vs) m x=_;unfold bindC;exact jm (i:=i) (Jr.mp nd).2 ‹h1› ‹h2› hk
noncomputable def dG(N:B Str)(vs:B V):St:=vs.map Z++I0 (N.length-vs.length) J
noncomputable def qS(CX:Pk)(P:Iz)(w:J5)(K:xA9)(mg:Str->ζ Value)(base:Heap)(N:B Str)(qual:Str)(scope:J9)(f:J4)(cd:Value)(A:Jo)(outer:B Env)(s:pv)(H:Hp)(E:XK):Cx where
 prog:=P
 w:=w
 K:=K
 mg:=mg
 base:=base
 A:=A.deeper (Qb qual scope s.heap.objs.size f cd)
 N:=N
 s₀:=s
 Lk:=H
 env:=Qb qual scope s.heap.objs.size f cd
 outer:=outer
 stack:=Qb qual scope s.heap.objs.size f cd::outer
 ex:=[]
 calm:=true
 fn:=λ_=>C
 pn:=[]
 xe:=λe s'=>wpAny (model P w) (A.deeper (Qb qual scope s.heap.objs.size f cd)) (leaving (Qb qual scope s.heap.objs.size f cd) e) (λ_ O=>CX outer H s E e O) (λU O=>CX outer H s E U O) s'
def l7{sc:J9}{n:Nat}{x:Str}(h:sc.names.lookup x=Z .cell):∃c,(cellsFrom n sc.names []).lookup x=Z c:=by have q:=PySem.W.cellsFrom_some sc.names n [] (.inl h);exact qy6.mp q
variable{qual:Str}{scope:J9}
def qU{w:J5}{f:J4}{cd:Value}{s s1:pv}{E:XK} 
 (S:Ln N ps scope) (hd:A.handled=J) (O:Mr P w K mg base A outer s H) (hl:vs.length=ps.length) (r:E3 vs us)
 (x:InCallC s s.heap.objs.size (bindL (Qb qual scope s.heap.objs.size f cd).kindOf (ps.zip us) λ_=>J) (cellsFrom (s.heap.objs.size+1) scope.names []) (bindC (Qb qual scope s.heap.objs.size f cd).kindOf (ps.zip us) λ_=>J) s1) :
  b7 (qS CX P w K mg base N qual scope f cd A outer s H E) [] (dG N vs) H s1:=by
 have T8:ps.length<=N.length:=by have:=congrArg ML S.pre;rw[V5]at this;lia
 have⟨h1,tk,rfl,hk⟩:=x.done;have U:∀b:J4,b∉(qS CX P w K mg base N qual scope f cd A outer s H E).ex:=λb z=>absurd (show b∈([]:B J4)from z) Ξ
 refine⟨⟨O.mod,S.kind,rfl,rfl,nL _,λy z c h1 h2=>?_,λy W=>?_,λy c _ h=>?_,λ_=>hd,Jo.frames_deeper O.frames,.inr ⟨rfl,rfl⟩,λb z=>absurd z (U b),O.bs,O.OJ,λb _ _=>U b,λb z=>absurd z (U b),O.JX,O.QY,O.tb⟩,rfl,O.bare,Un.kept hk,⟨_,x.toInCall.ns,λi y v h1 h2 h3=>?_⟩,λy c h=>⟨_,x.cell y c h⟩,O.Hb.fresh (Tf _),λy c h=>?_,λp hp=>absurd (show p∈([]:B (J4×Obj))from hp) Ξ,O.Hb.kept hk,?_⟩
 .exact name_of_addr x.apart (PySem.mem_of_lookup h1) (PySem.mem_of_lookup h2)
 .have W:scope.names.lookup y=Z .cell\/scope.names.lookup y=Z .free:=W;rcases W with W|W
  .exact l7 W
  .exact absurd rfl (S.Q0 _ (PySem.mem_of_lookup W))
 .exact QJ (x.above y c (PySem.mem_of_lookup h))
 .have hi:i<vs.length:=by
   unfold dG at h2;by_cases hi:i<vs.length
   .exact hi
   .rw[P0 ‹hi›]at h2;rw[Zl]at h2;split at h2<;>cases h2
  have ha:vs[i]?=Z v:=by
   unfold dG at h2;rw[RZ ‹hi›,HZ]at h2;cases e:vs[i]? with
   |none=>rw[e]at h2;cases h2
   |some a=>rw[e]at h2;cases h2;rfl
  have⟨u,hu,rv⟩:=r.get ha
  have hp:ps[i]?=Z y:=by rw[<- S.pre,Zk Θ];exact h1
  have ndP:ps.Nodup:=by rw[<- S.pre];exact S.nd.sublist (S8 _ _)
  refine⟨u,rv,?_⟩;rcases S.par y (Il hp)with k|k
  .exact .inl ⟨k,jl ndP hp hu k⟩
  .have⟨c,e⟩:=l7 (n:=s.heap.objs.size+1) k;refine .inr ⟨.inl k,c,e,?_⟩;have q:=x.cell y c e;rw[jm ndP hp hu (by show scope.names.lookup y≠_;rw[k];decide)]at q;exact q
 .exact O.Hb.fresh (QJ (x.above y c (PySem.mem_of_lookup h)))
 .unfold dG;show _=N.length;rw[Kj,HN,List.length_replicate];lia
omit x in
def EA{w:J5}{k:Nat}{f:J4}{name:Str}{U:Arguments}{dV kV doc pm O ct oc:Value}{an od:ζ J4}
 {osl:Array (ζ Value)} (lk:K.lookup f=Z ⟨oc,od,.func (PySem.W.fnOf name qual U body scope dV kV doc pm an O ct),osl⟩) (WS:PySem.W.codeIn K O qual=C) (S:Ln N ps scope)
 (len:∀vs H Q E,sp vs H Q E->vs.length=ps.length)
 (T9:∀(A:Jo)(outer:B Env)(s:pv)(H:Hp)(vs:B V)(Q:VK)(E:XK),Hg k (A.deeper (Qb qual scope s.heap.objs.size f O))->sp vs H Q E→
 ∃t,LK (qS CX P w K mg base N qual scope f O A outer s H E) body t/\t {nx:=λ_ H'=>Q .ek H',rt:=Q} (dG N vs) H) :
  Iu P w K mg base CX (k+1) f (PySem.W.fnOf name qual U body scope dV kV doc pm an O ct) ps sp:=by
 refine⟨len,λA outer s H args us vs Q E hr e0 hb r OM=>?_⟩;have hl:=len _ _ _ _ OM;have KX:K.In s.heap:=e0.mod.Sn.keeps λb o e=>(e0.bs b o e).1
 have lim:s.heap.NoLimit:=e0.mod.nolimit.keeps λb o e=>(e0.bs b o e).1
 have Ua:∀y∈ps.zip us,scope.names.lookup y.1=Z .local\/(scope.names.lookup y.1=Z .cell/\((cellsFrom (s.heap.objs.size+1) scope.names []).lookup y.1).isSome=C):=λhq81 hy=>by
  have⟨n,v⟩:=hq81;rcases S.par n (Zr hy).1 with q|q
  .exact .inl q
  .exact .inr ⟨q,PySem.W.cellsFrom_some _ _ _ (.inl q)⟩
 refine codeAny_call_function hr.depth (KX _ _ lk) rfl S.co S.gen rfl (PySem.W.codeRec_of KX WS) (hb _ _ _ _ ?_);refine wpAny_newFunctionEnv_cells S.kind Ua λenv he s1 x=>?_
 subst he;refine⟨lim.keeps x.toInCall.keep,codeAny_func ?_⟩;have⟨t,ht,hq⟩:=T9 A outer s H vs Q E (hr.deeper _) OM;have I:b7 (qS CX P w K mg base N qual scope f O A outer s H E) [] (dG N vs) H s1:=qU S hr.hd e0 hl r x;refine NR (ht [] s1 (dG N vs) H _ I hq) (λfl s' hs=>?_) λe s' hs=>hs
 have fin:∀{K0:St}{H':Hp}{v:V}{u:Value},b7 (qS CX P w K mg base N qual scope f O A outer s H E) [] K0 H' s'->Da v u->Q v H'->CE outer P w H s Q u s':=λ{K0 H' v u} ψ rv q=>⟨v,H',ψ.os,ψ.bare,ψ.base,ψ.Hb,rv,q⟩
 cases fl with
 |ret u=>have⟨v,K0,H',ψ,rv,q⟩:=hs;exact fin ψ rv q
 |next=>have⟨K0,H',ψ,q⟩:=hs;exact fin (v:=V.ek) (u:=Kl) ψ rfl q
 |brk=>have⟨_,_,_,q⟩:=hs;exact MJ q
 |cont=>have⟨_,_,_,q⟩:=hs;exact MJ q
section
variable{X:Cx}{x:Str}{p pos:Pos}{e:J8}{es:B J8}{t:TA}{id T:String}{r:B V->Hp->VK->Prop}
def WT(r:B V->Hp->VK->Prop)(t:TA):TE:=λY H Q=>t Y H λvs H1=>r vs H1 Q
def tJ (hc:Hx X (.builtin id) r) (hg:Gl X x) (hm:X.mg x=J) (hv:LZ x=Z (.builtin id)) (ha:Ij X (e::es) t) (hn:x≠"__name__":=by decide) (W:(x==("__debug__":Str))=ξ:=by decide)
  (he:Hn (e::es) X.env=(ξ,eval e X.env)::Hn es X.env:=by rfl) (U:(IK pos (Hn es X.env)).any (·.1)=ξ:=by rfl):PE X (.Call (.Name x p) (e::es) [] pos) (WT r t):=by
 intro J0 s Y H Q I h;refine R8 (g7 I hg hm hv ?_ hn W);exact PyProof.Rows.callWith_builtin1 (Hw (ha pos J0 s Y H _ I h) λus s1 O=>by have⟨vs,H1,I1,r1,q1⟩:=O;exact hc J0 s1 Y H1 vs us Q I1 r1 q1) he U
def qX (hc:Hx X (.type T) r) (hg:Gl X x) (hm:X.mg x=J) (hv:LZ x=Z (.type T)) (ha:Ij X (e::es) t) (hn:x≠"__name__":=by decide) (W:(x==("__debug__":Str))=ξ:=by decide)
  (he:Hn (e::es) X.env=(ξ,eval e X.env)::Hn es X.env:=by rfl) (U:(IK pos (Hn es X.env)).any (·.1)=ξ:=by rfl):PE X (.Call (.Name x p) (e::es) [] pos) (WT r t):=by
 intro J0 s Y H Q I h;refine R8 (g7 I hg hm hv ?_ hn W);exact ZA (Hw (ha pos J0 s Y H _ I h) λus s1 O=>by have⟨vs,H1,I1,r1,q1⟩:=O;exact hc J0 s1 Y H1 vs us Q I1 r1 q1) he U
end
end L2
namespace HT
open PySem PyProof.Rows
section
variable{prog:Iz}{w:J5}{A:Jo}{E:Value->pv->Prop}{s:pv}
def GV {t b:J4} {vs ws:B Value} {Q:Value->pv->Prop} (ht:IsTup s.heap t vs.toArray) (hb:IsTup s.heap b ws.toArray) (hv:vs≠[])
  (h1:ws=[]->Q (.ref t) s) (h2:ws≠[]->Q (.ref s.heap.objs.size) {s with heap:=s.heap.push {cls:=.type "tuple",data:=.seq (vs++ws).toArray}})
  (hsz:vs.length+ws.length<=G6):wpAny (model prog w) A (KY .Add (.ref t) (.ref b)) Q E s:=by
 have⟨⟨cls,dd,data,sl⟩,ho,hc,n,hd⟩:=id ht;have⟨⟨Ub,W,data2,U⟩,LF,O,n2,hd2⟩:=id hb;simp only at hc hd O hd2;subst hc hd O hd2;have e:vs.toArray++ws.toArray=(vs++ws).toArray:=by simp
 by_cases hw:ws=[]
 .exact Ww ⟨_,ho,rfl⟩ ⟨_,LF,rfl⟩ ZE ZI PySem.F.slot_tuple_add PySem.F.entry_tuple_add (PySem.F.args_tuple_add_2 _ _)
   (tuple_addW1 t b vs.toArray ws.toArray n n2 dd W sl U ‹hv› (by simp[hw])) ⟨ho,LF,h1 hw⟩
 .refine Ww ⟨_,ho,rfl⟩ ⟨_,LF,rfl⟩ ZE ZI PySem.F.slot_tuple_add PySem.F.entry_tuple_add (PySem.F.args_tuple_add_2 _ _)
   (tuple_addW2 t b vs.toArray ws.toArray n n2 dd W sl U ‹hv› ‹hw› (by rw[JB,JB];exact hsz)) ⟨ho,LF,?_⟩
  rw[e];exact h2 hw
def Jx(n d:Nat):ζ Int->Nat
 |none=>d
 |some v=>if v<0 then(v+(n:Int)).toNat else min v.toNat n
def GX(n d k:Nat):Jx n d (Z (k:Int))=min k n:=by show(if(k:Int)<0 then((k:Int)+(n:Int)).toNat else min (k:Int).toNat n)=min k n;rw[if_neg Θ,Ow]
end
end HT
namespace L2
open PySem PySem.Spec PyProof.Rows
abbrev TO:=St->Hp->(ζ Int->Hp->Prop)->Prop
def PO(X:Cx)(e:ζ J8)(t:TO):Prop:=
 ∀(J0:B (J4×Obj))(s:pv)(Y:St)(H:Hp)(Q:ζ Int->Hp->Prop),b7 X J0 Y H s->t Y H Q→
  wpAny (model X.prog X.w) X.A (evalPart e X.env) (λu s'=>∃o H',b7 X J0 Y H' s'/\IsPart u o/\Q o H') X.xe s
def xU:TO:=λ_ H Q=>Q J H
def EB(t:TE):TO:=λY H Q=>t Y H λx H1=>∃i,x=.int i/\Q (Z i) H1
variable{r:V->ζ Int->ζ Int->Hp->VK->Prop}{xs:B V}{us:B Value}
section
variable{X:Cx}{e:J8}{te:TE}{lo hi:ζ J8}{tl th:TO}{pos p2:Pos}
def xV:PO X J xU:=by intro J0 s Y H Q I h;rw[evalPart_none];exact Hf ⟨J,H,I,.none,h⟩
def xW(h:PE X e te):PO X (Z e) (EB te):=by
 intro J0 s Y H Q I hw;rw[evalPart_some];refine Hw (h J0 s Y H _ I hw) λu s1 O=>?_
 have⟨x,H1,U,W,q1⟩:=O;have⟨i,rfl,q⟩:=q1;have⟨t,rfl⟩:=W;exact⟨Z i,H1,U,.int i t,q⟩
def Pl(X:Cx)(r:V->ζ Int->ζ Int->Hp->VK->Prop):Prop:=
 ∀(J0:B (J4×Obj))(s:pv)(Y:St)(H:Hp)(x:V)(v vl O:Value)(lo hi:ζ Int)(sl:J4)(Q:VK),b7 X J0 Y H s->Da x v->s.heap.IsSliceOf sl vl O .none->IsPart vl lo->IsPart O hi->r x lo hi H Q→
  ∃T id,typeLookup (.type T) "__getitem__"=pure (Z (.builtin id))/\s.TypeIs v T/\wpAny (model X.prog X.w) X.A (getItem v (.ref sl)) (EP X J0 Y Q) X.xe s
def Pl.or{r':V->ζ Int->ζ Int->Hp->VK->Prop}(h:Pl X r)(h':Pl X r'):Pl X (λx lo hi H Q=>r x lo hi H Q\/r' x lo hi H Q):=by
 intro J0 s Y H x v vl U lo hi sl Q I W O pl pu q;rcases q with q|q
 .exact h J0 s Y H x v vl U lo hi sl Q I W O pl pu q
 .exact h' J0 s Y H x v vl U lo hi sl Q I W O pl pu q
def tSl(r:V->ζ Int->ζ Int->Hp->VK->Prop)(te:TE)(tl th:TO):TE:=λY H Q=>te Y H λx H1=>tl Y H1 λl H2=>th Y H2 λu O=>r x l u O Q
def tL(hr:Pl X r)(he:PE X e te)(hl:PO X lo tl)(hu:PO X hi th):PE X (.Subscript e (.Slice lo hi J p2) pos) (tSl r te tl th):=by
 intro J0 s Y H Q I h;refine Subscript_ (Hw (he J0 s Y H _ I h) λv s1 U=>?_);have⟨x,H1,I1,r1,q1⟩:=U;refine wpAny_Slice (Hw (hl J0 s1 Y H1 _ I1 q1) λvl s2 ⟨l,H2,I2,pl,q2⟩=>Hw (hu J0 s2 Y H2 _ I2 q2) λvu O W=>?_);have⟨u,H3,I3,pu,q3⟩:=W;rw[evalPart_none];refine Hf ?_;have I4:b7 X J0 Y H3 {O with heap:=O.heap.push {cls:=.type "slice",data:=.fields #[vl,vu,.none]}}:=I3.kept (t':=O.toks) λb ob q=>gP _ q
 have⟨T,id,hT,ht,hg⟩:=hr J0 {O with heap:=O.heap.push {cls:=.type "slice",data:=.fields #[vl,vu,.none]}} Y H3 x v vl vu l u O.heap.objs.size Q I4 r1 (Heap.IsSliceOf.new ..) pl pu q3;show wpAny (model X.prog X.w) X.A (ZB e (.Slice lo hi J p2) v (.ref O.heap.objs.size)) (EP X J0 Y Q) X.xe {O with heap:=O.heap.push {cls:=.type "slice",data:=.fields #[vl,vu,.none]}};exact tail_any (ops:=[.ref O.heap.objs.size,v]) ht hT hg (by with_unfolding_all rfl)
noncomputable def qY(xs:B V)(lo hi:ζ Int):B V:=(xs.drop (HT.Jx xs.length 0 lo)).take (HT.Jx xs.length xs.length hi-HT.Jx xs.length 0 lo)
def l8(xs:B V)(lo hi:ζ Int):(qY xs lo hi).length<=xs.length:=by unfold qY;rw[V5,List.length_drop];lia
def z9(K:xA9):R2:=λx y H Q=>∃a b xs ys,x=.ref a/\y=.ref b/\Im K H a xs/\Im K H b ys/\xs≠[]/\xs.length+ys.length<=G6∧(ys=[]->Q (.ref a) H)/\(ys≠[]->∀p,H p=J->Q (.ref p) (upd H p (.t (xs++ys))))
def E3.Lo(r:E3 xs us):us=[]↔xs=[]:=by
 cases r with
 |nil=>simp
 |cons _ _=>simp
theorem xY:HI X (KY .Add) (z9 X.K):=by intro J0 s Y H x y v u Q I rx ry h;have⟨a,b,xs,ys,rfl,rfl,ha,hb,hx,hz,q1,q2⟩:=h;cases rx;cases ry;have⟨J3,U,p1,_⟩:=I.tuple ha;have⟨W,O,p2,_⟩:=I.tuple hb;refine HT.GV p1 p2 (λz=>hx (U.Lo.mp z)) (λz=>⟨.ref a,H,I,rfl,q1 (O.Lo.mp z)⟩) (λz=>?_) (by rw[<- U.length,<- O.length];exact hz);refine⟨.ref s.heap.objs.size,_,I.laid (t':=s.toks) (o:=.t (xs++ys)) (λb ob q=>gP _ q) (nL _) ?_,rfl,q2 (λw=>z (O.Lo.mpr w)) _ (I.Hb.fresh (nL _))⟩;exact⟨by rw[Kj];exact hz,_,U.append O,Ku.new _ _⟩
end
noncomputable def KI(n:Nat)(i:Int):ζ Nat:=if 0<=i then(if i<n then Z i.toNat else J)else if -(n:Int)<=i then Z (i+n).toNat else J
def Ji{α:Type}(xs:B α)(i:Int):ζ α:=(KI xs.length i).bind λj=>xs[j]?
variable{j:Nat}
def oV{n:Nat}{i:Int}(h:KI n i=Z j):Tq i n=Z j/\j<n/\-(n:Int)<=i/\i<n:=by
 unfold KI at h;by_cases h0:0<=i
 .rw[if_pos h0]at h;by_cases h1:i<n
  .rw[if_pos h1]at h;have e:i.toNat=j:=JU h;exact⟨by rw[seqIndex_of h0 h1,e],Θ,Θ,h1⟩
  .rw[if_neg h1]at h;cases h
 .rw[if_neg h0]at h;by_cases h1:-(n:Int)<=i
  .rw[if_pos h1]at h;have e:(i+n).toNat=j:=JU h;exact⟨by rw[ZL Θ h1,e],Θ,h1,Θ⟩
  .rw[if_neg h1]at h;cases h
def j7{α:Type}{xs:B α}{i:Int}{v:α}(h:Ji xs i=Z v):∃j,Tq i xs.length=Z j/\xs[j]?=Z v/\j<xs.length/\-(xs.length:Int)<=i/\i<xs.length:=by
 unfold Ji at h;cases e:KI xs.length i with
 |none=>rw[e]at h;cases h
 |some j=>rw[e]at h;have⟨h1,h2,O,h4⟩:=oV e;exact⟨j,h1,h,h2,O,h4⟩
def xZ{α:Type}{xs:B α}{v:α}(h:xs[j]?=Z v):Ji xs (j:Int)=Z v:=by
 have O:j<xs.length:=(gX h).1
 have e:KI xs.length (j:Int)=Z j:=by unfold KI;rw[if_pos Θ,if_pos Θ];simp
 unfold Ji;rw[e];exact h
def j8(b:J8):Prop:=∀o i,subscripted b ξ o i=operate [o,i] (getItem o i)
def N0(X:Cx)(r:R2):Prop:=
 ∀(value O:J8)(J0:B (J4×Obj))(s:pv)(Y:St)(H:Hp)(x y:V)(v u:Value)(Q:VK),b7 X J0 Y H s->Da x v->Da y u->r x y H Q→
  subscripted O ξ v u=operate [v,u] (getItem v u)->wpAny (model X.prog X.w) X.A (ZB value O v u) (EP X J0 Y Q) X.xe s
def Sr(X:Cx)(id:String)(r:V->B V->Hp->VK->Prop):Prop:=
 ∀(J0:B (J4×Obj))(s:pv)(Y:St)(H:Hp)(x:V)(xs:B V)(v:Value)(us:B Value)(Q:VK),b7 X J0 Y H s->Da x v->E3 xs us->r x xs H Q→
  wpAny (model X.prog X.w) X.A (call (.builtin id) (v::us)) (EP X J0 Y Q) X.xe s
variable{J0:B (J4×Obj)}{Y:St}{H:Hp}{J3 Ht:B Value}{A:Jo}{y:V}{u:Value}
section
variable{X:Cx}{a b:J8}{ta tb:TE}{pos:Pos}
def N0.or{r r':R2}(h:N0 X r)(h':N0 X r'):N0 X (λx y H Q=>r x y H Q\/r' x y H Q):=by
 intro value O J0 s Y H x y v u Q I rx W q U;rcases q with q|q
 .exact h value O J0 s Y H x y v u Q I rx W q U
 .exact h' value O J0 s Y H x y v u Q I rx W q U
def EC{r:R2}(W:N0 X r)(ha:PE X a ta)(hb:PE X b tb)(hs:j8 b):PE X (.Subscript a b pos) (TZ r ta tb):=by intro J0 s Y H Q I h;exact Subscript_ (Bt ha hb I h λv u s2 x y H2 U rx O q=>W a b J0 s2 Y H2 x y v u Q U rx O q (hs _ _))
def Uc(K:xA9):R2:=λx y H Q=>∃p xs i v,x=.ref p/\y=.int i/\Id K H p xs/\Ji xs i=Z v/\Q v H
def Ud(K:xA9):R2:=λx y H Q=>∃p xs i v,x=.ref p/\y=.int i/\Im K H p xs/\Ji xs i=Z v/\Q v H
def Ue:R2:=λx y H Q=>∃z i c,x=.str z/\y=.int i/\z.length<=G6/\Ji z.cps.toList i=Z c/\Q (.str ⟨#[c]⟩) H
def Nb:N0 X (Uc X.K):=by
 intro value W J0 s Y H x y v u Q I rx ry h hs;have⟨p,xs,i,z,rfl,rfl,hq,he,q⟩:=h;cases rx;have⟨t,rfl⟩:=ry;have⟨J3,r,pl,hz⟩:=I.list hq;have⟨j,h1,h2,h3,h4,h5⟩:=j7 he;have⟨w,ew,O⟩:=r.get h2;have hl:=r.length;have hn:=fG;have fin:EP X J0 Y Q w s:=⟨z,H,I,O,q⟩;by_cases h0:0<=i
 .have U:i.toNat=j:=by rw[seqIndex_of h0 h5]at h1;exact JU h1
  exact item_listR pl.isList h0 Θ (by rw[U];simpa using ew) fin hs
 .have U:(i+(J3.toArray.size:Int)).toNat=j:=by rw[ZL Θ h4]at h1;rw[JB,<- hl];exact JU h1
  exact zb3 (x:=w) pl.isList.typeIs slot_list_getitem.lookup
   (wpAny_getItem_list_neg (Q:=λr s'=>r=w/\EP X J0 Y Q r s') pl.isList Θ (by rw[JB]<;>lia) Θ (by rw[U];simpa using ew) ⟨rfl,fin⟩) hs
def Q1:N0 X (Ud X.K):=by
 intro value slice J0 s Y H x y v u Q I rx ry h hs;have⟨p,xs,i,z,rfl,rfl,hq,he,q⟩:=h;cases rx;have⟨t,rfl⟩:=ry;have⟨J3,r,pl,hz⟩:=I.tuple hq;have⟨j,h1,h2,h3,h4,h5⟩:=j7 he;have⟨w,ew,rw'⟩:=r.get h2;have hl:=r.length;have hn:=fG;have fin:EP X J0 Y Q w s:=⟨z,H,I,rw',q⟩
 exact zb3 (x:=w) pl.typeIs slot_tuple_getitem.lookup
  (getItem_tuple (j:=j) (Q:=λr s'=>r=w/\EP X J0 Y Q r s') pl Θ Θ (by rw[JB,<- hl];exact h1) ‹ew› ⟨rfl,fin⟩) hs
def BN:N0 X Ue:=by
 intro value slice J0 s Y H x y v u Q I rx ry h hs;have⟨z,i,c,rfl,rfl,hz,he,q⟩:=h;have⟨t,rfl⟩:=rx;have⟨t',rfl⟩:=ry;have⟨j,h1,h2,h3,h4,h5⟩:=j7 he;have hl:z.cps.toList.length=z.length:=by simp[Str.length]
 rw[hl]at h1 h4 h5;have hn:=fG
 exact tail_any (typeIs_str s z t) slot_str_getitem.lookup (getItem_str (c:=c) (by have e1:decide (i < -(2^63:Int))=ξ:=decide_eq_false Θ;have e2:decide (i ≥ 2^63)=ξ:=decide_eq_false Θ;rw[e1,e2,Bool.or_false]) (by rw[h1];simpa using h2) ⟨.str ⟨#[c]⟩,H,I.tok _,⟨_,rfl⟩,q⟩) hs
def WU(K:xA9):R2:=λx y H Q=>Uc K x y H Q\/Ud K x y H Q\/Ue x y H Q
def BO:N0 X (WU X.K):=Nb.or (Q1.or BN)
def nz(J3:B Value)(n j:Nat)(u:Value):MQ (·.setIfInBounds j u) {cls:=.type "list",data:=.seq J3.toArray n}={cls:=.type "list",data:=.seq (J3.set j u).toArray n}:=by simp[MQ]
def b7.lst {s:pv} {p:J4} (I:b7 X J0 Y H s) (h:H p=Z (.e xs)) :
  ∃(J3:B Value)(n:Nat),E3 xs J3/\s.heap.get? p=Z {cls:=.type "list",data:=.seq J3.toArray n}/\xs.length<=G6:=by
 have⟨z,J3,n,r,e⟩:=I.Hb p _ h;exact⟨J3,n,r,e,z⟩
def b7.Q2{s:pv}{p:J4}{ys:B V}{n n':Nat}{f:Obj->Obj}(I:b7 X J0 Y H s)(h:H p=Z (.e xs))
 (U:s.heap.get? p=Z {cls:=.type "list",data:=.seq J3.toArray n}) (O:f {cls:=.type "list",data:=.seq J3.toArray n}={cls:=.type "list",data:=.seq Ht.toArray n'}) (r:E3 ys Ht) (hz:ys.length<=G6) (t:Nat) :
  b7 X J0 Y (upd H p (.e ys)) {s with heap:=s.heap.update p f,toks:=t}:=by
 have e:(s.heap.update p f).get? p=Z {cls:=.type "list",data:=.seq Ht.toArray n'}:=by rw[Ph f U (by rw[O]<;>rfl),O]
 refine I.write (x:=p) (e:=p) (by rw[h];trivial) (.inl rfl) (λb u hb q=>(Sf _ _ (JQ hb)).trans q) ⟨_,e⟩ ?_;exact⟨hz,Ht,n',r,e⟩
def tN:V->V->V->Hp->(Hp->Prop)->Prop:=λo i v H Q=>∃p xs k j,o=.ref p/\i=.int k/\H p=Z (.e xs)/\KI xs.length k=Z j/\Q (upd H p (.e (xs.set j v)))
def l9:Lm X tN:=by
 intro J0 s Y H o i v ov iv u Q I ro ri rv h;have⟨p,xs,k,j,rfl,rfl,hp,hj,q⟩:=h;cases ro;have⟨t,rfl⟩:=ri;have⟨J3,n,r,ho,hz⟩:=I.lst hp;have⟨h1,h2,h3,h4⟩:=oV hj;have hl:=r.length;have hn:=fG
 have I':b7 X J0 Y (upd H p (.e (xs.set j v))) {s with heap:=s.heap.update p (MQ (·.setIfInBounds j u))}:=I.Q2 hp ho (nz J3 n j u) (r.set rv j) (by rw[P5];exact hz) s.toks
 by_cases h0:0<=k
 .have hk:k.toNat=j:=by rw[seqIndex_of h0 h4]at h1;exact JU h1
  exact PySem.W.ki_setAt ho h0 Θ (by rw[JB,<- hl];exact h4) (by rw[hk];exact⟨_,I',q⟩)
 .have hk:(k+(J3.toArray.size:Int)).toNat=j:=by rw[ZL Θ h3]at h1;rw[JB,<- hl];exact JU h1
  exact PySem.W.ki_setBack ho Θ (by rw[JB,<- hl];exact h3) Θ (by rw[hk];exact⟨_,I',q⟩)
def j9(lo hi:ζ Int)(n:Nat):(QL lo hi J n).1=((HT.Jx n 0 lo:Nat):Int)/\(QL lo hi J n).2.1=((HT.Jx n n hi:Nat):Int)/\(QL lo hi J n).2.2=1:=by
 refine⟨?_,?_,rfl⟩
 .cases lo with
  |none=>simp[QL,HT.Jx]
  |some i=>
   rwa[QL,HT.Jx,Zz,show(1:Int) > 0 by decide,if_true];by_cases h:i<0
   .rwa[h,if_true]<;>lia
   .rwa[h,if_false]<;>lia
 .cases hi with
  |none=>simp[QL,HT.Jx]
  |some i=>
   rwa[QL,HT.Jx,Zz,show(1:Int) > 0 by decide,if_true];by_cases h:i<0
   .rwa[h,if_true]<;>lia
   .rwa[h,if_false]<;>lia
def iY(J3:B Value)(lo hi:ζ Int):slicePick J3.toArray lo hi J=((J3.drop (HT.Jx J3.length 0 lo)).take (HT.Jx J3.length J3.length hi-HT.Jx J3.length 0 lo)).toArray:=by have⟨h1,h2,O⟩:=j9 lo hi J3.toArray.size;unfold slicePick;rw[h1,h2,O];rwa[sliceRange_one,pick_run,JB]<;>rfl
def Uf(K:xA9):V->ζ Int->ζ Int->Hp->VK->Prop:=λx lo hi H Q=>∃a xs,x=.ref a/\Id K H a xs/\∀p,H p=J->Q (.ref p) (upd H p (.e (qY xs lo hi)))
theorem x9:Pl X (Uf X.K):=by intro J0 s Y H x v vl vu lo hi sl Q I rx W pl pu h;have⟨a,xs,rfl,hx,q⟩:=h;cases rx;have⟨J3,r,U,hz⟩:=I.list hx;have O:=r.length;refine⟨"list",_,slot_list_getitem.lookup,U.isList.typeIs,?_⟩;refine wpAny_getItem_list_slice U.isList W pl pu .none Ξ ?_ (by rw[JB]<;>lia);rw[iY,<- O];refine⟨.ref s.heap.objs.size,_,I.laid (t':=s.toks) (o:=.e (qY xs lo hi)) (λb ob q=>gP _ q) (nL _) ?_,rfl,q _ (I.Hb.fresh (nL _))⟩;exact⟨JS (l8 xs lo hi) hz,_,0,(r.drop (HT.Jx xs.length 0 lo)).take (HT.Jx xs.length xs.length hi-HT.Jx xs.length 0 lo),JW _ rfl⟩
noncomputable def bq:V->Bool
 |.ek=>C
 |.bl _=>C
 |.int _=>C
 |.str _=>C
 |_=>ξ
noncomputable def Nc:V->V->Bool
 |.ek,.ek=>C
 |.bl a,.bl b=>a==b
 |.bl a,.int b=>(if a then 1 else 0)==b
 |.int a,.bl b=>a==(if b then 1 else 0)
 |.int a,.int b=>a==b
 |.str a,.str b=>a==b
 |_,_=>ξ
def dL{s:pv}{x:V}{v:Value}(U:Da y u)(O:Da x v)(W:bq y=C)(fx:bq x=C):Kt A s u v (Nc y x):=by
 cases y with
 |ek=>
  cases U;cases x with
  |ek=>cases O;exact ZZ _
  |bl b=>cases O;exact Kt.none_bool b
  |int b=>have⟨t,rfl⟩:=O;exact Kt.none_int b t
  |str b=>have⟨t,rfl⟩:=O;exact Kt.none_str b t
  |_=>exact absurd (show ξ=C from fx) Ju
 |bl a=>
  cases U;cases x with
  |ek=>cases O;exact Kt.bool_none a
  |bl b=>cases O;exact Kt.bool_bool a b
  |int b=>have⟨t,rfl⟩:=O;exact Kt.bool_int a b t
  |str b=>have⟨t,rfl⟩:=O;exact Kt.bool_str a b t
  |_=>exact absurd (show ξ=C from fx) Ju
 |int a=>
  have⟨t',rfl⟩:=U;cases x with
  |ek=>cases O;exact Kt.int_none a t'
  |bl b=>cases O;exact Kt.int_bool a t' b
  |int b=>have⟨t,rfl⟩:=O;exact Kt.int_int a t' b t
  |str b=>have⟨t,rfl⟩:=O;exact Kt.int_str a t' b t
  |_=>exact absurd (show ξ=C from fx) Ju
 |str a=>
  have⟨t',rfl⟩:=U;cases x with
  |ek=>cases O;exact Kt.str_none a t'
  |bl b=>cases O;exact Kt.str_bool a t' b
  |int b=>have⟨t,rfl⟩:=O;exact Kt.str_int a t' b t
  |str b=>have⟨t,rfl⟩:=O;exact Kt.str_str a t' b t
  |_=>exact absurd (show ξ=C from fx) Ju
 |_=>exact absurd (show ξ=C from W) Ju
def Mt(x:V)(u:Value):Bool:=match u with
 |.none=>Nc .ek x
 |.bool b=>Nc (.bl b) x
 |.int i _=>Nc (.int i) x
 |.str z _=>Nc (.str z) x
 |_=>ξ
def tO{x:V}(r:Da y u)(f:bq y=C):Mt x u=Nc y x:=by
 cases y with
 |ek=>cases r;rfl
 |bl b=>cases r;rfl
 |int i=>have⟨t,rfl⟩:=r;rfl
 |str z=>have⟨t,rfl⟩:=r;rfl
 |_=>exact absurd (show ξ=C from f) Ju
theorem et{x:V}:∀{xs:B V}{us:B Value},E3 xs us->xs.all bq=C->us.any (Mt x)=xs.any λy=>Nc y x
 |_,_,.nil,_=>rfl
 |y::xs,u::us,.cons r t,f=>by rw[Ks,Hm]at f;rw[Pb,Pb,tO r f.1,et t f.2]
theorem cR{s:pv}{x:V}{v:Value}(U:Da x v)(fx:bq x=C):∀{xs:B V}{us:B Value},E3 xs us->xs.all bq=C->∀u∈us,Kt A s u v (Mt x u)
 |_,_,.nil,_=>λu O=>by cases O
 |y::xs,u::us,.cons r t,f=>λW O=>by
  rw[Ks,Hm]at f;rcases IE.mp O with rfl|O
  .rw[tO r f.1];exact dL r U f.1 fx
  .exact cR U fx t f.2 W O
def WV(x:V)(xs:B V):Bool:=xs.any λy=>Nc y x
def rIn(K:xA9)(O:Bool):R2:=λx y H Q=>∃p xs,y=.ref p/\(Id K H p xs\/Im K H p xs)/\bq x=C/\xs.all bq=C/\Q (.bl (if O then !WV x xs else WV x xs)) H
def qZ:HI X (JL .In) (rIn X.K ξ):=by
 intro J0 s Y H x y v u Q I W ry h;have⟨p,xs,rfl,O,fx,fs,q⟩:=h;cases ry;rcases O with O|O
 .have⟨J3,r,pl,hz⟩:=I.list O;refine SeqAt.in_listAt (Mt x) pl.isList (λw U=>cR W fx r fs w ‹U›) ⟨.bl _,H,I,rfl,?_⟩;rw[show J3.toArray.any (Mt x)=J3.any (Mt x)by simp,et r fs];exact q
 .have⟨J3,r,pl,hz⟩:=I.tuple O;refine SeqAt.in_tupleAt (Mt x) pl (λw U=>cR W fx r fs w ‹U›) ⟨.bl _,H,I,rfl,?_⟩;rw[show J3.toArray.any (Mt x)=J3.any (Mt x)by simp,et r fs];exact q
def kc:HI X (JL .NotIn) (rIn X.K C):=by
 intro J0 s Y H x y v u Q I W ry h;have⟨p,xs,rfl,O,fx,fs,q⟩:=h;cases ry;rcases O with O|O
 .have⟨J3,r,pl,hz⟩:=I.list O;refine SeqAt.notIn_listAt (Mt x) pl.isList (λw U=>cR W fx r fs w ‹U›) ⟨.bl _,H,I,rfl,?_⟩;rw[show J3.toArray.any (Mt x)=J3.any (Mt x)by simp,et r fs];exact q
 .have⟨J3,r,pl,hz⟩:=I.tuple O;refine SeqAt.notIn_tupleAt (Mt x) pl (λw U=>cR W fx r fs w ‹U›) ⟨.bl _,H,I,rfl,?_⟩;rw[show J3.toArray.any (Mt x)=J3.any (Mt x)by simp,et r fs];exact q
def kf:HI X (JL .NotIn) (λx y H Q=>∃i j,x=.str i/\y=.str j/\Q (.bl (!(!(ZS j i 0 j.length 1).isEmpty))) H):=by intro J0 s Y H x y v u Q I U O h;have⟨i,j,rfl,rfl,q⟩:=h;have⟨t,rfl⟩:=U;have⟨t',rfl⟩:=O;exact notIn_str ⟨.bl _,H,I,rfl,q⟩
def Hx.or{f:Value}{r O:B V->Hp->VK->Prop}(h:Hx X f r)(h':Hx X f O):Hx X f (λxs H Q=>r xs H Q\/O xs H Q):=by
 intro J0 s Y H xs us Q I U q;rcases q with q|q
 .exact h J0 s Y H xs us Q I U q
 .exact h' J0 s Y H xs us Q I U q
def kg:Hx X (.type "list") (λxs H Q=>∃p ys,xs=[.ref p]/\(Id X.K H p ys\/Im X.K H p ys)/\∀l,H l=J->Q (.ref l) (upd H l (.e ys))):=by
 intro J0 s Y H xs us Q I r h;have⟨p,ys,rfl,W,q⟩:=h;have⟨u,rfl,rx⟩:=dF r;cases rx
 have fin:∀ (J3:B Value),E3 ys J3->ys.length<=G6->∀ (h':Heap) (U:Nat),(∀ b o',s.heap.get? b=Z o'->h'.get? b=Z o')→
     h'.get? s.heap.objs.size=Z {cls:=.type "list",dict:=J,data:=.seq J3.toArray U,slots:=#[]}->EP X J0 Y Q (.ref s.heap.objs.size) {s with heap:=h'}:=λJ3 O hz h' U kp e=>
  ⟨.ref s.heap.objs.size,_,I.laid (t':=s.toks) kp (nL _) (show Hc X.prog X.w _ h' _ (.e ys)from⟨hz,J3,U,O,e⟩),rfl,q _ (I.Hb.fresh (nL _))⟩
 rcases W with W|W
 .have⟨J3,O,pl,hz⟩:=I.list W;have hlen:=O.length;have⟨o,ho,hc,n,hd⟩:=pl.isList;exact call_list_seq p (.inl rfl) ho hc hd (λh' U kp e=>fin J3 O hz h' U kp e) (by rwa[JB]<;>lia)
 .have⟨J3,O,pl,hz⟩:=I.tuple W;have hlen:=O.length;have⟨o,ho,hc,n,hd⟩:=pl;exact call_list_seq p (.inr rfl) ho hc hd (λh' U kp e=>fin J3 O hz h' U kp e) (by rwa[JB]<;>lia)
def iZ:Hx X (.type "tuple") (λxs H Q=>∃p ys,xs=[.ref p]/\((Id X.K H p ys/\∀l,H l=J->Q (.ref l) (upd H l (.t ys)))\/(Im X.K H p ys/\Q (.ref p) H))):=by
 intro J0 s Y H xs us Q I r h;have⟨p,ys,rfl,h⟩:=h;have⟨u,rfl,rx⟩:=dF r;cases rx;rcases h with ⟨O,q⟩|⟨O,q⟩
 .have⟨J3,U,pl,hz⟩:=I.list O;have hlen:=U.length;refine call_tuple_list pl.isList (λh' kp=>?_) (by rwa[JB]<;>lia);have W:b7 X J0 Y H {s with heap:=h'}:=I.kept (t':=s.toks) kp
  have I2:b7 X J0 Y (upd H h'.objs.size (.t ys)) {s with heap:=h'.push {cls:=.type "tuple",data:=.seq J3.toArray}}:=W.laid (t':=s.toks) (λb o e=>gP _ e) (nL _) (show Hc X.prog X.w _ _ _ (.t ys)from⟨hz,J3,U,Ku.new _ _⟩)
  exact⟨.ref h'.objs.size,_,I2,rfl,q _ (W.Hb.fresh (nL _))⟩
 .have⟨J3,U,pl,hz⟩:=I.tuple O;exact call_tuple_same pl ⟨.ref p,H,I,rfl,q⟩
def tyV(K:xA9)(T:String)(x:V)(H:Hp):Prop:=match x with
 |.str _=>T="str"
 |.int _=>T="int"
 |.ref p=>(T="list"/\∃xs,Id K H p xs)\/(T="tuple"/\∃o,K.lookup p=Z o/\o.cls=.type "tuple"/\o.dict=J)\/(T="dict"/\((∃J1,H p=Z (.dK J1))\/∃J1,H p=Z (.dT J1)))\/(T="set"/\∃S n,H p=Z (.set S n))
 |_=>False
def tQ {s:pv} {T:String} {x:V} {v:Value} (I:b7 X J0 Y H s) (r:Da x v) (ty:tyV X.K T x H) :
  s.TypeIs v T/\∀a,v=.ref a->∃ob,s.heap.get? a=Z ob/\ob.dict=J:=by
 cases x with
 |str z=>have⟨t,rfl⟩:=r;cases (show T="str" from ty);exact⟨typeIs_str s z t,λ_ e=>nomatch e⟩
 |int i=>have⟨t,rfl⟩:=r;cases (show T="int" from ty);exact⟨typeIs_int s i t,λ_ e=>nomatch e⟩
 |ref p=>
  cases r;rcases ty with ⟨rfl,xs,W⟩|⟨rfl,o,O,hc,U⟩|⟨rfl,O⟩|⟨rfl,S,n,O⟩
  .have⟨J3,_,pl,_⟩:=I.list W;refine⟨pl.isList.typeIs,λa e=>?_⟩;cases e;have⟨o,n,e,c,U,_⟩:=pl;exact⟨o,e,U⟩
  .refine⟨⟨o,I.Js p o O,hc⟩,λa e=>?_⟩;cases e;exact⟨o,I.Js _ o O,U⟩
  .have z:∃o,s.heap.get? p=Z o/\o.ExactDict:=by
    rcases O with ⟨J1,O⟩|⟨J1,O⟩
    .have⟨_,_,_,_,o,_,_,e,ex,_⟩:=I.Hb p _ O;exact⟨o,e,ex⟩
    .have⟨_,_,_,_,o,_,_,e,ex,_⟩:=I.Hb p _ O;exact⟨o,e,ex⟩
   have⟨o,e,ex⟩:=z;refine⟨⟨o,e,ex.1⟩,λa e2=>?_⟩;cases e2;exact⟨o,e,ex.2.1⟩
  .have⟨o,_,_,_,e,ex,_⟩:=I.Hb p _ O;refine⟨⟨o,e,ex.1⟩,λa e2=>?_⟩;cases e2;exact⟨o,e,ex.2.1⟩
 |_=>exact MJ ty
def tBM0(K:xA9)(T:String)(r:V->B V->Hp->VK->Prop)(to:TE):TE:=λY H Q=>to Y H λx H1=>tyV K T x H1/\r x [] H1 Q
def tBM(K:xA9)(T:String)(r:V->B V->Hp->VK->Prop)(to:TE)(t:TA):TE:=λY H Q=>to Y H λx H1=>tyV K T x H1/\t Y H1 λxs H2=>r x xs H2 Q
variable{o e:J8}{es:B J8}{to:TE}{t:TA}{name:Str}{apos G5:Pos}{T id:String}{r:V->B V->Hp->VK->Prop}
def nA (pa:PlainAttrs T) (W:Slot T name id) (Ug:typeOf (.builtin id)=pure (.type "method_descriptor")) (hm:Sr X id r) (ho:PE X o to)
  (U:NQ o name X.env (eval o X.env)=eval o X.env:=by rfl) (O:(apos.endLine==G5.line)=C:=by rfl):PE X (.Call (.Attribute o name apos) [] [] G5) (tBM0 X.K T r to):=by
 intro J0 s Y H Q I h;refine wpAny_Call_method0_late U O (Hw (ho J0 s Y H _ I h) λv s1 hq88=>?_);have⟨x,H1,I1,r1,ty,q1⟩:=hq88;have⟨h1,h2⟩:=tQ I1 r1 ty;exact⟨T,id,pa,W,Ug,h1,h2,ZT rfl (PySem.evalArgs_none (hm J0 s1 Y H1 x [] v [] Q I1 r1 .nil q1))⟩
def ma (pa:PlainAttrs T) (slot:Slot T name id) (Ug:typeOf (.builtin id)=pure (.type "method_descriptor")) (hm:Sr X id r) (ho:PE X o to) (ha:Ij X (e::es) t)
  (W:NQ o name X.env (eval o X.env)=eval o X.env:=by rfl)
  (Q3:((IK G5 (Hn (e::es) X.env)).all (λx=>!x.1)&&(MO G5 (MN [] X.env)).all (λx=>x.1.isSome)
   && decide ((e::es).length+([]:B NV).length+(if([]:B NV).isEmpty then 0 else 1)<30))=C:=by rfl)
  (U:(apos.endLine==G5.line)=C:=by rfl) (hs:Hn (e::es) X.env=(ξ,eval e X.env)::Hn es X.env:=by rfl) (O:(IK G5 (Hn es X.env)).any (·.1)=ξ:=by rfl) :
  PE X (.Call (.Attribute o name apos) (e::es) [] G5) (tBM X.K T r to t):=by
 intro J0 s Y H Q I h;refine wpAny_Call_method_late W Q3 U rfl (Hw (ho J0 s Y H _ I h) λv s1 hq89=>?_);have⟨x,H1,I1,r1,ty,q1⟩:=hq89;have⟨h1,h2⟩:=tQ I1 r1 ty;refine⟨T,id,pa,slot,Ug,h1,h2,?_⟩;have hA:=ha G5 J0 s1 Y H1 _ I1 q1;rw[hs]at hA ⊢;refine ZT (by show(ξ||(IK G5 (Hn es X.env)).any (·.1))=ξ;rw[O]<;>rfl) (Calls.evalArgs_plain ?_);exact Hw hA λus s2 hq90=>by have⟨vs,H2,I2,r2,q2⟩:=hq90;exact hm J0 s2 Y H2 x vs v us Q I2 r1 r2 q2
end
def Uh(X:Cx)(id:String)(r:V->B V->Hp->VK->Prop):Prop:=
 ∀(J0:B (J4×Obj))(s:pv)(Y:St)(H:Hp)(x:V)(xs:B V)(v:Value)(us:B Value)(Q:VK),b7 X J0 Y H s->Da x v->E3 xs us->r x xs H Q→
  wpAny (model X.prog X.w) X.A (call (.builtin id) (v::us)) (EP X J0 Y Q) X.xe s
def E3.one:∀{x:V}{us:B Value},E3 [x] us->∃u,us=[u]/\Da x u
 |_,_,.cons r .nil=>⟨_,rfl,r⟩
def E3.zero:∀{us:B Value},E3 [] us->us=[]
 |_,.nil=>rfl
theorem E3.eraseIdx:∀{xs:B V}{us:B Value}(i:Nat),E3 xs us->E3 (xs.eraseIdx i) (us.eraseIdx i)
 |_,_,_,.nil=>.nil
 |_,_,0,.cons _ t=>t
 |_,_,i+1,.cons r t=>.cons r (E3.eraseIdx i t)
theorem E3.rep(h:E3 xs us):∀k:Nat,E3 (I0 k xs).flatten (I0 k us).flatten
 |0=>.nil
 |k+1=>by rw[O9,O9,QF,QF];exact E3.append h (E3.rep h k)
theorem jn{α:Type}:∀(l:B α)(i:Nat),(l.eraseIdx i).length<=l.length
 |[],_=>nL _
 |_::_,0=>OC _
 |_::r,i+1=>Te (jn r i)
theorem jo (J3:B Value):∀ (k:Nat) (O:B Value),
  Td (λU W=>U++W) O.toArray (I0 k J3.toArray)=(O++(I0 k J3).flatten).toArray
 |0,O=>by simp
 |k+1,O=>by
  have e:O.toArray++J3.toArray=(O++J3).toArray:=by simp
  have e2:(O++J3)++(I0 k J3).flatten=O++(I0 (k+1) J3).flatten:=by rw[O9,QF,NM]
  rw[<- e2,<- jo J3 k (O++J3),<- e,O9,Ta]
variable{t':Nat}
section
variable{X:Cx}{J0:B (J4×Obj)}{Y:St}{H:Hp}{s:pv}{l b:J4}{xs ys zs:B V}
def b7.Q4{n:Nat}{f:Array Value->Array Value}(I:b7 X J0 Y H s)(O:H l=Z (.e xs))
 (e:s.heap.get? l=Z {cls:=.type "list",data:=.seq J3.toArray n}) (W:f J3.toArray=Ht.toArray) (hv:E3 ys Ht) (hz:ys.length<=G6) :
  b7 X J0 Y (upd H l (.e ys)) {s with heap:=s.heap.update l (MQ f),toks:=t'}:=by
 have q:=PySem.IsL.update e f;rw[W]at q;refine I.write (x:=l) (e:=l) (by rw[O];exact trivial) (.inl rfl) (λb' u hb U=>(Sf s.heap (MQ f) (JQ hb)).trans U) ⟨_,q⟩ ?_;exact⟨hz,Ht,_,hv,q⟩
def b7.Q5 (I:b7 X J0 Y H s) (O:E3 ys J3) (hz:ys.length<=G6) :
  b7 X J0 Y (upd H s.heap.objs.size (.e ys)) {s with heap:=s.heap.push {cls:=.type "list",data:=.seq J3.toArray},toks:=t'}:=
 I.laid (λ_ _ q=>gP _ q) (nL _) ⟨hz,J3,0,O,JW _ rfl⟩
def b7.fresh(I:b7 X J0 Y H s):H s.heap.objs.size=J:=I.Hb.fresh (nL _)
def b7.Q6(I:b7 X J0 Y H s)(O:H l=Z (.e xs)):xs.length<=G6/\∃(J3:B Value)(n:Nat),E3 xs J3/\xs.length=J3.length/\s.heap.get? l=Z {cls:=.type "list",data:=.seq J3.toArray n}:=by have⟨z,J3,n,r,e⟩:=I.Hb l _ O;exact⟨z,J3,n,r,r.length,e⟩
def tR{n:Nat}(h:n<=G6):ZR n=ξ:=by unfold ZR;exact decide_eq_false Θ
end
section
variable{X:Cx}
def ya:V->B V->Hp->VK->Prop:=λx vs H Q=>∃l xs y,x=.ref l/\vs=[y]/\H l=Z (.e xs)/\xs.length<G6/\Q .ek (upd H l (.e (xs++[y])))
theorem fJ:Uh X "list.append" ya:=by intro J0 s Y H x vs v us Q I U rv h;have⟨l,xs,y,rfl,rfl,O,hz,q⟩:=h;cases U;have⟨u,rfl,W⟩:=rv.one;have⟨z,J3,n,r,hl,e⟩:=I.Q6 O;refine QN F.slot_list_append ⟨_,e,rfl⟩ F.entry_list_append (F.args_list_append_2 _ _) (PySem.list_append l J3.toArray n u (by rw[JB];lia)) ⟨e,?_⟩;refine⟨.ek,_,I.Q4 (Ht:=J3++[u]) O e Ξ (r.append (.cons W .nil)) ?_,rfl,q⟩;rw[Kj,V2];lia
def BP:V->B V->Hp->VK->Prop:=λx vs H Q=>∃l xs i k y,x=.ref l/\vs=[.int i]/\H l=Z (.e xs)/\-(2^63)<=i/\i<2^63/\Tq i xs.length=Z k/\xs[k]?=Z y/\Q y (upd H l (.e (xs.eraseIdx k)))
def tS:Uh X "list.pop" BP:=by
 intro J0 s Y H x vs v us Q I W rv h;have⟨l,xs,i,k,y,rfl,rfl,U,h1,h2,hk,hy,q⟩:=h;cases W;have⟨u,rfl,ru⟩:=rv.one;have⟨t,rfl⟩:=ru;have⟨z,J3,n,r,hl,e⟩:=I.Q6 U;have⟨w,hw,O⟩:=r.get hy
 refine QN F.slot_list_pop ⟨_,e,rfl⟩ F.entry_list_pop (F.args_list_pop_2 _ _)
  (MeetsSeq.list_pop_at l J3.toArray n i t k w (fitsIndex_both h1 h2) (by rw[JB,<- hl];exact hk) (by rw[<- Zd];exact hw) (by rw[JB];lia)) ⟨e,?_⟩
 refine⟨y,_,I.Q4 (Ht:=J3.eraseIdx k) U e ?_ (r.eraseIdx k) ?_,O,q⟩
 .show J3.toArray.eraseIdxIfInBounds k=(J3.eraseIdx k).toArray;rw[List.eraseIdxIfInBounds_toArray]
 .have:=jn xs k;lia
def BQ:V->B V->Hp->VK->Prop:=λx vs H Q=>∃l xs,x=.ref l/\vs=[]/\H l=Z (.e xs)/\Q .ek (upd H l (.e []))
def tT:Uh X "list.clear" BQ:=by intro J0 s Y H x vs v us Q I W rv h;have⟨l,xs,rfl,rfl,U,q⟩:=h;cases W;have O:=rv.zero;subst O;have⟨z,J3,n,r,hl,e⟩:=I.Q6 U;refine QN F.slot_list_clear ⟨_,e,rfl⟩ F.entry_list_clear (F.args_list_clear_1 _) (AutoSeq1.list_clear_list_0 l J3.toArray n (by rw[JB];lia)) ⟨e,?_⟩;exact⟨.ek,_,I.Q4 (Ht:=[]) (ys:=[]) U e rfl .nil (Ml _),rfl,q⟩
def oW{α:Type}(xs:B α)(k:Nat):(I0 k xs).flatten.length=k*xs.length:=by
 induction k with
 |zero=>simp
 |succ k O=>rw[O9,QF,Kj,O,Nat.succ_mul,Nat.add_comm]
end
section
variable{κ:Type}[DecidableEq κ]
noncomputable def bC(J1:B (κ×V))(k:κ):ζ V:=(J1.find? λkv=>decide (kv.1=k)).map (·.2)
noncomputable def ar(J1:B (κ×V))(k:κ)(v:V):B (κ×V):=if(J1.any λkv=>decide (kv.1=k))=C then J1.map (λkv=>if kv.1=k then(kv.1,v)else kv)else J1++[(k,v)]
def eu{p:κ×V}{r:B (κ×V)}{k:κ}(e:p.1=k):bC (p::r) k=Z p.2:=by simp[bC,P6,e]
def cS{p:κ×V}{r:B (κ×V)}{k:κ}(e:¬ p.1=k):bC (p::r) k=bC r k:=by simp[bC,P6,e]
theorem eG(k:κ):∀J1:B (κ×V),(J1.any λkv=>decide (kv.1=k))=(bC J1 k).isSome
 |[]=>rfl
 |p::r=>by
  rw[Pb];by_cases e:p.1=k
  .rwa[eu e,decide_eq_true e,Bool.true_or,Option.isSome_some]
  .rw[cS e,decide_eq_false e,Zh];exact eG k r
def cT(J1:B (κ×V))(k:κ)(v:V):(ar J1 k v).length<=J1.length+1:=by
 unfold ar;split
 .rw[HN];lia
 .rw[Kj,JK,Ny];lia
def tU{J1:B (κ×V)}{k:κ}(v:V)(h:bC J1 k=J):ar J1 k v=J1++[(k,v)]:=by unfold ar;rw[eG,h];exact if_neg Ω
def IW.IH{o:ζ V}{u:ζ Value}(r:IW o u):o.isSome=u.isSome:=by
 cases o with
 |none=>cases u with
  |none=>rfl
  |some _=>exact(show False from r).elim
 |some _=>cases u with
  |none=>exact(show False from r).elim
  |some _=>rfl
def IW.getD{o:ζ V}{u:ζ Value}{d:V}{d':Value}(r:IW o u)(rd:Da d d'):Da (o.getD d) (u.getD d'):=by
 cases o with
 |none=>cases u with
  |none=>exact rd
  |some _=>exact(show False from r).elim
 |some _=>cases u with
  |none=>exact(show False from r).elim
  |some _=>exact r
def KV.val{J1:B (κ×V)}{vs:B (κ×Value)}(r:KV J1 vs)(k:κ):IW (bC J1 k) (QR vs k):=by
 unfold KV at r;induction r with
 |nil=>exact M5
 |@cons p q ps U h t W=>
  have⟨h1,h2⟩:=h;by_cases e:p.1=k
  .have O:q.1=k:=h1.symm.trans e;have b:QR (q::U) k=Z q.2:=by simp[QR,P6,O]
   rw[eu e,b];exact h2
  .have O:¬ q.1=k:=λz=>e (h1.trans z)
   have b:QR (q::U) k=QR U k:=by simp[QR,P6,O]
   rw[cS e,b];exact W
def KV.any{J1:B (κ×V)}{vs:B (κ×Value)}(r:KV J1 vs)(k:κ):(J1.any λkv=>decide (kv.1=k))=vs.any λkv=>decide (kv.1=k):=by
 unfold KV at r;induction r with
 |nil=>rfl
 |cons h t O=>rw[Pb,Pb,O,h.1]
def KV.Q7 {J1:B (κ×V)} {vs:B (κ×Value)} (r:KV J1 vs) (k:κ) (U:Da y u) :
  KV (J1.map λkv=>if kv.1=k then(kv.1,y)else kv) (vs.map λkv=>if kv.1=k then(kv.1,u)else kv):=by
 unfold KV at r ⊢;induction r with
 |nil=>exact .nil
 |@cons p q ps W h t O=>
  rw[Hz,Hz];refine .cons ?_ O;have⟨h1,h2⟩:=h;by_cases e:p.1=k
  .rw[if_pos e,if_pos (h1.symm.trans e)];exact⟨h1,U⟩
  .rw[if_neg e,if_neg (λz=>e (h1.trans z))];exact⟨h1,h2⟩
def KV.put{J1:B (κ×V)}{vs:B (κ×Value)}(r:KV J1 vs)(k:κ)(O:Da y u):KV (ar J1 k y) (stored vs k u):=by
 unfold ar stored;rw[r.any k];by_cases e:(vs.any λkv=>decide (kv.1=k))=C
 .rw[if_pos e,if_pos e];exact r.Q7 k O
 .rw[if_neg e,if_neg e];exact Paired.snoc r ⟨rfl,O⟩
def KV.length{J1:B (κ×V)}{vs:B (κ×Value)}(r:KV J1 vs):J1.length=vs.length:=Paired.length r
end
variable{P:Iz}
def hW{w:J5}{k:rb}(r:Da (kV k) u):(am P w).is k u=C:=by
 cases k with
 |inl i=>have⟨t,e⟩:=(show ∃t,u=Tz i t from r);subst e;exact lZ P w i t
 |inr x=>have⟨t,e⟩:=(show ∃t,u=TB x t from r);subst e;exact l4 P w x t
theorem jp{w:J5}:∀{ks:B rb}{us:B Value},E3 (ks.map kV) us->ItemsAre (am P w) ks us
 |[],_,r=>by rw[Mi]at r;cases r;exact .nil
 |k::ks,_,r=>by
  rw[Hz]at r;cases r with
  |cons h t=>exact .cons (hW h) (jp t)
abbrev KT(H:Hp):B (B rb×V)->B (B rb×J4×Value)->Prop:=Paired λp q=>p.1=q.1/\H q.2.1=Z (.t (p.1.map kV))/\Da p.2 q.2.2
variable{J1:B (B rb×V)}
def KT.val{xs:B (B rb×J4×Value)}(r:KT H J1 xs)(k:B rb):IW (bC J1 k) ((atKey xs k).map (·.2)):=by
 induction r with
 |nil=>exact M5
 |@cons p q ps U h t W=>
  have⟨h1,_,h2⟩:=h;by_cases e:p.1=k
  .have O:q.1=k:=h1.symm.trans e;have b:atKey (q::U) k=Z q.2:=by simp[atKey,P6,O]
   rw[eu e,b];exact h2
  .have O:¬ q.1=k:=λz=>e (h1.trans z)
   have b:atKey (q::U) k=atKey U k:=by simp[atKey,P6,O]
   rw[cS e,b];exact W
def KT.Q7 {xs:B (B rb×J4×Value)} (r:KT H J1 xs) (k:B rb) (U:Da y u) :
  KT H (J1.map λkv=>if kv.1=k then(kv.1,y)else kv) (xs.map (putAt k u)):=by
 induction r with
 |nil=>exact .nil
 |@cons p q ps qs h t O=>
  rw[Hz,Hz];refine .cons ?_ O;have⟨h1,h2,W⟩:=h;unfold putAt;by_cases e:p.1=k
  .rw[if_pos e,if_pos (h1.symm.trans e)];exact⟨h1,h2,U⟩
  .rw[if_neg e,if_neg (λz=>e (h1.trans z))];exact⟨h1,h2,W⟩
def KT.put {xs:B (B rb×J4×Value)} (r:KT H J1 xs) (k:B rb) {b:J4} (hb:H b=Z (.t (k.map kV))) (O:Da y u) :
  KT H (ar J1 k y) (storedH xs k b u):=by
 have e:(J1.any λkv=>decide (kv.1=k))=(atKey xs k).isSome:=by rw[eG,(r.val k).IH,Zy]
 unfold ar storedH;rw[e];by_cases q:(atKey xs k).isSome=C
 .rw[if_pos q,if_pos q];exact r.Q7 k O
 .rw[if_neg q,if_neg q];exact Paired.snoc r ⟨rfl,hb,O⟩
variable{H':Hp}
def KT.keeps{xs:B (B rb×J4×Value)}(r:KT H J1 xs)(O:∀b ys,H b=Z (.t ys)->H' b=Z (.t ys)):KT H' J1 xs:=Paired.M6 r λ_ _ z=>⟨z.1,O _ _ z.2.1,z.2.2⟩
section
variable{P:Iz}{w:J5}{H:Hp}{h:Heap}{a:J4}
def Aa{u:HO}(ok:Jw P w H h)(e:Rd H a u):Hc P w H h a u:=e.ok ok
def gj{J1:B (rb×V)}(ok:Jw P w H h)(e:Rd H a (.dK J1)):J1.length<=G6/\(a==LC)=ξ/\∃vs,KV J1 vs/\h.DictOf (am P w) a vs:=show Hc P w H h a (.dK J1)from Aa ok e
def Ab{J1:B (rb×V)}(ok:Jw P w H h)(e:H a=Z (.dK J1)):J1.length<=G6/\(a==LC)=ξ/\∃vs,KV J1 vs/\h.DictOf (am P w) a vs:=gj ok (.inl e)
def fK{ks:B rb}(ok:Jw P w H h)(e:H a=Z (.t (ks.map kV))):(QO (am P w)).is h ks a:=by have⟨_,J3,r,⟨o,h1,h2,n,O⟩,_⟩:=(show Hc P w H h a (.t (ks.map kV))from ok a _ e);exact⟨o,J3.toArray,n,h1,h2,O,‹jp r›⟩
def cU (ok:Jw P w H h) (e:Rd H a (.dT J1)):J1.length<=G6/\(a==LC)=ξ∧
  ∃xs,KT H J1 xs/\h.DictOfH (QO (am P w)) a xs:=by
 have⟨z,y,xs,r,o,es,ep,h1,h2,h3,h4,h5⟩:=(show Hc P w H h a (.dT J1)from Aa ok e);refine⟨z,y,xs,r,o,es,ep,h1,h2,h3,h4,λx O=>?_,h5⟩
 have all:∀{l:B (B rb×V)}{m:B (B rb×J4×Value)},KT H l m->∀x∈m,(QO (am P w)).is h x.1 x.2.1:=by
  intro l m q;induction q with
  |nil=>intro x O;exact nomatch O
  |@cons p q ps qs U t W=>
   intro x O;rcases IE.mp O with e|O
   .subst e;exact fK ok (by rw[<- U.1];exact U.2.1)
   .exact W x O
 exact all r x O
def ED(ok:Jw P w H h)(e:H a=Z (.dT J1)):J1.length<=G6/\(a==LC)=ξ∧∃xs,KT H J1 xs/\h.DictOfH (QO (am P w)) a xs:=cU ok (.inl e)
end
def IM(H:Hp)(a:J4)(y:V)(r:ζ V):Prop:=(∃J1 k,Rd H a (.dK J1)/\y=kV k/\r=bC J1 k)\/∃J1 k b,Rd H a (.dT J1)/\y=.ref b/\H b=Z (.t (k.map kV))/\r=bC J1 k
def K1(H:Hp)(a:J4)(y v:V)(H':Hp):Prop:=
 (∃J1 k,H a=Z (.dK J1)/\y=kV k/\J1.length<G6/\H'=upd H a (.dK (ar J1 k v)))\/
 ∃J1 k b,H a=Z (.dT J1)/\y=.ref b/\H b=Z (.t (k.map kV))/\J1.length<G6/\H'=upd H a (.dT (ar J1 k v))
variable{a:J4}
def IM.k{J1:B (rb×V)}{k:rb}(e:H a=Z (.dK J1)):IM H a (kV k) (bC J1 k):=.inl ⟨J1,k,.inl e,rfl,rfl⟩
def IM.t{b:J4}{k:B rb}(e:H a=Z (.dT J1))(O:H b=Z (.t (k.map kV))):IM H a (.ref b) (bC J1 k):=.inr ⟨J1,k,b,.inl e,rfl,O,rfl⟩
def K1.k{J1:B (rb×V)}{k:rb}{v:V}(e:H a=Z (.dK J1))(hl:J1.length<G6):K1 H a (kV k) v (upd H a (.dK (ar J1 k v))):=.inl ⟨J1,k,e,rfl,hl,rfl⟩
def K1.t {b:J4} {k:B rb} {v:V} (e:H a=Z (.dT J1)) (O:H b=Z (.t (k.map kV))) (hl:J1.length<G6) :
  K1 H a (.ref b) v (upd H a (.dT (ar J1 k v))):=.inr ⟨J1,k,b,e,rfl,O,hl,rfl⟩
variable{Q:Value->pv->Prop}{h':Heap}
section
variable{X:Cx}{J0:B (J4×Obj)}{Y:St}{H:Hp}{s:pv}{a:J4}{y v:V}{u r:Value}{o:ζ V}{A:Jo}{E:Value->pv->Prop}
def b7.big(I:b7 X J0 Y H s):LC<s.heap.objs.size:=by have h:Lf<s.heap.objs.size:=(I.mod.glob.keeps I.bk).lt;exact OB Ω h
def re (hu:A.units+1<cLine) (I:b7 X J0 Y H s) (g:IM H a y (Z v)) (ry:Da y u) (h:∀ W s',b7 X J0 Y H s'->Da v W->Q W s') :
  wpAny (model X.prog X.w) A (getItem (.ref a) u) Q E s:=by
 rcases g with ⟨J1,k,e,ey,l⟩|⟨J1,k,b,e,ey,eb,l⟩
 .subst ey;have⟨z,hd,vs,U,dd⟩:=gj I.Hb e;have⟨W,hw,O⟩:=IW.some_of (v:=v) (o:=QR vs k) (by rw[l];exact U.val k);exact wpAny_getItem_of (hW ry) dd.mapOf hw (h W _ (I.tok _) O)
 .subst ey;cases (show u=HH b from ry);have⟨z,hd,xs,U,dd⟩:=cU I.Hb e;have⟨W,hw,O⟩:=IW.some_of (v:=v) (o:=(atKey xs k).map (·.2)) (by rw[l];exact U.val k);have⟨p,hp,hp2⟩:=OD.mp hw;refine wpAny_getItem_heap (R9 hu) (fK I.Hb eb) dd hp ?_;rw[hp2];exact h W _ (I.tok _) O
def d_in (hu:A.units+1<cLine) (I:b7 X J0 Y H s) (g:IM H a y o) (ry:Da y u) (h:∀ s',b7 X J0 Y H s'->Q (.bool o.isSome) s') :
  wpAny (model X.prog X.w) A (JL .In u (.ref a)) Q E s:=by
 rcases g with ⟨J1,k,e,W,l⟩|⟨J1,k,b,e,W,eb,l⟩
 .subst W;have⟨z,hd,vs,O,U⟩:=gj I.Hb e;refine wpAny_in_of (hW ry) hd U.mapOf ?_;rw[<- (O.val k).IH,<- l];exact h _ (I.tok _)
 .subst W;cases (show u=HH b from ry);have⟨z,hd,xs,O,U⟩:=cU I.Hb e;refine wpAny_in_heap (R9 hu) (fK I.Hb eb) hd U ?_;have q:=(O.val k).IH;rw[Zy]at q;rw[<- q,<- l];exact h _ (I.tok _)
def yb (hu:A.units+1<cLine) (I:b7 X J0 Y H s) (g:IM H a y o) (ry:Da y u) (h:∀ s',b7 X J0 Y H s'->Q (.bool (!o.isSome)) s') :
  wpAny (model X.prog X.w) A (JL .NotIn u (.ref a)) Q E s:=by
 rcases g with ⟨J1,k,e,W,l⟩|⟨J1,k,b,e,W,eb,l⟩
 .subst W;have⟨z,hd,vs,O,U⟩:=gj I.Hb e;refine wpAny_notIn_of (hW ry) hd U.mapOf ?_;rw[<- (O.val k).IH,<- l];exact h _ (I.tok _)
 .subst W;cases (show u=HH b from ry);have⟨z,hd,xs,O,U⟩:=cU I.Hb e;refine wpAny_notIn_heap (R9 hu) (fK I.Hb eb) hd U ?_;have q:=(O.val k).IH;rw[Zy]at q;rw[<- q,<- l];exact h _ (I.tok _)
def gz {ob:HO} (I:b7 X J0 Y H s) (O:Sj (H a)) (hs:L3 a s.heap h') (U:∃ q,h'.get? a=Z q) (new:Hc X.prog X.w (upd H a ob) h' a ob) :
  b7 X J0 Y (upd H a ob) {s with heap:=h',toks:=t'}:=
 I.write (x:=a) (e:=a) O (.inl rfl) (λb q hb z=>(hs.2 b hb).trans z) U new
def nB {w:J5} {J1:B (rb×V)} {vs:B (rb×Value)} (z:J1.length<=G6) (W:(a==LC)=ξ) (O:KV J1 vs) (U:h'.DictOf (am P w) a vs) :
  Hc P w H' h' a (.dK J1):=⟨z,W,vs,O,U⟩
def rh {Q:Unit->pv->Prop} (hu:A.units+1<cLine) (I:b7 X J0 Y H s) (g:K1 H a y v H') (ry:Da y u) (rv:Da v r) (h:∀ s',b7 X J0 Y H' s'->Q () s') :
  wpAny (model X.prog X.w) A (setItem (.ref a) u r) Q E s:=by
 rcases g with ⟨J1,k,e,ey,l,eH⟩|⟨J1,k,b,e,ey,eb,l,eH⟩
 .subst ey eH;have⟨z,hd,vs,O,dd⟩:=Ab I.Hb e;have hz:vs.length<=G6:=by rw[<- O.length];exact z
  have hl:(ar J1 k v).length<=G6:=by have:=cT J1 k v;lia
  refine wpAny_setItem_pairs (hsz:=hz) (hW ry) dd λh' U hs=>h _ ?_
  have he:∃q,h'.get? a=Z q:=let ⟨q,_,_,W,_⟩:=U;⟨q,W⟩;exact gz I (by rw[e];exact M5) hs he (nB hl hd (O.put k rv) U)
 .subst ey eH;cases (show u=HH b from ry);have⟨z,hd,xs,O,dd⟩:=ED I.Hb e;have hz:xs.length<=G6:=by rw[<- Paired.length O];exact z
  have hl:(ar J1 k v).length<=G6:=by have:=cT J1 k v;lia
  refine wpAny_setItem_heap (hsz:=hz) (R9 hu) (fK I.Hb eb) dd λh' U hs=>h _ ?_
  have⟨q,es,ep,W,h2,h3,h4,_,h5⟩:=U;refine gz I (by rw[e];exact M5) hs ⟨q,W⟩ ⟨hl,hd,_,(O.put k eb rv).keeps λc ys ec=>?_,q,es,ep,W,h2,h3,h4,h5⟩;rw[aa (xp ec e (λz=>nomatch z))];exact ec
end
section
variable{X:Cx}{J0:B (J4×Obj)}{Y:St}{H:Hp}{s:pv}{a:J4}{J1:B (rb×V)}{k:rb}{u:Value}{A:Jo}{E:Value->pv->Prop}
theorem yc(I:b7 X J0 Y H s)(e:H a=Z (.dK J1))(h:∀s',b7 X J0 Y (upd H a (.dK [])) s'->Q .none s'):wpAny (model X.prog X.w) A (call (.builtin "dict.clear") [.ref a]) Q E s:=by have⟨z,hd,vs,U,W⟩:=Ab I.Hb e;refine Wx PySem.F.slot_dict_clear W.typeIs PySem.F.entry_dict_clear (PySem.F.args_dict_clear_1 _) (meets_dict_clear (am X.prog X.w) a) ⟨vs,W,by rw[<- U.length];exact z,λh' O hs=>h _ ?_⟩;have he:∃q,h'.get? a=Z q:=let ⟨q,_,_,hq,_⟩:=O;⟨q,hq⟩;exact gz (t':=s.toks) I (by rw[e];exact M5) hs he (nB (Ml _) hd .nil O)
end
variable{X:Cx}
def mf{s:pv}{o:ζ V}(I:b7 X J0 Y H s)(g:IM H a y o):s.TypeIs (.ref a) "dict":=by
 rcases g with ⟨J1,k,e,_,_⟩|⟨J1,k,b,e,_,_,_⟩
 .have⟨_,_,vs,_,O⟩:=gj I.Hb e;exact O.typeIs
 .have⟨_,_,xs,_,O⟩:=cU I.Hb e;exact O.typeIs
def tV{w:J5}(h:Heap)(hb:LC<h.objs.size):Hc P w H (h.push {cls:=.type "dict",data:=.dict #[]}) h.objs.size (.dK []):=⟨Ml _,beq_eq_false_iff_ne.mpr (JQ (IS hb)),[],.nil,Heap.DictOf.new h⟩
def tW{w:J5}(h:Heap)(hb:LC<h.objs.size):Hc P w H (h.push {cls:=.type "dict",data:=.dict #[]}) h.objs.size (.dT []):=⟨Ml _,beq_eq_false_iff_ne.mpr (JQ (IS hb)),[],.nil,_,#[],0,JW _ rfl,⟨rfl,rfl,rfl⟩,rfl,rfl,Tc⟩
def BR:TE:=λ_ H Q=>∀p,H p=J->Q (.ref p) (upd H p (.dK []))
def BS:TE:=λ_ H Q=>∀p,H p=J->Q (.ref p) (upd H p (.dT []))
section
variable{X:Cx}{pos:Pos}
def tX:PE X (.Dict [] [] pos) BR:=λJ0 s Y H Q I h=>wpAny_Dict_empty ⟨.ref s.heap.objs.size,_,I.laid (a:=s.heap.objs.size) (o:=.dK []) (t':=s.toks) (λ_ _ q=>gP _ q) (nL _) (tV s.heap I.big),rfl,h _ (I.Hb.fresh (nL _))⟩
def tY:PE X (.Dict [] [] pos) BS:=λJ0 s Y H Q I h=>wpAny_Dict_empty ⟨.ref s.heap.objs.size,_,I.laid (a:=s.heap.objs.size) (o:=.dT []) (t':=s.toks) (λ_ _ q=>gP _ q) (nL _) (tW s.heap I.big),rfl,h _ (I.Hb.fresh (nL _))⟩
end
structure M2(X:Cx)(o:J8)(m:Str)(apos:Pos)(e f:J8)(G5:Pos):Prop where
 base:NQ o m X.env (eval o X.env)=eval o X.env
 Ss:((IK G5 (Hn [e,f] X.env)).all (λx=>!x.1)&&(MO G5 (MN [] X.env)).all (λx=>x.1.isSome)
  && decide (([e,f]:List J8).length+([]:List NV).length+(if([]:List NV).isEmpty then 0 else 1)<30))=C
 line:(apos.endLine==G5.line)=C
 trees:IK G5 (Hn [e,f] X.env)=[(ξ,eval e X.env),(ξ,eval f X.env)]
def WW(H:Hp)(a:J4):Prop:=(∃J1,Rd H a (.dK J1))\/∃J1,Rd H a (.dT J1)
def BT {s:pv} (I:b7 X J0 Y H s) (d:WW H a) :
  s.TypeIs (.ref a) "dict"/\(∀b,HH a=.ref b->∃ob,s.heap.get? b=Z ob/\ob.dict=J)/\(a==LC)=ξ:=by
 rcases d with ⟨J1,e⟩|⟨J1,e⟩
 .have⟨_,U,vs,_,O⟩:=gj I.Hb e;refine⟨O.typeIs,λb q=>?_,U⟩;cases q;have⟨ob,_,_,h1,h2,_⟩:=O;exact⟨ob,h1,h2.2.1⟩
 .have⟨_,U,xs,_,O⟩:=cU I.Hb e;refine⟨O.typeIs,λb q=>?_,U⟩;cases q;have⟨ob,_,_,h1,h2,_⟩:=O;exact⟨ob,h1,h2.2.1⟩
section
variable{X:Cx}{J0:B (J4×Obj)}{Y:St}{H:Hp}{s:pv}{a:J4}{y d:V}{u r:Value}{o:ζ V}{A:Jo}{E:Value->pv->Prop}
def BU (hu:A.units+1<cLine) (I:b7 X J0 Y H s) (g:IM H a y o) (ry:Da y u) (rd:Da d r) (h:∀ w' s',b7 X J0 Y H s'->Da (o.getD d) w'->Q w' s') :
  wpAny (model X.prog X.w) A (call (.builtin "dict.get") [.ref a,u,r]) Q E s:=by
 rcases g with ⟨J1,k,e,W,l⟩|⟨J1,k,b,e,W,eb,l⟩
 .subst W;have⟨z,hd,vs,O,U⟩:=gj I.Hb e;refine Wx PySem.F.slot_dict_get U.typeIs PySem.F.entry_dict_get (PySem.F.args_dict_get_3 _ _ _) (meets_dict_get_default (am X.prog X.w) a (hW ry) hd r) ⟨_,U.mapOf,h _ _ (I.tok _) ?_⟩;rw[l];exact(O.val k).getD rd
 .subst W;cases (show u=HH b from ry);have⟨z,hd,xs,O,U⟩:=cU I.Hb e;refine Wx PySem.F.slot_dict_get U.typeIs PySem.F.entry_dict_get (PySem.F.args_dict_get_3 _ _ _) (meetsH_dict_get_default (QO (am X.prog X.w)) a b hd r) ⟨R9 hu,k,xs,fK I.Hb eb,U,h _ _ (I.tok _) ?_⟩;rw[l];exact(O.val k).getD rd
end
def BV(td ty tx:TE):TE:=λY H Q=>td Y H λx H1=>∃a,x=.ref a/\WW H1 a/\ty Y H1 λy H2=>tx Y H2 λz O=>∃o,IM O a y o/\Q (o.getD z) O
section
variable{X:Cx}{o e f:J8}{apos G5:Pos}{td ty tx:TE}
def ua(hu:X.A.units+1<cLine)(ho:PE X o td)(he:PE X e ty)(hf:PE X f tx)(m:M2 X o "get" apos e f G5):PE X (.Call (.Attribute o "get" apos) [e,f] [] G5) (BV td ty tx):=by
 intro J0 s Y H Q I h;refine wpAny_Call_method m.base m.Ss m.line PySem.F.plainAttrs_dict PySem.F.slot_dict_get PySem.F.type_dict_get (Hw (ho J0 s Y H _ I h) λu s1 O=>?_);have⟨x,H1,W,rx,a,ex,d,q1⟩:=O;subst ex;obtain rfl:u=HH a:=rx;have⟨t1,t2,_⟩:=BT W d;refine⟨t1,t2,?_⟩;rw[m.trees]
 refine ZT rfl (Calls.evalArgs_plain (ZU (Hw (he J0 s1 Y H1 _ W q1) λiv s2 ⟨y,H2,I2,ry,q2⟩=>ZU (Hw (hf J0 s2 Y H2 _ I2 q2) λfv s3 ⟨z,H3,I3,rz,ov,g,q3⟩=>Calls.spliced_nil ?_))))
 exact BU hu I3 g ry rz λw' s4 I4 U=>⟨_,H3,I4,U,q3⟩
end
end L2
namespace Att
open PySem PySem.W PySem.Calls PyProof.Rows
variable{P:Params}
def gv{h:Heap}:∀(ns:B Int)(vs:B Value),WellAll P h vs (ns.map WData.int)->IntsAre vs ns:=by
 intro ns;induction ns with
 |nil=>intro vs w;rw[Mi]at w;cases w;exact .nil
 |cons n ns O=>
  intro vs w;rw[Hz]at w;cases w with
  |cons a b=>cases a;exact .cons _ _ (O _ b)
variable{l:OpenLaw}
def rj{n:Nat}(hn:l.most=Z n){h:Heap}{args:B WData}{U:B Value}
 (O:l.row.toRowW.claim.pre args=C) (hwl:WellAll P h U args) :
  ∃a vs ns,U=[HH a]/\args=[WData.list (ns.map WData.int)]/\h.get? a=Z {cls:=.type "list",data:=.seq vs.toArray}/\IntsAre vs ns/\ns.length<=n:=by
 have hsh:WShape.hasAll [] args [.list .int]=C:=(pre_splitW O).1;have hc:l.pre.holds [] {args:=args}=C:=(pre_splitW O).2;have⟨d,r,rfl,h1,h2⟩:=hasAllW_cons hsh;obtain rfl:=hasAllW_nil h2;have⟨xs,rfl,h3⟩:=hasW_list h1;have⟨ns,rfl⟩:=items_int h3
 have hlen:ns.length<=n:=by
  unfold OpenLaw.pre at hc
  have h4:(WTm.not (.lt (.lit (.int (n:Int))) (.len (.arg 0)))).holds [] {args:=[.list (ns.map .int)]}=C:=by have h4:=(holds_andW hc).1;rw[hn]at h4;exact h4
  have h5:=condW_of h4 (w_not (w_lt w_lit (w_len_list (w_arg rfl))));rw[HN]at h5;refine Nat.le_of_not_lt λq=>?_
  have q':(n:Int)<((ns.length:Nat):Int):=by lia
  first
   |(rw[decide_eq_true q']at h5;exact absurd h5 Ω)
   |(simp at h5;lia)
 cases hwl with
 |cons w1 w2=>
  cases w2;cases w1 with
  |list ho W=>exact⟨_,_,ns,rfl,rfl,ho,gv ns _ W,hlen⟩
def rA(l:OpenLaw)(args:B WData):l.row.toRowW.claim.post args (.bool C) args=C:=
 postW_of (r:=l.row.toRowW) (X:=(C==C))
  (show WShape.has [] (.bool C) .bool=C by first|rfl|decide|simp[WShape.has,WShape.arms,WShape.armsAll])
  (show(WTm.eq .res (.lit (.bool C))).value [] {args:=args,res:=Z (.bool C),after:=args}=Z (.bool (C==C))from w_eq_bool (w_res rfl) w_lit) rfl
def Ac{n:Nat}{q:Iz}{W:B Str}{XP:(Str->ζ Value)->Heap->Prop}{YP:J5->Heap->Prop}{d:DefRec}
 (hn:l.most=Z n) (Ui:d.params.defaults=[])
 (call:∀(w:J5)(U O:pv)(mg mb:Str->ζ Value)(fa:J4)(o:Obj)(pm cd doc:Value)(a:J4)(vs:B Value)(ns:B Int),
 Ground q W [] XP w U mg mb O.heap->YP w O.heap→
 O.heap.get? fa=Z o->o.data=.func (docDef d.name d.params d.body d.scope pm cd doc)->O.heap.CodeRec cd d.name->mg d.name=Z (.ref fa)→
 O.heap.get? a=Z {cls:=.type "list",data:=.seq vs.toArray}->IntsAre vs ns->ns.length<=n->O.gens=#[]→
 NC (model l.prog w) Qe (.call (.ref fa) ⟨[.ref a],[]⟩) (λr s'=>r=.ok (.ret (.bool C))/\OldK O.heap s'.heap/\s'.os=O.os/\Pd s'.gens) O) :
  WalkO q W XP YP l.row.toRowW d [] (λf vs=>PySem.call f vs):=by
 intro w U O mg mb G σ fa o pm cd doc dV kV ho hd WS hD hmg hg args vals as hpre hlay hrd hwl hlo;obtain rfl:dV=.none:=Dflts.none hD Ui;obtain rfl:kV=.none:=Dflts.noKw hD;have⟨a,vs,ns,rfl,rfl,Q8,hints,hlen⟩:=rj hn hpre hwl;refine enter_call (Wv (call w U O mg mb fa o pm cd doc a vs ns G σ ho (fd_plain hd) WS hmg Q8 hints hlen hg) λr s' hq=>?_);have⟨rfl,h2,h3,h4⟩:=hq;exact⟨.inl ⟨.bool C,.bool C,[],rfl,λ_=>rfl,.bool C,rA l _,λ_=>⟨Zu,λ_ hm=>(nomatch hm)⟩⟩,h2,h3,h4⟩
end Att
namespace L2
open PySem PySem.Spec PyProof.Rows
theorem jq:∀{vs:B Value}{ns:B Int},IntsAre vs ns->E3 (ns.map V.int) vs
 |_,_,.nil=>.nil
 |_,_,.cons n t h=>.cons ⟨t,rfl⟩ (jq h)
def nC(H:Hp):Prop:=∀b,H b=J\/∃o xs,H b=Z (.Iq o (.e xs))
omit x in
def ub {P:Iz} {w:J5} {K:xA9} {mg mb:Str->ζ Value} {CX:Pk} {k:Nat} {fa a:J4} {fd:NS} {x:Str} {sp:Sp} {s₁:pv} {vs:B Value} {ns:B Int}
  (KX:K.In s₁.heap) (hns:s₁.heap.Ns Lf mg) (hb:s₁.heap.Ns Wy mb) (hbb:∀x:Str,x≠"__name__"->mb x=LZ x) (hlim:s₁.heap.NoLimit) (hg:s₁.gens=#[]) (Uj:l5 K=[])
  (ha:s₁.heap.get? a=Z {cls:=.type "list",data:=.seq vs.toArray}) (hi:IntsAre vs ns) (hl:ns.length<=G6) (hr:Hg k Qe)
  (F:∀base:Heap,K.In base->base.Ns Lf mg->Iu P w K mg base CX k fa fd [x] sp) (Uk:∀(s:pv)(u:Value),BindsTo s fd ⟨[u],[]⟩ [(x,u)])
  (OM:∀H:Hp,nC H->Id K H a (ns.map V.int)->sp [.ref a] H (λv _=>v=.bl C) λ_ _ _=>False)
  (hCX:∀H e s',CX [] H s₁ (λ_ _ _=>False) e s'->False) :
  NC (model P w) Qe (.call (.ref fa) ⟨[.ref a],[]⟩) (λr s'=>r=.ok (.ret (.bool C))/\OldK s₁.heap s'.heap/\s'.os=s₁.os/\Pd s'.gens) s₁:=by
 have rv:=jq hi;have lenV:=hi.length
 -- from an abstract heap in which nothing but MU Q9 may be tracked
 have U:∀ H:Hp,nC H->Id K H a (ns.map V.int)->Jw P w H s₁.heap->(∀ b,H b≠J->b=a)->(H a≠J->K.lookup a=J)→
     NC (model P w) Qe (.call (.ref fa) ⟨[.ref a],[]⟩) (λr s'=>r=.ok (.ret (.bool C))/\OldK s₁.heap s'.heap/\s'.os=s₁.os/\Pd s'.gens) s₁:=by
  intro H hO hS Hb hA hK;have Ib:∀{b:J4}{o:Obj},s₁.heap.get? b=Z o->H b=J->(j3 s₁.heap H).get? b=Z o:=λe n=>sM e n
  have noA:∀{b:J4}{o:Obj}{es:Array Wz}{ep:Nat},s₁.heap.get? b=Z o->o.data=.dict es ep->H b=J:=λ{b o es ep} e d=>by
   cases q:H b with
   |none=>rfl
   |some u=>
    have e':b=a:=hA b (by rw[q];simp);subst e';rw[ha]at e;cases e
    have d':Data.seq vs.toArray _=Data.dict es ep:=d;cases d'
  have O:∀{b:J4}{m:Str->ζ Value},s₁.heap.Ns b m->(j3 s₁.heap H).Ns b m:=λ{b m} Ul=>by have⟨o,es,ep,e,d,r⟩:=Ul;exact⟨o,es,ep,Ib e (noA e d),d,r⟩
  have hKb:K.In (j3 s₁.heap H):=λb o e=>Ib (KX b o e) (by
   cases q:H b with
   |none=>rfl
   |some u=>have e':b=a:=hA b (by rw[q];simp);subst e';rw[hK (by rw[q];simp)]at e;cases e)
  have hM:Mod K mg (j3 s₁.heap H):=⟨hKb,O hns,⟨mb,O hb,hbb⟩,let ⟨mc,h1,h2⟩:=hlim;⟨mc,O h1,h2⟩⟩;have e0:Mr P w K mg (j3 s₁.heap H) Qe [] s₁ H:=⟨rfl,hM,λb o e=>xq e,Nat.le_of_eq (qG _ _),trivial,λb hb=>absurd (show b∈([]:B J4)from hb) Ξ,Hb,.of_eq hg,λp hp=>by rw[Uj]at hp;cases hp⟩;refine Wv ((F _ hKb (O hns)).run Qe [] s₁ H ⟨[.ref a],[]⟩ [.ref a] [.ref a] _ _ hr e0 (Uk s₁ (.ref a)) (.cons rfl .nil) (OM H hO hS)) λr s' h=>?_
  cases r with
  |error e=>exact(hCX H e s' h).elim
  |ok fl=>
   cases fl with
   |next=>exact MJ h
   |brk=>exact MJ h
   |cont=>exact MJ h
   |ret u=>
    have⟨v,H',os,bare,un,hok',r',q⟩:=h;have q':v=.bl C:=q;subst q';obtain rfl:u=Qf C:=r';refine⟨rfl,OldK.of_keep λb o e=>?_,os,bare⟩;cases q:H b with
    |none=>exact un.keep b o e q (by intro z;exact absurd (show b∈([]:B J4)from z) Ξ) Ξ
    |some u=>
     rcases hO b with z|⟨ob,xs,z⟩
     .rw[q]at z;cases z
     .have z2:=un.Kw b ob _ z;have⟨e1,_⟩:=Hb b _ z;have⟨e2,_⟩:=hok' b _ z2;rw[e]at e1;cases e1
      exact e2
 cases hk:K.lookup a with
 |some o=>
  -- MU Q9 is one of MU module's own objects
  have e:=KX a o hk;rw[ha]at e;cases e;refine U (λ_=>J) (λ_=>.inl rfl) (.inr ⟨_,vs.toArray,_,hk,rfl,rfl,rfl,by rw[JB,lenV];exact hl,‹rv›⟩) (λb u z=>by have z':(J:ζ HO)=Z u:=z;cases z') (λb z=>absurd rfl z) λz=>absurd rfl z
 |none=>
  refine U (λb=>if b=a then Z (.Iq {cls:=.type "list",data:=.seq vs.toArray} (.e (ns.map V.int)))else J) (λb=>?_) (.inl (.inr ⟨{cls:=.type "list",data:=.seq vs.toArray},if_pos rfl⟩)) (λb u z=>?_) (λb z=>?_) λ_=>hk
  .by_cases hb:b=a
   .exact .inr ⟨_,_,if_pos hb⟩
   .exact .inl (if_neg hb)
  .by_cases hb:b=a
   .have z':=(if_pos hb).symm.trans z;cases z';subst hb;exact⟨ha,by rw[HN];exact hl,vs,_,rv,ha⟩
   .have z':=(if_neg hb).symm.trans z;cases z'
  .by_cases hb:b=a
   .exact hb
   .exact absurd (if_neg hb) z
def GY {l:PySem.W.OpenLaw} {n k:Nat} {q:Iz} {loose:B Str} {XP:(Str->ζ Value)->Heap->Prop} {YP:J5->Heap->Prop} {d:DefRec} {K:Params->xA9} {CX:J5->Pk} {sp:J5->Sp} {x:Str}
  (hn:l.most=Z n) (hn2:n<=G6) (Ui:d.params.defaults=[]) (hr:Hg k Qe)
  (hY:∀(w:J5)(h:Heap),YP w h->(K w.params).In h) (Uj:∀w:J5,l5 (K w.params)=[])
  (F:∀(w:J5)(mg:Str->ζ Value)(fa:J4)(h:Heap),(K w.params).In h->h.Ns Lf mg->mg d.name=Z (.ref fa)→
   ∃fd:NS,(∀(s:pv)(u:Value),BindsTo s fd ⟨[u],[]⟩ [(x,u)])∧∀base:Heap,(K w.params).In base->base.Ns Lf mg->Iu l.prog w (K w.params) mg base (CX w) k fa fd [x] (sp w))
  (OM:∀(w:J5)(H:Hp)(a:J4)(ns:B Int),ns.length<=n->nC H->Id (K w.params) H a (ns.map V.int)->sp w [.ref a] H (λv _=>v=.bl C) λ_ _ _=>False)
  (hCX:∀(w:J5)(H:Hp)(s:pv)(e:Value)(s':pv),CX w [] H s (λ_ _ _=>False) e s'->False) :
  PySem.W.WalkO q loose XP YP l.row.toRowW d [] (λf vs=>PySem.call f vs):=by
 refine Att.Ac hn Ui λw s₀ s₁ mg mb fa o pm cd doc a vs ns G σ ho hd WS hmg Q8 U O hg=>?_
 have KX:=hY w _ σ;have⟨fd,hb,hF⟩:=F w mg fa _ KX G.T.g hmg;exact ub KX G.T.g G.T.b G.T.builtins G.T.nolimit hg (Uj w) Q8 U (JS O hn2) hr hF hb (λH hO hS=>OM w H a ns O hO hS) λH e s'=>hCX w H s₁ e s'
end L2
namespace L2
open PySem PySem.Spec PyProof.Rows
abbrev Qn:Pk:=λ_ _ _ _ _ _=>False
abbrev E0:XK:=λ_ _ _=>False
variable{X:Cx}
def jr:cD Qn X E0:=λ_ _ _ _ _ _ _ h=>h.elim
variable{A:Jo}
def jt{k:Nat}(O:Hg k A):A.units+1<cLine:=P9 (Nat.add_le_add_left (by decide:1<=64) _) O.units
def rp(H H':Hp):Prop:=∀b o,H b=Z o->H' b=Z o
def rp.refl(H:Hp):rp H H:=λ_ _ h=>h
variable{H:Hp}
def rp.trans{H1 H2:Hp}(a:rp H H1)(b:rp H1 H2):rp H H2:=λc o h=>b c o (a c o h)
variable{H':Hp}
def rp.free(e:rp H H'){l:J4}(h:H' l=Option.none):H l=Option.none:=by
 cases q:H l with
 |none=>rfl
 |some o=>rw[e l o q]at h;cases h
variable{K:xA9}{a:J4}{xs:B V}
def rp.seq(e:rp H H')(h:Id K H a xs):Id K H' a xs:=by
 rcases h with (h|⟨o,h⟩)|h
 .exact .inl (.inl (e _ _ h))
 .exact .inl (.inr ⟨o,e _ _ h⟩)
 .exact .inr h
section
variable{κ:Type}[DecidableEq κ]
def yd{J1:B (κ×V)}{k:κ}{v:V}(h:bC J1 k=Z v):k∈J1.map (·.1):=by
 have q:(J1.any λkv=>decide (kv.1=k))=C:=by
  rw[eG,h]
  all_goals rfl
 have⟨p,hp,e⟩:=List.any_eq_true.mp q;exact HG.mpr ⟨p,hp,of_decide_eq_true e⟩
end
variable{nm:String}
section
variable{prog:Iz}{w:J5}{κ:Type}[DecidableEq κ]{kn:HeapKind prog w κ}{A:Jo}{E:Value->pv->Prop}{s:pv}
def EE{b:J4}{oa ob:Obj}{es fs:Array Wz}{ep fp:Nat}{xs ys:B (κ×J4×Value)}{Q:Bool->pv->Prop}{e:Nat->Bool}
 (ha:(a==LC)=ξ) (hb:(b==LC)=ξ) (ru:kn.room A)
 (h1:s.heap.get? a=Z oa) (h2:oa.data=.dict es ep) (h3:es.toList=xs.map (entryOfKey kn)) (h4:∀x∈xs,kn.is s.heap x.1 x.2.1)
 (g1:s.heap.get? b=Z ob) (g2:ob.data=.dict fs fp) (g3:fs.toList=ys.map (entryOfKey kn)) (g4:∀x∈ys,kn.is s.heap x.1 x.2.1) (g5:(ys.map (·.1)).Nodup)
 (hk:xs.map (·.1)=ys.map (·.1)) (hv:∀(i:Nat) x y,xs[i]?=Z x->ys[i]?=Z y->Kt A s x.2.2 y.2.2 (e i)) (hq:Q ((Ir xs.length).all e) s) :
  wpAny (model prog w) A (ZP nm a b) Q E s:=by
 have n1:es.size=xs.length:=by rw[<- S7,h3,HN]
 have n2:fs.size=ys.length:=by rw[<- S7,g3,HN]
 have n3:xs.length=ys.length:=by have:=congrArg ML hk;simpa using this
 unfold ZP Tt;rw[if_neg (by rw[ha];decide),if_neg (by rw[hb];decide)];refine wB (Hf (wB (Hf (wB (NO h1 h2 ?_)))));dsimp only;refine wB (NO g1 g2 ?_);rw[if_neg (by rw[n1,n2,n3];simp)];refine wB (Qc h1 h2 (wB ?_));rw[Std.Legacy.Range.forIn_eq_forIn_range'];rwa[Std.Legacy.Range.size,Wa,Nat.add_sub_cancel,Nat.div_one];rw[n1];refine wpAny_forIn_list _ (λr q z=>z=s/\q=(J,())/\∃i,r=List.range' i (xs.length-i)/\i<=xs.length/\(Ir i).all e=C) _ ?_ ?_ _ _ ⟨rfl,rfl,0,Ξ,Ml _,rfl⟩
 .rintro i r q z ⟨rfl,rfl,j,U,hj,O⟩
  have L5:j<xs.length:=by
   rcases MM j xs.length with h|h
   .exact h
   .rw[zc7 h]at U;cases U
  rw[show xs.length-j=xs.length-(j+1)+1 by lia,Zp]at U;have⟨rfl,U⟩:=List.cons.inj U;have hx:xs[i]?=Z xs[i]:=gQ L5;have hy:ys[i]?=Z ys[i]:=gQ Θ
  have W:ys[i].1=xs[i].1:=by have:=congrArg (λl:B κ=>l[i]?) hk;rwa[HZ,hx,hy,Iy,We]at this;exact this.symm
  generalize xs[i]=x at hx W;generalize hyy:ys[i]=y at hy W;refine wB (NO h1 h2 ?_);rw[entry_at h3 i,hx];show wpAny _ _ (LE [HH x.2.1,x.2.2] _ >>= _) _ _ _;refine wB (OF (wB (wpAny_dictFind_heap (k:=x.1) ru (h4 x (Il hx)) g1 g2 g3 g4 g5 (λhno=>?_) (λj p hj=>?_))))
  .refine absurd ?_ (hno i y.2);rw[hy,<- W]
  .have:j=i:=by
    have h5:(ys.map (·.1))[j]?=Z x.1:=by rw[HZ,hj];rfl
    have h6:(ys.map (·.1))[i]?=Z x.1:=by rw[HZ,hy,<- W];rfl
    exact(List.getElem?_inj (gX h5).1 g5).mp (h5.trans h6.symm)
   subst this;refine wB (NO g1 g2 ?_);rw[entry_at g3 j,hy];refine OF (hv j x y hx hy prog w _ _ ?_);cases he:e j with
   |false=>
    have hf:(Ir xs.length).all e=ξ:=by rw[List.all_eq_false];exact⟨j,KF.mpr L5,by rw[he];decide⟩
    rw[hf]at hq;show wpAny _ _ (if(!false)=C then _ else _) _ _ _;rw[if_pos Ω];exact Hf (Hf hq)
   |true=>show wpAny _ _ (if(!true)=C then _ else _) _ _ _;rw[if_neg Ω];refine wB (Qc h1 h2 ?_);rw[if_neg Ξ];exact Hf ⟨rfl,rfl,j+1,U,L5,by rw[List.range_succ,List.all_append,O];simp[he]⟩
 .rintro q z ⟨rfl,rfl,j,U,hj,O⟩
  have:j=xs.length:=by
   rcases MM j xs.length with h|h
   .rw[show xs.length-j=xs.length-(j+1)+1 by lia,Zp]at U;cases U
   .lia
  subst this;rw[O]at hq;exact Hf hq
end
def uc{α β:Type}{F:α->β->Prop}{l:B α}{m:B β}(r:Paired F l m):∀{i:Nat}{x:α}{y:β},l[i]?=Z x->m[i]?=Z y->F x y:=by
 induction r with
 |nil=>intro i x y h;simp at h
 |cons h _ O=>
  intro i x y h1 h2;cases i with
  |zero=>cases h1;cases h2;exact h
  |succ i=>exact O h1 h2
def kh{α β:Type}{F:α->β->Prop}{l:B α}{m:B β}(r:Paired F l m):l.length=m.length:=by
 induction r with
 |nil=>rfl
 |cons _ _ O=>simp[O]
variable{J1:B (B rb×V)}
def oX{xs:B (B rb×J4×Value)}(r:KT H J1 xs):xs.map (·.1)=J1.map (·.1):=by
 induction r with
 |nil=>rfl
 |cons h _ O=>rwa[Hz,O,h.1]
def ud(vs us:B V):Bool:=(Ir vs.length).all λi=>Nc (vs.getD i .ek) (us.getD i .ek)
def Um(n:Bool):R2:=λx y H Q=>∃a b J1 O,x=.ref a/\y=.ref b/\Rd H a (.dT J1)/\Rd H b (.dT O)/\J1.map (·.1)=O.map (·.1)/\(J1.map (·.2)).all bq=C/\(O.map (·.2)).all bq=C/\Q (.bl (if n then !ud (J1.map (·.2)) (O.map (·.2))else ud (J1.map (·.2)) (O.map (·.2)))) H
variable{J0:B (J4×Obj)}{Y:St}
section
variable{X:Cx}
def EF{s:pv}{b:J4}{O:B (B rb×V)}{Q:Bool->pv->Prop}{E:Value->pv->Prop}(I:b7 X J0 Y H s)(ru:(QO (am X.prog X.w)).room A)
 (h1:Rd H a (.dT J1)) (h2:Rd H b (.dT O)) (hk:J1.map (·.1)=O.map (·.1)) (f1:(J1.map (·.2)).all bq=C) (f2:(O.map (·.2)).all bq=C) (hq:Q (ud (J1.map (·.2)) (O.map (·.2))) s) :
  wpAny (model X.prog X.w) A (ZP nm a b) Q E s:=by
 have⟨_,y1,xs,U,oa,es,ep,p1,_,p2,p3,p4,_⟩:=cU I.Hb h1;have⟨_,y2,ys,r2,ob,fs,fp,q1,_,q2,q3,q4,q5⟩:=cU I.Hb h2;have k1:=oX U;have k2:=oX r2;refine EE (e:=λi=>Nc ((J1.map (·.2)).getD i .ek) ((O.map (·.2)).getD i .ek)) y1 y2 ru p1 p2 p3 p4 q1 q2 q3 q4 q5 (by rw[k1,k2,hk]) (λi x y hx hy=>?_) ?_
 .have hi:=(gX hx).1;have hj:=(gX hy).1;obtain⟨u,W⟩:∃u,J1[i]?=Z u:=⟨_,gQ (by rw[kh U];exact hi)⟩;obtain⟨v,e2⟩:∃v,O[i]?=Z v:=⟨_,gQ (by rw[kh r2];exact hj)⟩;have g1:=uc U W hx;have g2:=uc r2 e2 hy;have d1:(J1.map (·.2)).getD i .ek=u.2:=by rw[KS,HZ,W];rfl
  have d2:(O.map (·.2)).getD i .ek=v.2:=by rw[KS,HZ,e2];rfl
  rw[d1,d2];exact dL g1.2.2 g2.2.2 (Kk.mp f1 _ (HG.mpr ⟨u,Il W,rfl⟩)) (Kk.mp f2 _ (HG.mpr ⟨v,Il e2,rfl⟩))
 .have:xs.length=(J1.map (·.2)).length:=by rw[HN,kh U]
  rw[this];exact hq
theorem BW{k:Nat}(O:Hg k X.A):HI X (JL .Eq) (Um ξ):=by intro J0 s Y H x y v u Q I U W h;have⟨a,b,J1,jvs,rfl,rfl,h1,h2,hk,f1,f2,q⟩:=h;cases (show v=HH a from U);cases (show u=HH b from W);have un:=O.un;have⟨_,y1,xs,r1,d1⟩:=cU I.Hb h1;have⟨_,y2,ys,r2,d2⟩:=cU I.Hb h2;refine wpAny_richCompare_same_room (op:=.Eq) d1.typeIs d2.typeIs PySem.F.slot_dict_eq (NP PySem.F.slot_dict_eq d1.typeIs PySem.F.entry_dict_eq ?_ (PySem.F.args_dict_eq_2 _ _)) Θ;show wpAny _ _ (qx8 "__eq__" ⟨[.ref a,.ref b],[]⟩ >>= _) _ _ s;unfold qx8;refine wB (wB (Tj d1.typeIs ?_));show wpAny _ _ (pure (HH a,HH b)) _ _ s;refine Hf (wB (ZF (T:="dict") d2.typeIs PySem.F.sub_dict_dict ?_));rwa[Zi,Ou,if_false];refine wB (Hf (wB (Hf (wB (EF I (R9 Θ) h1 h2 hk f1 f2 ?_)))));refine Hf ⟨_,rfl,λx=>Value.noConfusion x,?_⟩;rw[show ∀c:Bool,(c==C)=c by decide];exact⟨_,H,I,show Da (.bl _) _ from rfl,q⟩
end
noncomputable def nE(names:B (Str×Pf))(cells:B (Str×J4)):B (Str×J4):=names.foldl (λcs O=>if O.2==M4 then(O.1,(cells.lookup O.1).getD 0)::cs else cs) []
variable{cells:B (Str×J4)}{env:Env}
theorem oY (hc:env.cells=cells):∀ (names:B (Str×Pf)) (O:B (Str×J4)),(∀ x∈names,x.2=.free->∃ c,cells.lookup x.1=Z c)→
  (forIn names O (λ(x:Str×Pf)(r:B (Str×J4))=>if(x.2==M4)=C then(do let c <- cellOf env x.1;pure (RY ((x.1,c)::r)))else(pure (RY r):Sem _)))
   = (pure (names.foldl (λcs nk=>if nk.2==M4 then(nk.1,(cells.lookup nk.1).getD 0)::cs else cs) O):Sem (B (Str×J4)))
 |[],O,_=>rfl
 |x::r,O,h=>by
  have ih:=λO=>oY hc r O λy hy=>h y (Oz _ hy)
  rwa[List.forIn_cons,Ta];cases e:(x.2==M4)with
  |false=>rwa[Ou,if_false];exact ih O
  |true=>
   have⟨c,W⟩:=h x QE ‹e›;have U:cellOf env x.1=pure c:=by unfold cellOf;rw[hc,W]
   rwa[if_true,U,W,Option.getD_some];exact ih _
variable{scope:J9}
def nG{env:Env}(h:∀x∈scope.names,x.2=.free->∃c,env.cells.lookup x.1=Z c):closureFor scope env=pure (nE scope.names env.cells):=by have:=oY (env:=env) rfl scope.names [] h;unfold closureFor nE;rw[<- this];rwa[bind_pure]
omit x in
theorem ju:∀ {names:B (Str×Pf)} {O:B (Str×J4)} {x:Str} {c:J4},(∀ y∈names,y.2=.free->∃ c,cells.lookup y.1=Z c)→
  (names.foldl (λcs nk=>if nk.2==M4 then(nk.1,(cells.lookup nk.1).getD 0)::cs else cs) O).lookup x=Z c->(∀c,O.lookup x=Z c->cells.lookup x=Z c)->cells.lookup x=Z c
 |[],O,x,c,_,h,U=>U c h
 |y::r,O,x,c,hy,h,U=>by
  rwa[Ta]at h;refine ju (λz hz=>hy z (Oz _ hz)) h ?_;intro c' h';split at h'
  .rename_i hf;have⟨c0,e0⟩:=hy y QE ‹hf›;rw[P1]at h';split at h'
   .rename_i hx;have W:x=y.1:=‹hx›
    rw[e0]at h';subst W;rw[e0];simpa using h'
   .exact U c' h'
  .exact U c' h'
variable{names:B (Str×Pf)}
def gk{x:Str}{c:J4}(O:∀y∈names,y.2=.free->∃c,cells.lookup y.1=Z c)(h:(nE names cells).lookup x=Z c):cells.lookup x=Z c:=ju O h λc h=>by simp at h
theorem jv:∀ {names:B (Str×Pf)} {O:B (Str×J4)} {x:Str},((x,M4)∈names\/(O.lookup x).isSome)→
  ((names.foldl (λcs U=>if U.2==M4 then(U.1,(cells.lookup U.1).getD 0)::cs else cs) O).lookup x).isSome
 |[],O,x,h=>‹h›
 |y::r,O,x,h=>by
  rwa[Ta];refine jv ?_;rcases h with h|h
  .rcases IE.mp h with e|h
   .subst e;right;simp[P1]
   .exact .inl h
  .right;split
   .rw[P1];split
    .rfl
    .exact h
   .exact h
def mh{x:Str}(h:(x,M4)∈names):∃c,(nE names cells).lookup x=Z c:=qy6.mp (jv (.inl h))
structure HB(N:List Str)(outer scope:J9)(ρ:List Str)(src:List (Option Nat)):Prop where
 kind:scope.kind=.function
 N1:∀y∈scope.names,y.2≠.cell
 free:∀y∈scope.names,y.2=.free->outer.names.lookup y.1=Z .cell\/outer.names.lookup y.1=Z .free
 names:∀y∈scope.names,y.2=.local->scope.names.lookup y.1=Z .local
 lf:∀y∈scope.names,y.2=.free->scope.names.lookup y.1=Z .free
 len:ρ.length=src.length
 nd:ρ.Nodup
 src:∀p∈ρ.zip src,∀j∈p.2,N[j]?=Z p.1/\(p.1,M4)∈scope.names
def Ka(src:B (ζ Nat))(Y:St):St:=src.map λo=>o.bind λj=>(Y[j]?).join
def JE(X:Cx)(ρ:B Str)(scope:J9)(θ:J4)(s:pv)(H:Hp)(ex:B J4):Cx:={X with N:=ρ,s₀:=s,Lk:=H,env:=compEnvC scope (nE scope.names X.env.cells) θ X.env,outer:=X.stack,ex:=ex,fn:=λ_=>ξ,pn:=[],xe:=λ_ _=>False}
def Qo(X:Cx)(ifs:B J8)(t:TT):Prop:=
 ∀(J0:B (J4×Obj))(s:pv)(Y:St)(H:Hp)(Q:Bool->Hp->Prop),b7 X J0 Y H s->t Y H Q→
  wpAny (model X.prog X.w) X.A (forIn ifs C λc r=>if r=C then do let ok <- isTrue c X.env (eval c X.env);pure (RY ok)else pure (RY r)) (TP X J0 Y Q) X.xe s
def tYes:TT:=λ_ H Q=>Q C H
def ye:Qo X [] tYes:=λJ0 s Y H Q I h=>wpAny_tests_nil ⟨H,I,h⟩
def yf{c:J8}{t:TT}(h:PT X c t):Qo X [c] t:=λJ0 s Y H Q I O=>wpAny_tests_one (h J0 s Y H Q I O)
def Wk(a b:St):Prop:=a.length=b.length/\∀(i:Nat) v,a[i]?=Z (Z v)->b[i]?=Z (Z v)
def jw(src:B (ζ Nat))(wi:TI)(g:TG)(tt:TT)(te:TE):TE:=λY H Q=>wi Y H λψ H1=>∀δ,H1 δ=J->∃W:Nat->Nat->Hp->Prop,(∃m,W 0 m (upd H1 δ (.e [])))/\∀i m H,W i m H→
 (ψ.stop i H/\Q (.ref δ) H)\/(ψ.go i H/\∃N:Hp->Prop,(∀H',N H'->∃U,U<m/\W (i+1) U H')/\∀x H',ψ.OL i H x H'→
  g x (Ka src Y) H' λO H2=>Wk (Ka src Y) O/\tt O H2 λb H3=>if b=C then te O H3 λv H4=>∃ys,H4 δ=Z (.e ys)/\ys.length<G6/\N (upd H4 δ (.e (ys++[v])))else N H3)
variable{pos:Pos}
omit x in
def nH{prog:Iz}{w:J5}{R:Result->pv->Prop}{s:pv}{elt O iter:J8}{ifs:B J8}{it acc:Value}(I:Nat->pv->Prop)
 (turn:∀n s,I n s->wpAny (model prog w) A (LI it) (λr U=>match r with
 |none=>R (.ok .next) U
 |some v=>wpAny (model prog w) A (Wn O it v) (λ_ W=>wpAny (model prog w) A (MP O env v) (λ_ s₂ =>
 wpAny (model prog w) A (forIn ifs C λc r=>if r=C then do let ok <- isTrue c env (eval c env);pure (RY ok)else pure (RY r)) (λok N2 =>
 if ok=C then wpAny (model prog w) A (eval elt env) (λx Uo =>
 wpAny (model prog w) A (call (.builtin "list.append") [acc,x]) (λ_ Up=>∃m,m<n/\I m Up) (λ_ _=>False) Uo) (notedBy (model prog w) A env λe s'=>R (.error e) s') N2
 else ∃m,m<n/\I m N2) (λ_ _=>False) s₂) (λ_ _=>False) W) (λ_ _=>False) U) (λ_ _=>False) s)
 (n:Nat) (h:I n s) :
  NC (model prog w) A (.compLoop (.ListComp elt [⟨O,iter,ifs,0⟩] scope pos) 0 it acc env) R s:=by
 refine codeAny_loop rfl I (λn s hI=>?_) n h;show wpAny _ A ((compTurn (.ListComp elt [⟨O,iter,ifs,0⟩] scope pos) 0 it acc env).onRaise (λx=>do noteFrame x env;theTreesLotGoes x)) _ _ s;refine wpAny_noted ?_;rw[compTurn_list];refine wB (ZG (wB (NR (turn n s hI) (λr U Mu=>?_) λ_ _ h'=>h'.elim)));cases r with
 |none=>exact Hf Mu
 |some v=>
  refine wB (NR Mu (λ_ W Uq=>?_) λ_ _ h'=>h'.elim);refine wB (NR Uq (λ_ s₂ h₂=>wB (NR h₂ (λok N2 Ur=>?_) λ_ _ h'=>h'.elim)) λ_ _ h'=>h'.elim);cases ok with
  |false=>exact Hf ⟨rfl,Ur⟩
  |true=>exact wB (wB (NR Ur (λx Uo h₄=>wB (NR h₄ (λ_ Up h₅=>Hf (Hf ⟨rfl,h₅⟩)) λ_ _ h'=>h'.elim)) λ_ _ h'=>h'))
variable{Q:VK}{G5:Pos}{QQ:Value->pv->Prop}{use:ζ (Value->Sem Unit)}
section
variable{X:Cx}{elt tg iter:J8}{ifs:B J8}{scope:J9}{pos:Pos}{ρ:B Str}{src:B (ζ Nat)}{wi:TI}{g:TG}{tt:TT}{te:TE}
omit x in
def ki{x:Str}(hn:∀y∈scope.names,y.2≠.cell)(h:(relabel scope env).names.lookup x=Z .cell\/(relabel scope env).names.lookup x=Z .free):(x,M4)∈scope.names:=by
 have key:∀k,(relabel scope env).names.lookup x=Z k->(k=.cell\/k=.free)->(x,M4)∈scope.names:=by
  intro k hk U;have W:=PySem.mem_of_lookup hk;unfold relabel at W;have⟨⟨n,k0⟩,O,e⟩:=HG.mp W;dsimp only at e;split at e
  .rename_i hc;rwa[Hm]at hc;have:k0=.free:=‹hc.1.1›
   subst this;cases e;exact O
  .cases e;rcases U with z|z
   .subst z;exact absurd rfl (hn _ O)
   .subst z;exact O
 rcases h with h|h
 .exact key _ h (.inl rfl)
 .exact key _ h (.inr rfl)
def ue{s s1:pv}{fp:B J4}{m1:Str->ζ Value}(S:HB X.N X.env.scope scope ρ src)(I:b7 X J0 Y H s)(hf:∀b∈fp,dI X J0 H b)
 (hfl:∀b∈fp,b<s.heap.objs.size) (hn:s1.heap.Ns s.heap.objs.size m1) (hk:∀b o,s.heap.get? b=Z o->s1.heap.get? b=Z o) (hos:s1.os=s.os) (hg:s1.gens=s.gens) :
  b7 (JE X ρ scope s.heap.objs.size s H fp) [] (Ka src Y) H s1:=by
 have Lp:∀x∈scope.names,x.2=.free->∃c,X.env.cells.lookup x.1=Z c:=λx hx W=>I.ok.has x.1 (S.free x hx W)
 have sub:∀x c,(nE scope.names X.env.cells).lookup x=Z c->X.env.cells.lookup x=Z c:=λx c h=>gk Lp h
 have O:∀c v,s.heap.IsCell c v->s1.heap.IsCell c v:=λc v Km=>by have⟨o,ho,hd⟩:=Km;exact⟨o,hk c o ho,hd⟩
 refine⟨⟨I.ok.mod,S.kind,I.ok.glob,I.ok.blt,nL _,λy z c h1 h2=>I.ok.inj y z c (sub _ _ h1) (sub _ _ h2),λx hx=>mh (ki S.N1 hx),λx c h=>(nomatch h),I.ok.hd,I.ok.frames,.inl rfl,
  λb hb=>⟨IS (hfl b hb),λx c h=>(hf b hb).2.2.2.2.1 x c (sub _ _ h)⟩,I.bs,JS I.ok.OJ I.sz,λb o e hb=>?_,λb hb z=>?_,I.stack,I.MS,λp hp=>I.base.NW _ _ (I.ok.tb p hp)⟩,
  hos,(by rw[hg];exact I.bare),Un.kept hk,⟨m1,hn,λi x v h1 h2 h3=>?_⟩,λx c h=>?_,I.Hb.fresh (Tf _),λx c h=>I.IG x c (sub _ _ h),λp hp=>absurd hp (by simp[JE]),I.Hb.kept hk,?_⟩
 .rcases(hf b hb).2.2.2.1 with z|z
  .exact I.ok.NX b o e z
  .exact absurd (KG (Ii e) (JS I.ok.OJ z)) (Qa _)
 .rcases IE.mp (I.Ll b z)with q|q
  .exact(hf b hb).2.1 q
  .exact(hf b hb).2.2.1 q
 . -- a name taken over
   have h1:ρ[i]?=Z x:=h1;unfold Ka at h2;rw[HZ]at h2;cases hs:src[i]? with
   |none=>rw[hs]at h2;cases h2
   |some o=>
    rw[hs]at h2;rwa[Iy,We]at h2;cases o with
    |none=>cases h2
    |some j=>
     rwa[G8]at h2
     have hmem:(x,Z j)∈ρ.zip src:=by
      have:(ρ.zip src)[i]?=Z (x,Z j):=by rw[qx9];exact⟨h1,hs⟩
      exact Il this
     have⟨hN,W⟩:=S.src _ hmem j rfl
     have hσ:Y[j]?=Z (Z v):=by
      cases e:Y[j]? with
      |none=>rw[e]at h2;cases h2
      |some o=>rw[e]at h2;rwa[Wc]at h2;rw[h2]
     have U:=S.free _ W rfl;have⟨m,hm,hl⟩:=I.loc;have⟨u,r,l⟩:=hl j x v hN hσ (.inr U);refine⟨u,r,?_⟩
     have hloc:X.env.kindOf x≠Z .local:=by show X.env.scope.names.lookup x≠_;rcases U with q|q<;>rw[q]<;>decide
     rcases l with l|⟨_,c,e,z⟩
     .exact absurd l.1 hloc
     .have⟨c',e'⟩:=mh (cells:=X.env.cells) W;have:=sub _ _ e';rw[e]at this;cases this;refine .inr ⟨?_,c,e',O _ _ z⟩;rcases h3 with q|q
      .exact absurd q (by
        -- a name that is free in MU block is not local there
        exact(by
         intro q
         have:scope.names.lookup x=Z .local:=by
          have hb:∀(names:B (Str×Pf)),(names.map λ(n,k)=>if(k==M4&&X.env.scope.kind==.function&&X.env.kindOf n==Z .cell)then(n,Pf.cell)else(n,k)).lookup x=Z .local->names.lookup x=Z .local:=by
           intro names;induction names with
           |nil=>intro h;simp at h
           |cons y r ih=>
            have⟨n,k⟩:=y;intro h;rwa[Hz]at h;by_cases hx:x=n
            .subst hx;split at h
             .simp[P1]at h
             .simpa[P1] using h
            .have hx':(x==n)=ξ:=‹hx›
             split at h
             .rwa[P1,hx']at h ⊢;exact ih h
             .rwa[P1,hx']at h ⊢;exact ih h
          exact hb _ q
         rw[S.lf _ W rfl]at this;cases this))
      .exact q
 .have⟨v,z⟩:=I.cell x c (sub _ _ h);exact⟨v,O _ _ z⟩
 .show(Ka src Y).length=ρ.length;unfold Ka;rw[HN,S.len]
omit x in
def rB{s:pv}{use:ζ (Value->Sem Unit)}(S:HB X.N X.env.scope scope ρ src)(hc:X.calm=C)(hi:PI X tg iter wi)(hg:ρ.Nodup->∀θ s H ex,PG (JE X ρ scope θ s H ex) tg g)(ht:∀θ s H ex,Qo (JE X ρ scope θ s H ex) ifs tt)
 (he:∀(O:pv)(H3:Hp)(fp:B J4)(acc:Value)(pl:B (J4×Obj))(Pm:St)(H9:Hp)(s9:pv)(Q':VK),b7 X J0 Y H3 O->(∀b∈fp,dI X J0 H3 b)->b7 (JE X ρ scope O.heap.objs.size O H3 fp) pl Pm H9 s9->te Pm H9 Q'→
 wpAny (model X.prog X.w) X.A (eval elt (JE X ρ scope O.heap.objs.size O H3 fp).env) (EP (JE X ρ scope O.heap.objs.size O H3 fp) pl Pm Q') (notedBy (model X.prog X.w) X.A (JE X ρ scope O.heap.objs.size O H3 fp).env (λe s'=>Se (model X.prog X.w) X.A X.xe use QQ acc O.heap.objs.size (.error e) s')) s9) (hs:∀x,Pe iter X.env x=pure x) (I:b7 X J0 Y H s) (h:jw src wi g tt te Y H Q)
 (Pn:∀(δ θ:J4)(H':Hp)(s':pv)(m:Str->ζ Value),b7 X J0 Y H' s'->dI X J0 H' θ->s'.heap.Ns θ m->Q (.ref δ) H'->Se (model X.prog X.w) X.A X.xe use QQ (.ref δ) θ (.ok .next) s') :
  wpAny (model X.prog X.w) X.A (ZJ (.ListComp elt [⟨tg,iter,ifs,0⟩] scope pos) scope X.env G5 (newList []) ξ (eval iter X.env) use) QQ X.xe s:=by
 have Lp:∀x∈scope.names,x.2=.free->∃c,X.env.cells.lookup x.1=Z c:=λx hx Us=>I.ok.has x.1 (S.free x hx Us)
 refine wpAny_comprehension_free (use:=use) rfl hs (nG Lp) S.kind S.names (Hw (hi J0 s Y H _ I h) λv s1 h1=>Hw h1 λitv s2 h2=>?_);have⟨it,fp,tn,ψ,H2,rfl,I2,T,Sq,f2,hq⟩:=h2;refine OE ?_;have I3:b7 X J0 Y (upd H2 s2.heap.objs.size (.e [])) {s2 with heap:=s2.heap.push {cls:=.type "list",dict:=J,data:=.seq ([]:B Value).toArray},toks:=s2.toks}:=I2.Q5 (J3:=[]) (ys:=[]) (t':=s2.toks) .nil Ξ;have hD:H2 s2.heap.objs.size=J:=I2.fresh;have⟨W,⟨m0,w0⟩,turn⟩:=hq _ hD;generalize hDn:s2.heap.objs.size=δ at*
 generalize hs3:({s2 with heap:=s2.heap.push {cls:=.type "list",dict:=J,data:=.seq ([]:B Value).toArray},toks:=s2.toks}:pv)=O at*
 have f3:∀b∈fp,dI X J0 (upd H2 δ (.e [])) b:=λb hb=>⟨by have⟨o,e,_⟩:=T.obj _ _ Sq b hb;rw[aa (by rw[<- hDn];exact IS (Ii e))];exact(f2 b hb).1,(f2 b hb).2⟩
 have k23:∀b o,s2.heap.get? b=Z o->O.heap.get? b=Z o:=λb o e=>by rw[<- hs3];exact gP _ e
 have TY:tn 0 O.heap:=T.keep _ _ _ Sq λb _ o e=>k23 b o e
 have fl3:∀b∈fp,b<O.heap.objs.size:=λb hb=>by have⟨o,e,_⟩:=T.obj _ _ TY b hb;exact Ii e
 refine wpAny_newFunctionEnv S.N1 (by intro y hy;simp at hy) (λMu Ra Rb=>?_) S.kind;have k34:∀b o,O.heap.get? b=Z o->Mu.get? b=Z o:=λb o e=>Rb.extBut b o (IS (Ii e)) (gP _ e)
 generalize Su:({O with heap:=Mu,toks:=O.toks+([]:B (Str×Value)).length}:pv)=s4
 have I4:b7 (JE X ρ scope O.heap.objs.size O (upd H2 δ (.e [])) fp) [] (Ka src Y) (upd H2 δ (.e [])) s4:=by rw[<- Su];exact ue S I3 f3 fl3 Ra k34 rfl rfl
 have st4:tn 0 s4.heap:=T.keep _ _ _ TY λb _ o e=>by rw[<- Su];exact k34 b o e
 generalize U:JE X ρ scope O.heap.objs.size O (upd H2 δ (.e [])) fp=X' at*
 have Rc:PG X' tg g:=by rw[<- U];exact hg S.nd _ _ _ _
 have ht':Qo X' ifs tt:=by rw[<- U];exact ht _ _ _ _
 have eP:X'.prog=X.prog:=by rw[<- U];rfl
 have eW:X'.w=X.w:=by rw[<- U];rfl
 have eK:X'.K=X.K:=by rw[<- U];rfl
 have eA:X'.A=X.A:=by rw[<- U];rfl
 have WJ:X'.xe=λ_ _=>False:=by rw[<- U];rfl
 have ec:X'.calm=C:=by rw[<- U];exact hc
 have eE:X'.env=compEnvC scope (nE scope.names X.env.cells) O.heap.objs.size X.env:=by rw[<- U];rfl
 have Mo:∀{H':Hp},(∀b∈fp,H' b=J)->∀b∈fp,dI X' [] H' b:=λhn b hb=>by
  rw[<- U];refine⟨hn b hb,IS (fl3 b hb),λz=>?_,.inl hb,λx c h=>(f3 b hb).2.2.2.2.1 x c (gk Lp h),λp hp=>absurd hp (by simp[JE])⟩;rcases IE.mp (I3.Ll b z)with q|q
  .exact(f3 b hb).2.1 q
  .exact(f3 b hb).2.2.1 q
 -- N3 MU block
 have fin:∀(H':Hp)(s':pv),b7 X' [] (Ka src Y) H' s'->Q (.ref δ) H'->Se (model X.prog X.w) X.A X.xe use QQ (.ref δ) O.heap.objs.size (.ok .next) s':=by
  intro H' s' J' q;rw[<- U]at J';have⟨m,hn,_⟩:=id J'.loc;have hC:H' O.heap.objs.size=J:=J'.free;have un:Un (ND X.stack) fp (upd H2 δ (.e [])) H' O.heap s'.heap:=J'.base;have IA:b7 X J0 Y H' s':=I3.Qk (s':=s') (show s'.os=O.os from J'.os) un J'.Hb J'.bare λb hb=>⟨(f3 b hb).2.2.2.1,(f3 b hb).2.1,(f3 b hb).2.2.2.2.1,(f3 b hb).2.2.2.2.2⟩
  exact Pn δ _ H' s' m IA (I3.M8 (nL _) hC) hn q
 have loop:∀s4':pv,s4'=s4->NC (model X.prog X.w) X.A (.compLoop (.ListComp elt [⟨tg,iter,ifs,0⟩] scope pos) 0 (.ref it) (.ref δ) X'.env) (Se (model X.prog X.w) X.A X.xe use QQ (.ref δ) O.heap.objs.size) s4':=by
  rintro _ rfl;refine nH (λn s'=>∃i H',b7 X' [] (Ka src Y) H' s'/\tn i s'.heap/\(∀b∈fp,H' b=J)/\W i n H') ?_ m0 ⟨0,_,I4,st4,λb hb=>(f3 b hb).1,w0⟩;rintro n s5 ⟨i,H5,I5,Pj,WR,w5⟩;rcases turn i n H5 w5 with ⟨stop,qn⟩|⟨go,N,hN,step⟩
  .have:=T.done X' eP eW eK ec i [] s5 (Ka src Y) H5 (λ_ _=>False) I5 (Mo WR) Pj stop;rw[eA]at this;refine Hw this λr s6 KJ=>?_
   have⟨hr,I6⟩:=KJ;subst hr;exact fin H5 s6 I6 qn
  .have:=T.item X' eP eW eK ec i [] s5 (Ka src Y) H5 (λ_ _=>False) I5 (Mo WR) Pj go;rw[eA]at this;refine Hw this λr s6 LG=>?_
   have⟨u,hr,h6⟩:=LG;subst hr;refine Hw h6 λ_ s7 Ut=>?_
   have⟨x,H7,I7,r7,y7,st7,fr7⟩:=Ut;have I7':=I7.pinned (Mo fr7) (T.obj _ _ st7);have a1:=Rc _ s7 (Ka src Y) H7 x u _ I7' r7 (step x H7 y7);rw[WJ,eP,eW,eA]at a1;refine Hw a1 λ_ s8 hq5=>?_
   have⟨Pm,H8,I8,wk8,q8⟩:=hq5;have a2:=ht' _ s8 Pm H8 _ I8 q8;rw[WJ,eP,eW,eA]at a2;refine Hw a2 λok s9 hq6=>?_
   have⟨H9,I9,q9⟩:=hq6
   have again:∀{Uu:Hp}{s':pv},b7 X' ([]++fF fp s7.heap) Pm Uu s'->N Uu->∃m,m<n/\∃i H',b7 X' [] (Ka src Y) H' s'/\tn i s'.heap/\(∀b∈fp,H' b=J)/\W i m H':=λ{Uu s'} J7 n7=>by have⟨m',hm,w7⟩:=hN Uu n7;refine⟨m',hm,i+1,Uu,J7.JD.weak wk8.1 wk8.2,T.keep _ _ _ st7 λb hb o e=>(J7.pin (b,o) (Ox _ (Ox _ (cB hb e)))).1,λb hb=>?_,w7⟩;have⟨o,e,d⟩:=T.obj _ _ st7 b hb;exact(J7.pin (b,o) (Ox _ (Ox _ (cB hb e)))).2.1
   cases ok with
   |false=>exact again I9 q9
   |true=>
    have I9':b7 (JE X ρ scope O.heap.objs.size O (upd H2 δ (.e [])) fp) ([]++fF fp s7.heap) Pm H9 s9:=by rw[U];exact I9
    have a3:=he O (upd H2 δ (.e [])) fp (.ref δ) _ Pm H9 s9 _ I3 f3 I9' q9;rw[U]at a3;refine Hw a3 λv s10 Uv=>?_
    have⟨y,H10,I10,r10,ys,hl,hz,q10⟩:=Uv;have a4:=fJ (X:=X') _ s10 Pm H10 (.ref δ) [y] (.ref δ) [v] (λ_ H'=>N H') I10 rfl (.cons r10 .nil) ⟨δ,ys,y,rfl,rfl,hl,hz,q10⟩;rw[WJ,eP,eW,eA]at a4;refine Hw a4 λ_ s11 hq8=>?_
    have⟨_,H11,I11,_,q11⟩:=hq8;exact again I11 q11
 have e4:∀c:Env,c=X'.env->NC (model X.prog X.w) X.A (.compStart (.ListComp elt [⟨tg,iter,ifs,0⟩] scope pos) 0 (.ref it) (.ref δ) c) (Se (model X.prog X.w) X.A X.xe use QQ (.ref δ) O.heap.objs.size) s4:=by rintro _ rfl;exact codeAny_compStart_list (loop _ rfl) (T.self _ _ _ _ _ st4 (loop _ rfl))
 exact e4 _ (by rw[eE];rfl)
omit x in
def jx{s:pv}(S:HB X.N X.env.scope scope ρ src)(hc:X.calm=C)(hi:PI X tg iter wi)(W:ρ.Nodup->∀θ s H ex,PG (JE X ρ scope θ s H ex) tg g)(ht:∀θ s H ex,Qo (JE X ρ scope θ s H ex) ifs tt)
 (he:∀θ s H ex,PE (JE X ρ scope θ s H ex) elt te) (hs:∀x,Pe iter X.env x=pure x) (I:b7 X J0 Y H s) (h:jw src wi g tt te Y H Q)
 (O:∀(δ θ:J4)(H':Hp)(s':pv)(m:Str->ζ Value),b7 X J0 Y H' s'->dI X J0 H' θ->s'.heap.Ns θ m->Q (.ref δ) H'->Se (model X.prog X.w) X.A X.xe use QQ (.ref δ) θ (.ok .next) s') :
  wpAny (model X.prog X.w) X.A (ZJ (.ListComp elt [⟨tg,iter,ifs,0⟩] scope pos) scope X.env G5 (newList []) ξ (eval iter X.env) use) QQ X.xe s:=
 rB S hc hi W ht (λs3 H3 fp acc pl U H9 s9 Q' _ _ ψ q=>NR (he _ _ _ _ pl s9 U H9 Q' ψ q) (λ_ _ x=>x) λ_ _ x=>MJ x) hs I h O
def b7.but{s:pv}{θ:J4}{W:Heap}(I2:b7 X J0 Y H s)(U:dI X J0 H θ)(sb3:L3 θ s.heap W):b7 X J0 Y H {s with heap:=W}:=by
 have kC:∀b o,b≠θ->s.heap.get? b=Z o->W.get? b=Z o:=λb o hb e=>sb3.extBut b o hb e
 have nm:∀{b:J4},b∉[θ]->b≠θ:=λhb z=>hb (by rw[z];exact QE)
 refine I2.Qk (s':={s with heap:=W}) (ch:=[θ]) rfl ⟨λb o e n hb O=>kC b o (nm O) e,λb o e n hb O=>⟨o.slots,kC b o (nm O) e⟩,λb o e n O=>n,λb o e O=>⟨o,kC b o (nm O) e⟩,λb xs e=>e,λb o u e=>e,λb ps e=>⟨#[],by rw[Array.append_empty];exact e⟩,λb qs e=>e⟩ ?_ I2.bare λb hb=>?_
 .intro b u e;have nb:b≠θ:=λz=>by rw[z,U.1]at e;cases e
  refine(I2.Hb b u e).Kv (λc v WN q=>kC c v ?_ q) (λ_ q=>q) (λ_ _ q=>q) λ_ _ _ q=>q
  rcases WN with z|z
  .rw[z];exact nb
  .intro w;rw[w,U.1]at z;cases z
 .cases R3.mp hb;exact⟨U.2.2.2.1,U.2.1,U.2.2.2.2.1,U.2.2.2.2.2⟩
def uf (S:HB X.N X.env.scope scope ρ src) (hc:X.calm=C) (hi:PI X tg iter wi) (hg:ρ.Nodup->∀ θ s H ex,PG (JE X ρ scope θ s H ex) tg g) (ht:∀ θ s H ex,Qo (JE X ρ scope θ s H ex) ifs tt)
  (he:∀θ s H ex,PE (JE X ρ scope θ s H ex) elt te) (hs:∀x,Pe iter X.env x=pure x:=by intro _;rfl) :
  PE X (.ListComp elt [⟨tg,iter,ifs,0⟩] scope pos) (jw src wi g tt te):=by
 intro J0 s Y H Q I h;rw[eval_ListComp];exact jx (use:=J) S hc hi hg ht he hs I h λδ θ H' s' m U W O q=>⟨m,O,λh' sb=>⟨.ref δ,H',U.but W sb,rfl,q⟩⟩
end
noncomputable def Its(x:Str):It:=⟨λi _=>i<x.cps.size,λi H v H'=>H'=H/\∃c,x.cps[i]?=Z c/\v=.str ⟨#[c]⟩,λi _=>i=x.cps.size⟩
section
variable{X:Cx}{tg:J8}
def iStr(tl:TE):TI:=λY H R=>tl Y H λv H1=>∃x,v=.str x/\R (Its x) H1
theorem jy:∀{ts:B Str}{us:B Value},E3 (ts.map V.str) us->∃l,us=strValues l/\l.map (·.1)=ts
 |[],_,.nil=>⟨[],rfl,rfl⟩
 |x::r,_,.cons h t=>by have⟨O,rfl⟩:=h;have⟨l,U,e2⟩:=jy t;exact⟨(x,O)::l,by rw[U];rfl,by rw[<- e2];rfl⟩
def yg:Sr X "str.join" (λx vs H Q=>∃(a:Str)(l:J4)(ts:B Str),x=.str a/\vs=[.ref l]/\Id X.K H l (ts.map V.str)/\JoinOk a ts=C/\Q (.str (Tx a ts)) H):=by intro J0 s Y H x vs v us Q I U rv h;have⟨a,l,ts,rfl,rfl,O,W,q⟩:=h;have⟨t,rfl⟩:=U;have⟨u,rfl,ru⟩:=rv.one;cases ru;have⟨J3,r,p,hz⟩:=I.list O;have⟨ls,rfl,e2⟩:=jy r;exact SC.join p.isList e2 W λt' k=>⟨.str _,H,I.tok _,⟨_,rfl⟩,q⟩
def kj:Hx X (.type "int") (λxs H Q=>∃x n,xs=[.str x]/\PySem.intText? x=Z n/\x.length<=640/\Q (.int n) H):=by intro J0 s Y H xs us Q I r h;have⟨x,n,rfl,O,hl,q⟩:=h;have⟨u,rfl,U⟩:=dF r;have⟨t,rfl⟩:=U;exact PySem.W.KIN.call_text O hl ⟨.int n,H,I.tok _,⟨_,rfl⟩,q⟩
def oZ{v:Value}{o:ζ Int}(h:IsPart v o):∃p:ζ (Int×Tok),v=partValue p/\o=p.map (·.1):=by
 cases o with
 |none=>exact⟨J,by cases h<;>rfl,rfl⟩
 |some i=>cases h;exact⟨Z (i,_),rfl,rfl⟩
def Uw:V->ζ Int->ζ Int->Hp->VK->Prop:=λx lo hi H Q=>∃z,x=.str z/\z.length<=G6/\Q (.str (Txt.slice z lo hi)) H
def BX:Pl X Uw:=by intro J0 s Y H x v vl vu lo hi sl Q I W O pl U h;have⟨z,rfl,hz,q⟩:=h;have⟨t,rfl⟩:=W;have⟨l,rfl,rfl⟩:=oZ pl;have⟨u,rfl,rfl⟩:=oZ U;refine⟨"str",_,F.slot_str_getitem.lookup,typeIs_str _ _ _,?_⟩;exact wpAny_getItem_str_slice (l:=l) (u:=u) (st:=J) O rfl (post_val_or_str ⟨JS (Txt.slice_le z _ _) hz,λt' k=>⟨.str _,H,I.tok _,⟨_,rfl⟩,q⟩⟩)
end
def i7:LZ "isinstance"=Z (.builtin "isinstance"):=by first|exact PySem.boot_isinstance|exact PyProof.Rows.boot_isinstance|decide +kernel
def kl:LZ "enumerate"=Z (.type "enumerate"):=by first|exact PySem.boot_enumerate|exact PyProof.Rows.boot_enumerate|decide +kernel
structure Re(P:Iz)(w:J5)(K:xA9)(mg:Str->Option Value)(base:Heap)(x:Str)(k:Nat)(ps:List Str)(sp:Sp):Prop where
 ex:∃f fd,mg x=Z (.ref f)/\xG9 K (.ref f)=C/\Io K fd ps []/\Iu P w K mg base Qn k f fd ps sp
section
variable{X:Cx}{k:Nat}{ps:B Str}{sp:Sp}{x:Str}{p pos:Pos}{e:J8}{es:B J8}{t:TA}
def ug (F:Re X.prog X.w X.K X.mg X.base x k ps sp) (hr:Hg k X.A) (hg:Gl X x) (W:Ij X (e::es) t) (U:(x==("__debug__":Str))=ξ:=by decide)
  (he:Hn (e::es) X.env=(ξ,eval e X.env)::Hn es X.env:=by rfl) (O:(IK pos (Hn es X.env)).any (·.1)=ξ:=by rfl):PE X (.Call (.Name x p) (e::es) [] pos) (ji sp [] E0 t):=by
 have⟨f,fd,h1,h2,h3,h4⟩:=F.ex;exact xO h4 hr hg h1 h2 h3 .nil jr W U he O
def rC(F:Re X.prog X.w X.K X.mg X.base x k ps sp)(U:Hg k X.A)(hg:Gl X x)(O:(x==("__debug__":Str))=ξ:=by decide):PE X (.Call (.Name x p) [] [] pos) (ji sp [] E0 ny):=by have⟨f,fd,h1,h2,W,h4⟩:=F.ex;exact tF h4 U hg h1 h2 W .nil jr O
end
noncomputable def uh(N:B Str)(outer scope:J9)(ρ:B Str)(src:B (ζ Nat)):Bool:=
 (match scope.kind with|.function=>C|_=>ξ)&&
 scope.names.all (λy=>decide (y.2≠.cell))&&
 scope.names.all (λy=>!decide (y.2=.free)||(decide (outer.names.lookup y.1=Z .cell)||decide (outer.names.lookup y.1=Z .free)))&&
 scope.names.all (λy=>!decide (y.2=.local)||decide (scope.names.lookup y.1=Z .local))&&
 scope.names.all (λy=>!decide (y.2=.free)||decide (scope.names.lookup y.1=Z .free))&&
 decide (ρ.length=src.length)&&decide ρ.Nodup&&
 (ρ.zip src).all (λp=>match p.2 with|none=>C|some j=>decide (N[j]?=Z p.1)&&decide ((p.1,M4)∈scope.names))
variable{src:B (ζ Nat)}
def HB.of{N:B Str}{outer:J9}{ρ:B Str}(h:uh N outer scope ρ src=C):HB N outer scope ρ src:=by
 unfold uh at h;rwa[Hm,Kk,NL,PZ,decide_eq_true_eq,decide_eq_false_iff_not]at h;have⟨⟨⟨⟨⟨⟨⟨h1,h2⟩,h3⟩,h4⟩,h5⟩,h6⟩,h7⟩,W⟩:=h;refine⟨?_,h2,λy O e=>(h3 y O).resolve_left λz=>z e,λy O e=>(h4 y O).resolve_left λz=>z e,λy O e=>(h5 y O).resolve_left λz=>z e,h6,h7,λp hp j U=>?_⟩
 .revert h1;cases scope.kind<;>simp
 .have:=W p hp;cases e:p.2 with
  |none=>rw[e]at U;cases U
  |some j'=>rw[e]at U this;cases U;simpa using this
def LM(ψ:It)(xs:B V)(ok:Hp->Prop):Prop:=∀i H,ok H->(i<xs.length->ψ.go i H)/\(i=xs.length->ψ.stop i H)/\∀x H',i<xs.length->ψ.OL i H x H'->H'=H/\xs[i]?=Z x
def Mw:LM (Itl K a) xs (λH=>Id K H a xs):=λi H h=>⟨λhi=>⟨xs,xs[i],h,by simp[hi]⟩,λe=>⟨xs,h,Θ⟩,λx H' _ y=>⟨y.1,y.2 xs h⟩⟩
def Nd:LM (Itt K a) xs (λH=>Im K H a xs):=λi H h=>⟨λhi=>⟨xs,xs[i],h,by simp[hi]⟩,λe=>⟨xs,h,Θ⟩,λx H' _ y=>⟨y.1,y.2 xs h⟩⟩
noncomputable def km(lo:Int)(n:Nat):B V:=(Ir n).map λ(i:Nat)=>V.int (lo+i)
def LN{lo:Int}{n:Nat}:LM (WQ lo n) (km lo n) (λ_=>True):=λi H h=>by
 refine⟨λhi=>?_,λe=>?_,λx H' hi y=>?_⟩
 .show i<n;simpa[km] using hi
 .show n<=i;simp[km]at e;lia
 .have⟨e,rfl⟩:=y;refine⟨e,?_⟩;unfold km at hi ⊢;rw[HN,V4]at hi;rw[HZ,List.getElem?_range hi];rfl
noncomputable def signV(x:Str):B V:=x.cps.toList.map λc=>V.str ⟨#[c]⟩
def Ad(src:B (ζ Nat))(g:TG)(tt:TT)(te:TE)(Y:St)(ψ:It)(H1:Hp)(Q:VK)(δ:J4):Prop:=∃W:Nat->Nat->Hp->Prop,(∃m,W 0 m (upd H1 δ (.e [])))/\∀i m H,W i m H→
 (ψ.stop i H/\Q (.ref δ) H)\/(ψ.go i H/\∃N:Hp->Prop,(∀H',N H'->∃U,U<m/\W (i+1) U H')/\∀x H',ψ.OL i H x H'→
  g x (Ka src Y) H' λO H2=>Wk (Ka src Y) O/\tt O H2 λb H3=>if b=C then te O H3 λv H4=>∃ys,H4 δ=Z (.e ys)/\ys.length<G6/\N (upd H4 δ (.e (ys++[v])))else N H3)
variable{wi:TI}{te:TE}
def ui{g:TG}{tt:TT}:jw src wi g tt te Y H Q=wi Y H λψ H1=>∀δ,H1 δ=J->Ad src g tt te Y ψ H1 Q δ:=rfl
def Ux(g:TG)(tb:TS)(δ:Kx)(ψ:It)(Y:St)(H1:Hp):Prop:=∃W:Nat->Nat->St->Hp->Prop,(∃m,W 0 m Y H1)/\∀i m Y H,W i m Y H→ (ψ.stop i H/\δ.nx Y H)\/(ψ.go i H/\∃N:St->Hp->Prop,(∀O H',N O H'->∃m',m'<m/\W (i+1) m' O H')/\∀x H',ψ.OL i H x H'->g x Y H' λU H2=>tb {δ with nx:=N,ct:=N,bk:=δ.nx} U H2)
def yh{g:TG}{tb:TS}{δ:Kx}:TW wi g tb δ Y H=wi Y H λψ H1=>Ux g tb δ ψ Y H1:=rfl
def uj{x:Str}{v:V}(W:Gl X x)(O:∃u,X.mg x=Z u/\Da v u)(U:(x==("__debug__":Str))=ξ:=by decide):PE X (.Name x pos) (tC v):=by have⟨u,h1,h2⟩:=O;exact xu W h1 h2 U
noncomputable def cV(scope outer:J9):J9:={scope with names:=scope.names.map λ(n,k)=>if(k==.free&&outer.kind==.function&&outer.names.lookup n==Z .cell)then(n,.cell)else(n,k)}
noncomputable def cc(sc:J9)(N:B Str)(i:Nat)(x:Str):Bool:=decide (N[i]?=Z x)&&(decide (sc.names.lookup x=Z .local)||(decide (sc.names.lookup x=Z .cell)||decide (sc.names.lookup x=Z .free)))&&!(x==("__debug__":Str))&&!(x==("__classdict__":Str))
noncomputable def mi(sc:J9)(x:Str):Bool:=decide (sc.names.lookup x=Z .local)||decide (sc.names.lookup x=Z .cell)
noncomputable def aI(sc:J9)(x:Str):Bool:=decide (sc.names.lookup x=Z .globalImplicit)&&!(x==("__debug__":Str))&&!decide (x=("__name__":Str))
section
variable{sc:J9}{N:B Str}{i:Nat}{x:Str}
def hZ(h:cc sc N i x=C):N[i]?=Z x:=by unfold cc at h;rwa[Hm,decide_eq_true_eq]at h;exact h.1.1.1
def BY(h:cc sc N i x=C):Vis sc x:=by unfold cc at h;rwa[Hm,NL,decide_eq_true_eq]at h;exact h.1.1.2
def BZ(h:cc sc N i x=C):(x==("__debug__":Str))=ξ:=by unfold cc at h;rwa[Hm,PZ]at h;exact h.1.2
def EG(h:cc sc N i x=C):(x==("__classdict__":Str))=ξ:=by unfold cc at h;rwa[Hm,PZ]at h;exact h.2
def nI(h:mi sc x=C):So sc x:=by unfold mi at h;rwa[NL,decide_eq_true_eq]at h;exact h
def z5(h:aI sc x=C):sc.names.lookup x=Z .globalImplicit:=by unfold aI at h;rwa[Hm,decide_eq_true_eq]at h;exact h.1.1
def cW(h:aI sc x=C):(x==("__debug__":Str))=ξ:=by unfold aI at h;rwa[Hm,PZ]at h;exact h.1.2
def z4(h:aI sc x=C):x≠("__name__":Str):=by unfold aI at h;rwa[Hm,PZ,decide_eq_false_iff_not]at h;exact h.2
end
def ba(X:Cx)(sc:J9):Prop:=X.env.scope=sc
section
variable{X:Cx}{sc:J9}{N:B Str}{x:Str}{pos p:Pos}
def pvD(i:Nat)(h:cc sc N i x=C)(O:ba X sc:=by rfl)(e2:X.N=N:=by rfl):PE X (.Name x pos) (qH i):=by have O:X.env.scope=sc:=O;subst O e2;exact Bc (hZ h) (BY h) (BZ h) (EG h)
def ON(h:aI sc x=C)(O:ba X sc:=by rfl):Gl X x:=by have O:X.env.scope=sc:=O;subst O;exact z5 h
def yi{i:Nat}{e:J8}{pos':Pos}(h:cc sc N i x=C)(hl:mi sc x=C)(U:N.Nodup)(he:PE X e te)(O:ba X sc:=by rfl)(e2:X.N=N:=by rfl)(W:X.fn x=C\/X.env.scope.names.lookup x=Z .local:=by exact .inl rfl)
 (hs:LD e (Z (.Name x pos')) pos.line X.env=pure ξ:=by rfl):PS X (.Assign [.Name x pos'] e pos) (xD te (er i)):=by
 have O:X.env.scope=sc:=O;subst O e2;exact Bp U (hZ h) (nI hl) he hs W
def uk{i:Nat}(h:cc sc N i x=C)(hl:mi sc x=C)(U:N.Nodup)(O:ba X sc:=by rfl)(e2:X.N=N:=by rfl)(W:X.fn x=C\/X.env.scope.names.lookup x=Z .local:=by exact .inl rfl):PG X (.Name x pos) (er i):=by have O:X.env.scope=sc:=O;subst O e2;exact oQ U (hZ h) (nI hl) W
noncomputable def Uy(sc:J9)(x:Str):Bool:=decide (sc.names.lookup x=Z .local)
def um{i:Nat}(h:cc sc N i x=C)(hl:Uy sc x=C)(U:X.N.Nodup)(O:ba X sc)(e2:X.N=N:=by rfl):PG X (.Name x pos) (er i):=by have O:X.env.scope=sc:=O;subst O e2;have hl:X.env.scope.names.lookup x=Z .local:=of_decide_eq_true hl;exact oQ U (hZ h) (.inl hl) (.inr hl)
def uo{v:V}(h:aI sc x=C)(U:∃u,X.mg x=Z u/\Da v u)(O:ba X sc:=by rfl):PE X (.Name x pos) (tC v):=uj (ON h O) U (cW h)
def uq{v:V}{u:Value}(h:aI sc x=C)(U:X.mg x=J)(W:LZ x=Z u)(r:Da v u)(O:ba X sc:=by rfl):PE X (.Name x pos) (tC v):=xw (ON h O) U W r (z4 h) (cW h)
variable{e:J8}{es:B J8}{t:TA}{id T:String}{r:B V->Hp->VK->Prop}{k:Nat}{ps:B Str}{sp:Sp}
def jz (h:aI sc x=C) (hc:Hx X (.builtin id) r) (hm:X.mg x=J) (hv:LZ x=Z (.builtin id)) (W:Ij X (e::es) t) (U:ba X sc:=by rfl)
  (he:Hn (e::es) X.env=(ξ,eval e X.env)::Hn es X.env:=by rfl) (O:(IK pos (Hn es X.env)).any (·.1)=ξ:=by rfl):PE X (.Call (.Name x p) (e::es) [] pos) (WT r t):=
 tJ hc (ON h U) hm hv W (z4 h) (cW h) he O
def dM (h:aI sc x=C) (hc:Hx X (.type T) r) (hm:X.mg x=J) (hv:LZ x=Z (.type T)) (W:Ij X (e::es) t) (U:ba X sc:=by rfl)
  (he:Hn (e::es) X.env=(ξ,eval e X.env)::Hn es X.env:=by rfl) (O:(IK pos (Hn es X.env)).any (·.1)=ξ:=by rfl):PE X (.Call (.Name x p) (e::es) [] pos) (WT r t):=
 qX hc (ON h U) hm hv W (z4 h) (cW h) he O
def rE (h:aI sc x=C) (F:Re X.prog X.w X.K X.mg X.base x k ps sp) (U:Hg k X.A) (ha:Ij X (e::es) t) (W:ba X sc:=by rfl)
  (he:Hn (e::es) X.env=(ξ,eval e X.env)::Hn es X.env:=by rfl) (O:(IK pos (Hn es X.env)).any (·.1)=ξ:=by rfl):PE X (.Call (.Name x p) (e::es) [] pos) (ji sp [] E0 t):=
 ug F U (ON h W) ha (cW h) he O
def nJ(h:aI sc x=C)(F:Re X.prog X.w X.K X.mg X.base x k ps sp)(O:Hg k X.A)(U:ba X sc:=by rfl):PE X (.Call (.Name x p) [] [] pos) (ji sp [] E0 ny):=rC F O (ON h U) (cW h)
variable{tg a b:J8}{ta:TA}
def nK(h:aI sc "range"=C)(U:X.mg "range"=J)(W:Ij X [a] ta)(O:ba X sc:=by rfl)(hs:Hn [a] X.env=[(ξ,eval a X.env)]:=by rfl):PI X tg (.Call (.Name "range" p) [a] [] pos) (z7 ta):=qJ (ON h O) U W hs
end
section
variable{X:Cx}{ρ:B Str}{scope outer:J9}{θ:J4}{s:pv}{H:Hp}{ex:B J4}{x:Str}{pos p:Pos}
def scC(O:ba X outer):ba (JE X ρ scope θ s H ex) (cV scope outer):=by have O:X.env.scope=outer:=O;subst O;rfl
end
set_option genInjectivity true in
inductive Dt where
 |ek|bl (b:Bool)|int (i:Int)|str (x:Str)|t (l:List Dt)|e (l:List Dt)|HC (ks:List rb) (l:List Dt)|HJ (ks:List (List rb)) (l:List Dt)
mutual
noncomputable def KK:Dt->Dt->Bool
 |.ek,.ek=>C
 |.bl a,.bl b=>a==b
 |.bl a,.int j=>(if a then(1:Int)else 0)==j
 |.int i,.bl b=>i==(if b then(1:Int)else 0)
 |.int i,.int j=>i==j
 |.str x,.str y=>x==y
 |.t l,.t m=>ID l m
 |.e l,.e m=>ID l m
 |.HC ks l,.HC js m=>decide (ks=js)&&ID l m
 |.HJ ks l,.HJ js m=>decide (ks=js)&&ID l m
 |_,_=>ξ
noncomputable def ID:B Dt->B Dt->Bool
 |[],[]=>C
 |d::l,e::m=>KK d e&&ID l m
 |_,_=>ξ
end
section
variable{l m:B Dt}{d e:Dt}
def WX:KK (.t l) (.t m)=ID l m:=rfl
def WY:KK (.e l) (.e m)=ID l m:=rfl
def pqc:ID (d::l) (e::m)=(KK d e&&ID l m):=rfl
end
mutual
theorem cX:∀d:Dt,KK d d=C
 |.ek=>rfl
 |.bl b=>by cases b<;>rfl
 |.int i=>beq_self_eq_true i
 |.str x=>beq_self_eq_true x
 |.t l=>Ie l
 |.e l=>Ie l
 |.HC ks l=>LB.mpr ⟨decide_eq_true rfl,Ie l⟩
 |.HJ ks l=>LB.mpr ⟨decide_eq_true rfl,Ie l⟩
theorem Ie:∀l:B Dt,ID l l=C
 |[]=>rfl
 |d::l=>by show(KK d d&&ID l l)=C;rw[cX d,Ie l];rfl
end
mutual
noncomputable def cY:Dt->Nat
 |.t l=>HP l+1
 |.e l=>HP l+1
 |_=>0
noncomputable def HP:B Dt->Nat
 |[]=>0
 |d::l=>max (cY d) (HP l)
end
mutual
def G2(K:xA9)(H:Hp):Dt->V->Prop
 |.ek,v=>v=.ek
 |.bl b,v=>v=.bl b
 |.int i,v=>v=.int i
 |.str x,v=>v=.str x
 |.t l,v=>∃a vs,v=.ref a/\Im K H a vs/\ag K H l vs
 |.e l,v=>∃a vs,v=.ref a/\Id K H a vs/\ag K H l vs
 |.HC ks l,v=>∃a J1,v=.ref a/\Rd H a (.dK J1)/\J1.map (·.1)=ks/\ag K H l (J1.map (·.2))
 |.HJ ks l,v=>∃a J1,v=.ref a/\H a=Z (.dT J1)/\J1.map (·.1)=ks/\ag K H l (J1.map (·.2))
def ag(K:xA9)(H:Hp):B Dt->B V->Prop
 |[],vs=>vs=[]
 |d::l,vs=>∃v ws,vs=v::ws/\G2 K H d v/\ag K H l ws
end
def Jp(H H':Hp):Prop:=∀b o,H b=Z o->(∀ob J1,o≠.Iq ob (.dT J1))->H' b=Z o
def rp.w(e:rp H H'):Jp H H':=λb o h _=>e b o h
section
variable{K:xA9}{H H':Hp}{a:J4}{xs:B V}
def Jp.tup(e:Jp H H')(h:Im K H a xs):Im K H' a xs:=h.imp_left λh=>e _ _ h λ_ _ z=>nomatch z
def Jp.rd{u:HO}(e:Jp H H')(h:Rd H a u)(h1:∀ob J1,u≠.Iq ob (.dT J1))(h2:∀J1,u≠.dT J1):Rd H' a u:=by
 rcases h with h|⟨o,h⟩
 .exact .inl (e _ _ h h1)
 .exact .inr ⟨o,e _ _ h λob J1 z=>by cases z;exact h2 _ rfl⟩
def Jp.seq(e:Jp H H')(h:Id K H a xs):Id K H' a xs:=h.imp_left λh=>e.rd h (λ_ _ z=>nomatch z) λ_ z=>nomatch z
def rp.tup(e:rp H H')(h:Im K H a xs):Im K H' a xs:=e.w.tup h
def rp.rd{u:HO}(e:rp H H')(h:Rd H a u):Rd H' a u:=by
 rcases h with h|⟨o,h⟩
 .exact .inl (e _ _ h)
 .exact .inr ⟨o,e _ _ h⟩
end
mutual
theorem G2.x{K:xA9}{H H':Hp}(e:Jp H H'):∀{d:Dt}{v:V},G2 K H d v->G2 K H' d v
 |.ek,v,h=>h
 |.bl _,v,h=>h
 |.int _,v,h=>h
 |.str _,v,h=>h
 |.t l,v,h=>by unfold G2 at h ⊢;have⟨a,vs,h1,h2,h3⟩:=h;exact⟨a,vs,h1,e.tup h2,ag.x e h3⟩
 |.e l,v,h=>by unfold G2 at h ⊢;have⟨a,vs,h1,h2,h3⟩:=h;exact⟨a,vs,h1,e.seq h2,ag.x e h3⟩
 |.HC ks l,v,h=>by unfold G2 at h ⊢;have⟨a,vs,h1,h2,h3,h4⟩:=h;exact⟨a,vs,h1,e.rd h2 (λ_ _ z=>nomatch z) (λ_ z=>nomatch z),h3,ag.x e h4⟩
 |.HJ ks l,v,h=>by unfold G2 at h ⊢;have⟨a,vs,h1,h2,h3,h4⟩:=h;exact⟨a,vs,h1,e _ _ h2 (λ_ _ z=>nomatch z),h3,ag.x e h4⟩
theorem ag.x{K:xA9}{H H':Hp}(e:Jp H H'):∀{l:B Dt}{vs:B V},ag K H l vs->ag K H' l vs
 |[],vs,h=>h
 |d::l,vs,h=>by unfold ag at h ⊢;have⟨v,ws,h1,h2,h3⟩:=h;exact⟨v,ws,h1,G2.x e h2,ag.x e h3⟩
end
def G2.same{d:Dt}{v:V}(e:rp H H')(h:G2 K H d v):G2 K H' d v:=h.x e.w
def ag.same{l:B Dt}{vs:B V}(e:rp H H')(h:ag K H l vs):ag K H' l vs:=h.x e.w
theorem ag.length:∀{l:B Dt}{vs:B V},ag K H l vs->vs.length=l.length
 |[],vs,h=>by unfold ag at h;rw[h];rfl
 |d::l,vs,h=>by unfold ag at h;have⟨v,ws,rfl,_,O⟩:=h;simp[ag.length O]
theorem ag.get:∀{l:B Dt}{vs:B V}{i:Nat}{d:Dt},ag K H l vs->l[i]?=Z d->∃v,vs[i]?=Z v/\G2 K H d v
 |[],vs,i,d,h,e=>by simp at e
 |d0::l,vs,0,d,h,e=>by unfold ag at h;have⟨v,ws,rfl,h2,_⟩:=h;simp at e;subst e;exact⟨v,rfl,h2⟩
 |d0::l,vs,i+1,d,h,e=>by unfold ag at h;have⟨v,ws,rfl,_,U⟩:=h;have⟨u,O,e2⟩:=ag.get (i:=i) U ‹e›;exact⟨u,‹O›,e2⟩
theorem ag.append:∀{l m:B Dt}{vs ws:B V},ag K H l vs->ag K H m ws->ag K H (l++m) (vs++ws)
 |[],m,vs,ws,h,h'=>by unfold ag at h;rw[h];exact h'
 |d::l,m,vs,ws,h,h'=>by unfold ag at h;have⟨v,us,rfl,h2,O⟩:=h;show ag K H (d::(l++m)) (v::(us++ws));unfold ag;exact⟨v,_,rfl,h2,ag.append O h'⟩
def ag.one{d:Dt}{v:V}(h:G2 K H d v):ag K H [d] [v]:=by unfold ag;exact⟨v,[],rfl,h,by unfold ag;rfl⟩
theorem ag.take:∀{l:B Dt}{vs:B V}(n:Nat),ag K H l vs->ag K H (l.take n) (vs.take n)
 |_,_,0,_=>by simp[ag]
 |[],vs,n+1,h=>by unfold ag at h;rw[h];simp[ag]
 |d::l,vs,n+1,h=>by unfold ag at h;have⟨v,us,rfl,h2,O⟩:=h;show ag K H (d::l.take n) (v::us.take n);unfold ag;exact⟨v,_,rfl,h2,ag.take n O⟩
theorem ag.drop:∀{l:B Dt}{vs:B V}(n:Nat),ag K H l vs->ag K H (l.drop n) (vs.drop n)
 |_,_,0,h=>h
 |[],vs,n+1,h=>by unfold ag at h;rw[h];simp[ag]
 |d::l,vs,n+1,h=>by unfold ag at h;have⟨v,us,rfl,h2,O⟩:=h;exact ag.drop n O
variable{u:B (rb×V)}
section
variable{X:Cx}{J0:B (J4×Obj)}{Y:St}{H:Hp}{s:pv}{K:xA9}
def b7.MV{ys:B V}(I:b7 X J0 Y H s)(h:Id X.K H a xs)(h':Im X.K H a ys):False:=by have⟨J3,r,pl,_⟩:=I.list h;have⟨Ht,W,pt,_⟩:=I.tuple h';have⟨o,n,e,hc,_⟩:=pl;have⟨o',U,O,_⟩:=pt;rw[e]at U;cases U;rw[hc]at O;injection O with z;exact absurd z Ω
def EH{w:B (rb×V)}(h:Rd H a (.dK u))(h':Rd H a (.dK w)):u=w:=by rcases h with h|⟨o,h⟩<;>rcases h' with h'|⟨o',h'⟩<;>rw[h]at h'<;>cases h'<;>rfl
def EI{u w:B (B rb×V)}(h:Rd H a (.dT u))(h':Rd H a (.dT w)):u=w:=by rcases h with h|⟨o,h⟩<;>rcases h' with h'|⟨o',h'⟩<;>rw[h]at h'<;>cases h'<;>rfl
def gD{u:HO}(h:Rd H a u):∃o,H a=Z o:=by
 rcases h with h|⟨o,h⟩
 .exact⟨_,h⟩
 .exact⟨_,h⟩
def b7.MW(I:b7 X J0 Y H s){o:Obj}(h:X.K.lookup a=Z o):H a=J:=(I.bs a o (I.ok.mod.Sn a o h)).2
def b7.N4(I:b7 X J0 Y H s)(h:Im X.K H a xs)(h':Rd H a (.dK u)):False:=by
 rcases h with h|⟨o,_,_,h,_⟩
 .rcases h' with h'|⟨o',h'⟩<;>rw[h]at h'<;>cases h'
 .have⟨o',e⟩:=gD h';rw[I.MW h]at e;cases e
def b7.N5(I:b7 X J0 Y H s){u:B (B rb×V)}(h:Im X.K H a xs)(h':Rd H a (.dT u)):False:=by
 rcases h with h|⟨o,_,_,h,_⟩
 .rcases h' with h'|⟨o',h'⟩<;>rw[h]at h'<;>cases h'
 .have⟨o',e⟩:=gD h';rw[I.MW h]at e;cases e
def b7.N6(I:b7 X J0 Y H s)(h:Id X.K H a xs)(h':Rd H a (.dK u)):False:=by
 rcases h with h|⟨o,_,_,h,_⟩
 .rcases h with h|⟨o,h⟩<;>rcases h' with h'|⟨o',h'⟩<;>rw[h]at h'<;>cases h'
 .have⟨o',e⟩:=gD h';rw[I.MW h]at e;cases e
def b7.N7(I:b7 X J0 Y H s){u:B (B rb×V)}(h:Id X.K H a xs)(h':Rd H a (.dT u)):False:=by
 rcases h with h|⟨o,_,_,h,_⟩
 .rcases h with h|⟨o,h⟩<;>rcases h' with h'|⟨o',h'⟩<;>rw[h]at h'<;>cases h'
 .have⟨o',e⟩:=gD h';rw[I.MW h]at e;cases e
def ur{w:B (B rb×V)}(h:Rd H a (.dK u))(h':Rd H a (.dT w)):False:=by rcases h with h|⟨o,h⟩<;>rcases h' with h'|⟨o',h'⟩<;>rw[h]at h'<;>cases h'
noncomputable def aL:Dt->Nat
 |.ek=>0
 |.bl _=>1
 |.int _=>2
 |.str _=>3
 |.t _=>4
 |.e _=>5
 |.HC _ _=>6
 |.HJ _ _=>7
def br(I:b7 X J0 Y H s){d e:Dt}{v:V}(h:G2 X.K H d v)(h':G2 X.K H e v):aL d=aL e:=by
 cases d<;>cases e<;>first
  |rfl
  |(rwa[G2]at h h';subst h;cases h';done)
  |(rwa[G2]at h h';have⟨_,_,e,_⟩:=h';rw[h]at e;cases e;done)
  |(rwa[G2]at h h';have⟨_,_,e,_⟩:=h;rw[h']at e;cases e;done)
  | (rwa[G2]at h h';have⟨_,_,rfl,h2,_⟩:=h;have⟨_,_,e,O,_⟩:=h';cases e
     first
      |exact(I.N4 h2 O).elim
      |exact(I.N4 O h2).elim
      |exact(I.N5 h2 (.of O)).elim
      |exact(I.N5 O (.of h2)).elim
      |exact(I.MV h2 O).elim
      |exact(I.MV O h2).elim
      |exact(I.N6 h2 O).elim
      |exact(I.N6 O h2).elim
      |exact(I.N7 h2 (.of O)).elim
      |exact(I.N7 O (.of h2)).elim
      |exact(ur h2 (.of O)).elim
      |exact(ur O (.of h2)).elim)
mutual
theorem kt(I:b7 X J0 Y H s):∀(d e:Dt)(v:V),G2 X.K H d v->G2 X.K H e v->KK d e=C:=λd=>by
 match d with
 |.t l=>
  intro e v h h';have hk:=br I h h';cases e<;>first|(simp[aL]at hk;done)|skip
  rwa[G2]at h h';have⟨a,vs,rfl,h2,h3⟩:=h;have⟨b,ws,e,N8,K2⟩:=h';cases e;have:=I.JR h2 N8;subst this;exact Jc I l _ _ h3 K2
 |.e l=>
  intro e v h h';have hk:=br I h h';cases e<;>first|(simp[aL]at hk;done)|skip
  rwa[G2]at h h';have⟨a,vs,rfl,h2,h3⟩:=h;have⟨b,ws,e,N8,K2⟩:=h';cases e;have:=I.Ky h2 N8;subst this;exact Jc I l _ _ h3 K2
 |.HC ks l=>
  intro e v h h';have hk:=br I h h';cases e<;>first|(simp[aL]at hk;done)|skip
  rwa[G2]at h h';have⟨a,vs,rfl,h2,h3,h4⟩:=h;have⟨b,ws,e,N8,K2,h4'⟩:=h';cases e;have:=EH h2 N8;subst this;subst h3 K2;exact LB.mpr ⟨decide_eq_true rfl,Jc I l _ _ h4 h4'⟩
 |.HJ ks l=>
  intro e v h h';have hk:=br I h h';cases e<;>first|(simp[aL]at hk;done)|skip
  rwa[G2]at h h';have⟨a,vs,rfl,h2,h3,h4⟩:=h;have⟨b,ws,e,N8,K2,h4'⟩:=h';cases e;have:=EI (.of h2) (.of N8);subst this;subst h3 K2;exact LB.mpr ⟨decide_eq_true rfl,Jc I l _ _ h4 h4'⟩
 |.ek=>intro e v h h';have hk:=br I h h';cases e<;>first|(simp[aL]at hk;done)|rfl
 |.bl b=>intro e v h h';have hk:=br I h h';cases e<;>first|(simp[aL]at hk;done)|(rwa[G2]at h h';rw[h]at h';cases h';exact cX _)
 |.int b=>intro e v h h';have hk:=br I h h';cases e<;>first|(simp[aL]at hk;done)|(rwa[G2]at h h';rw[h]at h';cases h';exact cX _)
 |.str b=>intro e v h h';have hk:=br I h h';cases e<;>first|(simp[aL]at hk;done)|(rwa[G2]at h h';rw[h]at h';cases h';exact cX _)
theorem Jc(I:b7 X J0 Y H s):∀(l m:B Dt)(vs:B V),ag X.K H l vs->ag X.K H m vs->ID l m=C:=λl=>by
 match l with
 |[]=>
  intro m vs h h';cases m with
  |nil=>rfl
  |cons e m=>unfold ag at h h';have⟨v,ws,e,_⟩:=h';rw[h]at e;cases e
 |d::l=>
  intro m vs h h';cases m with
  |nil=>unfold ag at h h';have⟨v,ws,e,_⟩:=h;rw[h']at e;cases e
  |cons e m=>unfold ag at h h';have⟨v,ws,rfl,h2,h3⟩:=h;have⟨v',ws',e',N8,K2⟩:=h';cases e';rw[pqc,kt I d _ _ h2 N8,Jc I l _ _ h3 K2];rfl
end
end
end L2
namespace L2
open PySem PySem.Spec PyProof.Rows
mutual
def bO:Dt->Dt->Bool
 |.t l,.t m=>IB l m
 |.e l,.e m=>IB l m
 |d,e=>decide (aL d<4)&&decide (aL e<4)
def IB:B Dt->B Dt->Bool
 |d::l,e::m=>bO d e&&IB l m
 |_,_=>C
end
theorem cf:∀{l m:B Dt}{j:Nat}{d e:Dt},IB l m=C->l[j]?=Z d->m[j]?=Z e->bO d e=C
 |[],_,j,d,e,_,h,_=>by simp at h
 |_::_,[],j,d,e,_,_,h=>by simp at h
 |d0::l,O::m,0,d,e,h,h1,h2=>by rwa[IB,Hm]at h;simp at h1 h2;subst h1 h2;exact h.1
 |d0::l,O::m,j+1,d,e,h,h1,h2=>by rwa[IB,Hm]at h;exact cf (j:=j) h.2 ‹h1› ‹h2›
theorem cZ:∀{l:B Dt}{j:Nat}{d:Dt},l[j]?=Z d->cY d<=HP l
 |[],j,d,h=>by simp at h
 |d0::l,0,d,h=>by simp at h;subst h;rwa[HP];exact Nat.le_max_left ..
 |d0::l,j+1,d,h=>by rwa[HP];exact JS (cZ (j:=j) ‹h›) (Nat.le_max_right ..)
def aK(l m:B Dt)(j:Nat):Bool:=KK (l.getD j .ek) (m.getD j .ek)
theorem bf:∀(l m:B Dt),ID l m=((Ir (min l.length m.length)).all (aK l m)&&l.length==m.length)
 |[],[]=>rfl
 |[],_::_=>rfl
 |_::_,[]=>by show ξ=_;simp
 |d::l,e::m=>by
  have O:=bf l m;rwa[pqc,O,JK];rw[show min (l.length+1) (m.length+1)=min l.length m.length+1 by lia,List.range_succ_eq_map,Ks,Zs];have U:aK (d::l) (e::m) 0=KK d e:=rfl
  have e2:(aK (d::l) (e::m) ∘ Nat.succ)=aK l m:=by funext j;rfl
  have W:(l.length+1==m.length+1)=(l.length==m.length):=by rw[RW];simp
  rw[U,e2,W,VZ]
variable{K:xA9}
section
variable{X:Cx}{J0:B (J4×Obj)}{Y:St}{H:Hp}{s:pv}
def aQ{l:B Dt}{vs:B V}{J3:B Value}(h:ag X.K H l vs)(r:E3 vs J3){j:Nat}(U:j<J3.length):∃d v,l[j]?=Z d/\G2 X.K H d v/\Da v J3[j]:=by
 have hl:j<l.length:=by rw[<- h.length,r.length];exact U
 have⟨v,W,e2⟩:=h.get (i:=j) (d:=l[j]) (by simp[hl]);have⟨u,O,e4⟩:=r.get W
 have:J3[j]=u:=by have:=gQ U;rw[this]at O;exact JU O
 exact⟨l[j],v,by simp[hl],e2,by rw[this];exact e4⟩
def Ae(I:b7 X J0 Y H s):∀(n:Nat){A:Jo}{d e:Dt}{v w:V}{u u':Value},cY d<=n->A.units+n<cLine->bO d e=C->G2 X.K H d v->G2 X.K H e w->Da v u->Da w u'->Kt A s u u' (KK d e):=by
 intro n;induction n with
 |zero=>
  intro A d e v w u u' hd hu hc h h' r r'
  cases d<;>cases e<;>first
   |(rwa[G2]at h h';subst h h';exact dL r r' rfl rfl)
   |(rwa[cY]at hd;lia)
   |(simp[bO,aL]at hc)
 |succ n ih=>
  intro A d e v w u u' hd hu hc h h' r r';cases d with
  |t l=>
   cases e with
   |t m=>
    have h0:=h;have h0':=h';rwa[G2]at h h';have⟨a,vs,rfl,h2,h3⟩:=h;have⟨b,ws,rfl,O,K2⟩:=h';cases r;cases r';by_cases W:a=b
    .subst W;have:=kt I _ _ _ h0 h0';rw[this];exact ZZ _
    have⟨J3,rv,pt,_⟩:=I.tuple h2;have⟨Ht,N9,WZ,_⟩:=I.tuple O;have n1:J3.length=l.length:=by rw[<- h3.length,rv.length]
    have n2:Ht.length=m.length:=by rw[<- K2.length,N9.length]
    rwa[WX,WY];rw[bf,<- n1,<- n2];rwa[cY]at hd;rwa[bO]at hc
    have key:=Si.tuples (A:=A) (e:=aK l m) pt WZ Θ (λj h1 h2=>by
     have OO:j<J3.length:=‹h1›
     have O:j<Ht.length:=‹h2›
     have⟨d,v,g1,g2,g3⟩:=aQ h3 rv OO;have⟨e,w,Ob,Rf,Rg⟩:=aQ K2 N9 O;have:aK l m j=KK d e:=by unfold aK;rw[KS,KS,g1,Ob];rfl
     rw[this];have:=ih (A:=A.in1) (JS (cZ g1) Θ) (show A.units+1+n<cLine by lia) (cf hc g1 Ob) g2 Rf g3 Rg;simpa using this)
    have key':Si A s (.ref a) (.ref b) ((Ir (min J3.length Ht.length)).all (aK l m)&&J3.length==Ht.length):=‹key›
    exact ZY W key'
   |_=>exact absurd hc (by simp[bO,aL])
  |e l=>
   cases e with
   |e m=>
    have h0:=h;have h0':=h';rwa[G2]at h h';have⟨a,vs,rfl,h2,h3⟩:=h;have⟨b,ws,rfl,O,K2⟩:=h';cases r;cases r';by_cases W:a=b
    .subst W;have:=kt I _ _ _ h0 h0';rw[this];exact ZZ _
    have⟨J3,rv,pt,_⟩:=I.list h2;have⟨Ht,N9,WZ,_⟩:=I.list O;have n1:J3.length=l.length:=by rw[<- h3.length,rv.length]
    have n2:Ht.length=m.length:=by rw[<- K2.length,N9.length]
    rwa[WX,WY];rw[bf,<- n1,<- n2];rwa[cY]at hd;rwa[bO]at hc;by_cases U:J3.length=Ht.length
    .have key:=Si.lists (A:=A) (e:=aK l m) pt.isList WZ.isList ‹U› Θ (λj h1 h2=>by
      have OO:j<J3.length:=‹h1›
      have O:j<Ht.length:=‹h2›
      have⟨d,v,g1,g2,g3⟩:=aQ h3 rv OO;have⟨e,w,Ob,Rf,Rg⟩:=aQ K2 N9 O;have:aK l m j=KK d e:=by unfold aK;rw[KS,KS,g1,Ob];rfl
      rw[this];have:=ih (A:=A.in1) (JS (cZ g1) Θ) (show A.units+1+n<cLine by lia) (cf hc g1 Ob) g2 Rf g3 Rg;simpa using this)
     have e1:(J3.length==Ht.length)=C:=‹U›
     rw[e1,RX,show min J3.length Ht.length=J3.length by lia];exact ZY W ‹key›
    .have e1:(J3.length==Ht.length)=ξ:=‹U›
     rw[e1,Zg];exact ZY W (qz0 pt.isList WZ.isList ‹U› Θ)
   |_=>exact absurd hc (by simp[bO,aL])
  |ek=>cases e<;>first|(rwa[G2]at h h';subst h h';exact dL r r' rfl rfl)|(simp[bO,aL]at hc)
  |bl b=>cases e<;>first|(rwa[G2]at h h';subst h h';exact dL r r' rfl rfl)|(simp[bO,aL]at hc)
  |int b=>cases e<;>first|(rwa[G2]at h h';subst h h';exact dL r r' rfl rfl)|(simp[bO,aL]at hc)
  |str b=>cases e<;>first|(rwa[G2]at h h';subst h h';exact dL r r' rfl rfl)|(simp[bO,aL]at hc)
  |HC ks l=>cases e<;>(simp[bO,aL]at hc)
  |HJ ks l=>cases e<;>(simp[bO,aL]at hc)
def Af (I:b7 X J0 Y H s) {A:Jo} {d e:Dt} {v w:V} {u u':Value} (hq:(∃ l m,d=.t l/\e=.t m)\/∃ l m,d=.e l/\e=.e m) (hu:A.units+cY d<cLine) (hc:bO d e=C) (h:G2 X.K H d v) (h':G2 X.K H e w) (r:Da v u) (r':Da w u') :
  Si A s u u' (KK d e)/\WH A s u u' (!KK d e):=by
 rcases hq with ⟨l,m,rfl,rfl⟩|⟨l,m,rfl,rfl⟩
 .rwa[G2]at h h';have⟨a,vs,rfl,h2,h3⟩:=h;have⟨b,ws,rfl,U,K2⟩:=h';cases r;cases r';have⟨J3,rv,pt,_⟩:=I.tuple h2;have⟨Ht,N9,W,_⟩:=I.tuple U;have n1:J3.length=l.length:=by rw[<- h3.length,rv.length]
  have n2:Ht.length=m.length:=by rw[<- K2.length,N9.length]
  rwa[WX,WY];rw[bf,<- n1,<- n2];rwa[cY]at hu;rwa[bO]at hc
  have he:∀j (h1:j<J3.toArray.size)(h2:j<Ht.toArray.size),Kt A.in1 s J3.toArray[j] Ht.toArray[j] (aK l m j):=λj h1 h2=>by
   have OO:j<J3.length:=‹h1›
   have U:j<Ht.length:=‹h2›
   have⟨d,v,g1,g2,g3⟩:=aQ h3 rv OO;have⟨e,w,Ob,Rf,Rg⟩:=aQ K2 N9 U;have:aK l m j=KK d e:=by unfold aK;rw[KS,KS,g1,Ob];rfl
   rw[this];have:=Ae I (HP l) (A:=A.in1) (cZ g1) (show A.units+1+HP l<cLine by lia) (cf hc g1 Ob) g2 Rf g3 Rg;simpa using this
  exact⟨‹Si.tuples (A:=A) (e:=aK l m) pt W Θ he›,‹WH.tuples (A:=A) (e:=aK l m) pt W Θ he›⟩
 .rwa[G2]at h h';have⟨a,vs,rfl,h2,h3⟩:=h;have⟨b,ws,rfl,U,K2⟩:=h';cases r;cases r';have⟨J3,rv,pt,_⟩:=I.list h2;have⟨Ht,N9,W,_⟩:=I.list U;have n1:J3.length=l.length:=by rw[<- h3.length,rv.length]
  have n2:Ht.length=m.length:=by rw[<- K2.length,N9.length]
  rwa[WX,WY];rw[bf,<- n1,<- n2];rwa[cY]at hu;rwa[bO]at hc;by_cases O:J3.length=Ht.length
  .have he:∀j (h1:j<J3.toArray.size)(h2:j<Ht.toArray.size),Kt A.in1 s J3.toArray[j] Ht.toArray[j] (aK l m j):=λj h1 h2=>by
    have OO:j<J3.length:=‹h1›
    have U:j<Ht.length:=‹h2›
    have⟨d,v,g1,g2,g3⟩:=aQ h3 rv OO;have⟨e,w,Ob,Rf,Rg⟩:=aQ K2 N9 U;have:aK l m j=KK d e:=by unfold aK;rw[KS,KS,g1,Ob];rfl
    rw[this];have:=Ae I (HP l) (A:=A.in1) (cZ g1) (show A.units+1+HP l<cLine by lia) (cf hc g1 Ob) g2 Rf g3 Rg;simpa using this
   have e1:(J3.length==Ht.length)=C:=‹O›
   rw[e1,RX,show min J3.length Ht.length=J3.length by lia];exact⟨by simpa using Si.lists (A:=A) (e:=aK l m) pt.isList W.isList ‹O› Θ he,by simpa using WH.lists (A:=A) (e:=aK l m) pt.isList W.isList ‹O› Θ he⟩
  .have e1:(J3.length==Ht.length)=ξ:=‹O›
   rw[e1,Zg];exact⟨qz0 pt.isList W.isList ‹O› Θ,WH.lists_lengths pt.isList W.isList ‹O› Θ⟩
def yj(K:xA9)(O:Bool):R2:=λx y H Q=>∃d e,((∃l m,d=.t l/\e=.t m)\/∃l m,d=.e l/\e=.e m)/\G2 K H d x/\G2 K H e y/\bO d e=C/\cY d<=60/\Q (.bl (if O then !KK d e else KK d e)) H
def B0{k:Nat}(hr:Hg k X.A)(hK:X.K=K):HI X (JL .Eq) (yj K ξ):=by subst hK;intro J0 s Y H x y v u Q I rx O h;have⟨d,e,U,W,he,hc,hdp,q⟩:=h;have hu:=hr.units;exact(Af I U Θ hc W he rx O).1 _ _ _ _ ⟨.bl (KK d e),H,I,rfl,q⟩
def B4{k:Nat}(hr:Hg k X.A)(hK:X.K=K):HI X (JL .NotEq) (yj K C):=by subst hK;intro J0 s Y H x y v u Q I rx O h;have⟨d,e,U,W,he,hc,hdp,q⟩:=h;have hu:=hr.units;exact(Af I U Θ hc W he rx O).2 _ _ _ _ ⟨.bl (!KK d e),H,I,rfl,q⟩
end
end L2
namespace L2
open PySem PySem.Spec PyProof.Rows
section
variable{P:Iz}{w:J5}{K:xA9}{mg:Str->ζ Value}{base:Heap}{N:B Str}{qual:Str}{scope:J9}{f:J4}{cd:Value}{A:Jo}{outer:B Env}{s s1:pv}{H H1:Hp}{E:XK}
 {J0:B (J4×Obj)} {Y:St} {x θ dx:J4} {η:Heap}
end
section
variable{X:Cx}{P:Iz}{w:J5}{K:xA9}{mg:Str->ζ Value}{base:Heap}{N:B Str}{qual:Str}{scope:J9}{fa:J4}{cd:Value}{A:Jo}{outer:B Env}{s:pv}{H:Hp}{E:XK}
 {k:Nat} {f θ δ:J4} {fd:NS} {ps ns:B Str} {x:Str} {p pos pos':Pos} {e:J8} {es:B J8} {t:TA}
end
abbrev NT(o:HO):Prop:=∀vs,o≠.t vs
structure HD(F H F' H':Hp):Prop where
 hh:rp H H'
 ff:rp F F'
 fh:rp F' H'
 nw:∀b o,F' b=Z o->F b=Z o\/H b=J\/∃vs,H b=Z (.t vs)
section
variable{F H F' H' F1 H1:Hp}{p:J4}{o:HO}
def HD.refl(h:rp F H):HD F H F H:=⟨rp.refl _,rp.refl _,h,λ_ _ e=>.inl e⟩
def HD.trans(a:HD F H F1 H1)(b:HD F1 H1 F' H'):HD F H F' H':=
 ⟨a.hh.trans b.hh,a.ff.trans b.ff,b.fh,λc o e=>by
  rcases b.nw c o e with z|z|⟨vs,z⟩
  .exact a.nw c o z
  .exact .inr (.inl (a.hh.free z))
  .cases q:H c with
   |none=>exact .inr (.inl rfl)
   |some u=>have:=a.hh c u q;rw[z]at this;cases this;exact .inr (.inr ⟨vs,rfl⟩)⟩
def rp.upd(hp:H p=J):rp H (upd H p o):=λb u e=>by rw[aa (aE e hp)];exact e
def HD.new(h:rp F H)(hp:H p=J):HD F H (upd F p o) (upd H p o) where
 hh:=rp.upd hp
 ff:=rp.upd (h.free hp)
 fh:=λb u e=>by
  by_cases hb:b=p
  .subst hb;rw[ac]at e ⊢;exact e
  .rw[aa hb]at e ⊢;exact h _ _ e
 nw:=λb u e=>by
  by_cases hb:b=p
  .subst hb;exact .inr (.inl hp)
  .rw[aa hb]at e;exact .inl e
def HD.made(h:rp F H)(hp:H p=J):HD F H F (upd H p o) where
 hh:=rp.upd hp
 ff:=rp.refl _
 fh:=h.trans (rp.upd hp)
 nw:=λb u e=>.inl e
end
set_option genInjectivity true in
inductive T where
 |f (d:Dt)|e (l:List Dt)|HC (l:List (rb×Dt))|HJ (l:List (List rb×Dt))
noncomputable def T.d:T->ζ Dt
 |.f d=>Z d
 |.e l=>Z (.e l)
 |.HC l=>Z (.HC (l.map (·.1)) (l.map (·.2)))
 |.HJ l=>Z (.HJ (l.map (·.1)) (l.map (·.2)))
noncomputable def T.own:T->Bool
 |.f _=>ξ
 |_=>C
def LO(K:xA9)(F H:Hp):T->V->(J4->Prop)->Prop
 |.f d,v,_=>G2 K F d v
 |.e l,v,S=>∃a vs,v=.ref a/\S a/\H a=Z (.e vs)/\ag K F l vs
 |.HC l,v,S=>∃a J1,v=.ref a/\S a/\H a=Z (.dK J1)/\J1.map (·.1)=l.map (·.1)/\ag K F (l.map (·.2)) (J1.map (·.2))
 |.HJ l,v,S=>∃a J1,v=.ref a/\S a/\H a=Z (.dT J1)/\J1.map (·.1)=l.map (·.1)/\ag K F (l.map (·.2)) (J1.map (·.2))
def HK(K:xA9)(F H:Hp):Dt->V->Prop
 |.e l,v=>∃a vs,v=.ref a/\Id K H a vs/\ag K F l vs
 |.HC ks l,v=>∃a J1,v=.ref a/\Rd H a (.dK J1)/\J1.map (·.1)=ks/\ag K F l (J1.map (·.2))
 |.HJ ks l,v=>∃a J1,v=.ref a/\H a=Z (.dT J1)/\J1.map (·.1)=ks/\ag K F l (J1.map (·.2))
 |.ek,v=>v=.ek
 |.bl b,v=>v=.bl b
 |.int i,v=>v=.int i
 |.str x,v=>v=.str x
 |.t l,v=>∃a vs,v=.ref a/\Im K F a vs/\ag K F l vs
section
variable{K:xA9}{F H F' H':Hp}{t:T}{v:V}{d:Dt}{S:J4->Prop}
def LO.step(U:rp F F')(W:∀b o,S b->H b=Z o->H' b=Z o)(h:LO K F H t v S):LO K F' H' t v S:=by
 induction t with
 |f d=>exact G2.same U h
 |e l=>have⟨a,vs,e,O,h1,h2⟩:=h;exact⟨a,vs,e,O,W _ _ O h1,h2.same U⟩
 |HC l=>have⟨a,vs,e,O,h1,h2,h3⟩:=h;exact⟨a,vs,e,O,W _ _ O h1,h2,h3.same U⟩
 |HJ l=>have⟨a,vs,e,O,h1,h2,h3⟩:=h;exact⟨a,vs,e,O,W _ _ O h1,h2,h3.same U⟩
def HK.of(O:rp F H)(h:G2 K F d v):HK K F H d v:=by
 cases d with
 |e l=>rwa[G2]at h;have⟨a,vs,e,h1,h2⟩:=h;exact⟨a,vs,e,O.seq h1,h2⟩
 |HC ks l=>rwa[G2]at h;have⟨a,vs,e,h1,h2⟩:=h;exact⟨a,vs,e,O.rd h1,h2⟩
 |HJ ks l=>rwa[G2]at h;have⟨a,vs,e,h1,h2⟩:=h;exact⟨a,vs,e,O _ _ h1,h2⟩
 |t l=>rwa[G2]at h;exact h
 |_=>rwa[G2]at h;exact h
def HK.rep(O:rp F H)(h:HK K F H d v):G2 K H d v:=by
 cases d with
 |e l=>have⟨a,vs,e,h1,h2⟩:=h;rwa[G2];exact⟨a,vs,e,h1,h2.same O⟩
 |HC ks l=>have⟨a,vs,e,h1,h2,U⟩:=h;rwa[G2];exact⟨a,vs,e,h1,h2,U.same O⟩
 |HJ ks l=>have⟨a,vs,e,h1,h2,U⟩:=h;rwa[G2];exact⟨a,vs,e,h1,h2,U.same O⟩
 |t l=>have⟨a,vs,e,h1,h2⟩:=h;rwa[G2];exact⟨a,vs,e,O.tup h1,h2.same O⟩
 |_=>rwa[G2];exact h
def LO.repB(U:rp F H)(h:LO K F H t v S)(O:t.d=Z d):HK K F H d v:=by
 cases t with
 |f d=>cases O;exact HK.of U h
 |e l=>cases O;have⟨a,vs,e,_,h1,h2⟩:=h;exact⟨a,vs,e,Id.of h1,h2⟩
 |HC l=>cases O;have⟨a,vs,e,_,h1,h2⟩:=h;exact⟨a,vs,e,.inl h1,h2⟩
 |HJ l=>cases O;have⟨a,vs,e,_,h1,h2⟩:=h;exact⟨a,vs,e,h1,h2⟩
open Classical in
def ku(F H:Hp)(S:J4->Prop):Hp:=λb=>if S b then H b else F b
def gF{b:J4}(h:S b):ku F H S b=H b:=if_pos h
def eI{b:J4}(h:¬ S b):ku F H S b=F b:=if_neg h
def kx(hs:∀b,S b->F b=J):rp F (ku F H S):=λb o e=>by
 have:¬ S b:=λz=>by rw[hs b z]at e;cases e
 rw[eI this];exact e
def o0(O:rp F H):rp (ku F H S) H:=λb o e=>by
 by_cases h:S b
 .rw[gF h]at e;exact e
 .rw[eI h]at e;exact O _ _ e
def LO.freeze(hs:∀b,S b->F b=J)(h:LO K F H t v S)(U:t.d=Z d):G2 K (ku F H S) d v:=by
 have O:=kx (H:=H) hs;cases t with
 |f d=>cases U;exact G2.same O h
 |e l=>cases U;have⟨a,vs,e,q,h1,h2⟩:=h;rwa[G2];exact⟨a,vs,e,Id.of (by rw[gF q];exact h1),h2.same O⟩
 |HC l=>cases U;have⟨a,vs,e,q,h1,h2,W⟩:=h;rwa[G2];exact⟨a,vs,e,.inl (by rw[gF q];exact h1),h2,W.same O⟩
 |HJ l=>cases U;have⟨a,vs,e,q,h1,h2,W⟩:=h;rwa[G2];exact⟨a,vs,e,by rw[gF q];exact h1,h2,W.same O⟩
end
abbrev De:=B (ζ T)
variable{K:xA9}{a:J4}
section
variable{Φ:Fm}{D:De}{Y:St}{F H F' H':Hp}
def aC{α:Type}{l:B (ζ α)}{i j:Nat}{x y:ζ α}(h:(l.set i x)[j]?=Z y):(i=j/\y=x)\/(i≠j/\l[j]?=Z y):=by
 by_cases O:i=j
 .subst O;left;rw[List.getElem?_set]at h;rwa[if_true]at h;split at h
  .cases h;exact⟨rfl,rfl⟩
  .cases h
 .right;rw[gN O]at h;exact⟨O,h⟩
def rF{t:T}{S:J4->Prop}(O:t.own=C)(h:LO K F H t (.ref a) S):S a:=by
 cases t with
 |f d=>cases O
 |e l=>have⟨b,_,e,q,_⟩:=h;cases e;exact q
 |HC l=>have⟨b,_,e,q,_⟩:=h;cases e;exact q
 |HJ l=>have⟨b,_,e,q,_⟩:=h;cases e;exact q
end
def KO(K:xA9)(F H:Hp)(t:T)(Q:VK):Prop:=∀v H' F' S,HD F H F' H'->LO K F' H' t v S->(∀b,S b->F' b=J/\H b=J/\∃o,H' b=Z o/\NT o)->Q v H'
def KL(K:xA9)(F H:Hp)(d:Dt)(Q:VK):Prop:=∀v H' F',HD F H F' H'->G2 K F' d v->Q v H'
section
variable{K:xA9}{F H F1 H1:Hp}{t:T}{d:Dt}{Q:VK}
def KO.step(k:KO K F H t Q)(st:HD F H F1 H1):KO K F1 H1 t Q:=λv H' F' S s o O=>k v H' F' S (st.trans s) o λb z=>⟨(O b z).1,st.hh.free (O b z).2.1,(O b z).2.2⟩
def KO.leaf(k:KO K F H (.f d) Q):KL K F H d Q:=λv H' F' st r=>k v H' F' (λ_=>False) st r λ_ z=>z.elim
def KL.here(k:KL K F H d Q)(O:rp F H){v:V}(r:G2 K F d v):Q v H:=k v H F (HD.refl O) r
def KL.to(U:t.d=Z d)(k:KL K F H d Q):KO K F H t Q:=λv H' F' S st o O=>by
 refine k v H' (ku F' H' S) ⟨st.hh,st.ff.trans (kx λb z=>(O b z).1),o0 st.fh,λb u z=>?_⟩ (o.freeze (λb z=>(O b z).1) U);by_cases hb:S b
 .exact .inr (.inl (O b hb).2.1)
 .rw[eI hb]at z;exact st.nw b u z
end
variable{X:Cx}{e:J8}
def PE.mono{t t':TE}(h:PE X e t)(m:∀ Y H Q,t' Y H Q->t Y H Q):PE X e t':=λJ0 s Y H Q I q=>h J0 s Y H Q I (m _ _ _ q)
def PT.mono{t t':TT}(h:PT X e t)(m:∀ Y H Q,t' Y H Q->t Y H Q):PT X e t':=λJ0 s Y H Q I q=>h J0 s Y H Q I (m _ _ _ q)
def PW.mono{t t':TT}(h:PW X e t)(m:∀ Y H Q,t' Y H Q->t Y H Q):PW X e t':=λO J0 s Y H Q I q=>h O J0 s Y H Q I (m _ _ _ q)
def Ij.mono{e:B J8}{t t':TA}(h:Ij X e t)(m:∀ Y H Q,t' Y H Q->t Y H Q):Ij X e t':=λpos J0 s Y H Q I q=>h pos J0 s Y H Q I (m _ _ _ q)
variable{tg:J8}
def PI.mono{t t':TI}(h:PI X tg e t)(m:∀ Y H Q,t' Y H Q->t Y H Q):PI X tg e t':=λJ0 s Y H Q I q=>h J0 s Y H Q I (m _ _ _ q)
def PG.mono{t t':TG}(h:PG X e t)(m:∀v Y H Q,t' v Y H Q->t v Y H Q):PG X e t':=λJ0 s Y H v u Q I r q=>h J0 s Y H v u Q I r (m _ _ _ _ q)
def PS.mono{e:J6}{t t':TS}(h:PS X e t)(m:∀δ Y H,t' δ Y H->t δ Y H):PS X e t':=λJ0 s Y H Q I q=>h J0 s Y H Q I (m _ _ _ q)
def LK.mono{e:B J6}{t t':TS}(h:LK X e t)(m:∀δ Y H,t' δ Y H->t δ Y H):LK X e t':=λJ0 s Y H Q I q=>h J0 s Y H Q I (m _ _ _ q)
def PI.or{t t':TI}(h:PI X tg e t)(h':PI X tg e t'):PI X tg e (λY H Q=>t Y H Q\/t' Y H Q):=λJ0 s Y H Q I q=>q.elim (h J0 s Y H Q I) (h' J0 s Y H Q I)
variable{l ds:B Dt}{vs:B V}{H:Hp}
section
variable{X:Cx}{e a b c:J8}{f:De->ζ T}{g fa fb fc:De->ζ Dt}{pos:Pos}
def IT(K:xA9)(r:R2)(g:Dt->Dt->ζ T):Prop:=∀F H x y vx vy (Q:VK) t,rp F H->HK K F H x vx->HK K F H y vy->g x y=Z t->KO K F H t Q->r vx vy H Q
noncomputable def rG:Dt->ζ Bool
 |.ek=>Z ξ
 |.bl b=>Z b
 |.int i=>Z (i != 0)
 |.str x=>if x.length<=G6 then Z ((x.length:Int) != 0)else J
 |.t l=>Z (!l.isEmpty)
 |.e l=>Z (!l.isEmpty)
 |_=>J
def eJ{F:Hp}(h:ag K F l vs):l.isEmpty=vs.isEmpty:=by
 cases l with
 |nil=>unfold ag at h;rw[h];rfl
 |cons d l=>unfold ag at h;have⟨v,ws,rfl,_⟩:=h;rfl
def yk{F:Hp}{d:Dt}{v:V}{b:Bool}(O:rp F H)(h:HK K F H d v)(hb:rG d=Z b):BH K v H b:=by
 cases d with
 |ek=>cases h;cases hb;rfl
 |bl x=>cases h;cases hb;rfl
 |int x=>cases h;cases hb;rfl
 |str x=>
  cases h;rwa[rG]at hb;split at hb
  .cases hb;exact⟨by assumption,rfl⟩
  .cases hb
 |t l=>have⟨a,vs,rfl,h1,h2⟩:=h;cases hb;exact .inr (.inl ⟨vs,O.tup h1,by rw[eJ h2]⟩)
 |e l=>have⟨a,vs,rfl,h1,h2⟩:=h;cases hb;exact .inl ⟨vs,h1,by rw[eJ h2]⟩
 |HC ks l=>cases hb
 |HJ ks l=>cases hb
variable{ta tb tc:De->ζ Bool}{HF:B J8}
def kz{F:Hp}{b:Bool}:G2 K F (.bl b) (.bl b):=by rwa[G2]
def bI{F:Hp}{b:Int}:G2 K F (.int b) (.int b):=by rwa[G2]
def eM{F:Hp}{b:Str}:G2 K F (.str b) (.str b):=by rwa[G2]
def o4{F:Hp}:G2 K F .ek .ek:=by rwa[G2]
variable{oa ob:De->ζ T}
def jA(K:xA9)(F H:Hp):B Dt->B V->Prop
 |[],vs=>vs=[]
 |d::l,vs=>∃v ws,vs=v::ws/\HK K F H d v/\jA K F H l ws
variable{es:B J8}{fs:De->ζ (B Dt)}
def b9{F:Hp}{p:J4}{Q:VK}(k:KO K F H (.e ds) Q)(O:rp F H)(r:ag K F ds vs)(hp:H p=J):Q (.ref p) (upd H p (.e vs)):=by
 refine k _ _ F (λb=>b=p) (HD.made O hp) ⟨p,vs,rfl,rfl,ac,r⟩ λb z=>?_
 subst z;exact⟨O.free hp,hp,_,ac,nofun⟩
def OP(K:xA9)(r:B V->Hp->VK->Prop)(g:B Dt->ζ T):Prop:=∀F H ds vs (Q:VK) t,rp F H->jA K F H ds vs->g ds=Z t->KO K F H t Q->r vs H Q
variable{x:Str}{p:Pos}{id Ty:String}{sc:J9}{r:B V->Hp->VK->Prop}{gg:B Dt->ζ T}
end
variable{F':Hp}{ψ:It}{xs:B V}
section
variable{X:Cx}{st:J6}{HF a b body:B J6}{g g1 g2:De->ζ Out}{e c tg iter:J8}{pos:Pos}{f:De->ζ T}{fd:De->ζ Dt}{tc:De->ζ Bool}{i:Nat}
def uu(K:xA9)(F':Hp)(ψ:It)(ds:B Dt)(ok:Hp->Prop):Prop:=∀(i:Nat)(H F:Hp),ok H->rp F H->rp F' F->(i<ds.length->ψ.go i H)/\(i=ds.length->ψ.stop i H)/\∀x H',i<ds.length->ψ.OL i H x H'->∃d F2,ds[i]?=Z d/\HD F H F2 H'/\G2 K F2 d x
def LM.walk{ok:Hp->Prop}(pl:LM ψ xs ok)(r:ag K F' ds xs):uu K F' ψ ds ok:=λi H F O fh W=>by
 have⟨p1,p2,p3⟩:=pl i H O;have hl:=r.length;refine⟨λh=>p1 Θ,λh=>p2 Θ,λx H' hi hy=>?_⟩;have⟨rfl,hx⟩:=p3 x H' Θ hy;have U:ds[i]?=Z ds[i]:=by simp[hi]
 have⟨v,e,rv⟩:=r.get U;rw[hx]at e;cases e;exact⟨_,F,U,HD.refl fh,rv.same W⟩
end
variable{Y:St}{H1:Hp}
section
variable{X:Cx}{st:J6}{HF a b body:B J6}{g g1 g2:De->ζ Out}{e c tg iter l:J8}{pos:Pos}{f:De->ζ T}{fd:De->ζ Dt}{tc:De->ζ Bool}{i:Nat}{fi:De->ζ (B Dt)}
def ag.Oc{F:Hp}(r:ag K F ds xs){i:Nat}{x:V}(h:xs[i]?=Z x):∃d,ds[i]?=Z d/\G2 K F d x:=by
 have hl:=r.length;have hi:i<xs.length:=(gX h).1;have O:ds[i]?=Z ds[i]:=by simp[show i<ds.length by lia]
 have⟨v,e,U⟩:=r.get O;rw[h]at e;cases e;exact⟨_,O,U⟩
def o5{α:Type}{l:B α}{i:Nat}{d:α}(h:l[i]?=Z d):l.drop i=d::l.drop (i+1):=by have hi:i<l.length:=(gX h).1;rw[Zj hi];congr 1;have:=(gX h).2;exact this
def uv{n:Nat}{g:TG}{tb:TS}{δ:Kx}(O:Nat->St->Hp->Prop)(h0:O 0 Y H1)(Mx:∀i Y H,O i Y H->(i<n->ψ.go i H)/\(i=n->ψ.stop i H))
 (hs:∀i x Y H H',i<n->O i Y H->ψ.OL i H x H'->g x Y H' λW H2=>tb {δ with nx:=O (i+1),ct:=O (i+1),bk:=δ.nx} W H2) (hd:∀ Y H,O n Y H->δ.nx Y H):Ux g tb δ ψ Y H1:=by
 refine⟨λi m Y H=>m=n-i/\i<=n/\O i Y H,⟨n,Ξ,Ml _,h0⟩,?_⟩;rintro i m Y H ⟨rfl,hi,p⟩;have⟨p1,p2⟩:=Mx i Y H p;by_cases U:i<n
 .exact .inr ⟨p1 U,O (i+1),λK0 H' p'=>⟨n-(i+1),Θ,rfl,U,p'⟩,λx H' y=>hs i x Y H H' U p y⟩
 .have e:i=n:=by lia
  subst e;exact .inl ⟨p2 rfl,hd Y H p⟩
noncomputable def au(lo:Int)(n:Nat):B Dt:=(Ir n).map λ(i:Nat)=>.int (lo+i)
theorem ag.map{F:Hp}{α:Type}{f:α->Dt}{g:α->V}(h:∀x,G2 K F (f x) (g x)):∀l:B α,ag K F (l.map f) (l.map g)
 |[]=>by simp[ag]
 |x::l=>by rwa[Hz,ag];exact⟨_,_,rfl,h x,ag.map h l⟩
noncomputable def itD:Dt->ζ (B Dt)
 |.e l=>Z l
 |.t l=>Z l
 |_=>J
variable{p:Pos}{sc:J9}{x y:J8}{fs:De->ζ (B Dt)}
end
variable{δ:J4}
section
variable{X:Cx}{elt tg iter:J8}{ifs:B J8}{scope:J9}{pos:Pos}{ρ:B Str}{src:B (ζ Nat)}{fi:De->ζ (B Dt)}{ft:De->ζ Bool}{fe:De->ζ Dt}
def yl{k j:Nat}{v:V}(h1:src[k]?=Z (Z j))(h2:Y[j]?=Z (Z v)):(Ka src Y)[k]?=Z (Z v):=by unfold Ka;rw[HZ,h1];simp[h2]
def B5{k:Nat}{v:V}(h:(Ka src Y)[k]?=Z (Z v)):∃j,src[k]?=Z (Z j)/\Y[j]?=Z (Z v):=by
 unfold Ka at h;rw[HZ]at h;cases e:src[k]? with
 |none=>rw[e]at h;cases h
 |some o=>
  rw[e]at h;cases o with
  |none=>cases h
  |some j=>
   rwa[Iy,G8,We]at h;refine⟨j,rfl,?_⟩;cases q:Y[j]? with
   |none=>rw[q]at h;cases h
   |some u=>rw[q]at h;rwa[Wc]at h;rw[h]
def rH{n:Nat}{g:TG}{tt:TT}{te:TE}{Q:VK}(O:Nat->Hp->Prop)(h0:O 0 (upd H1 δ (.e [])))(Mx:∀i H,O i H->(i<n->ψ.go i H)/\(i=n->ψ.stop i H))
 (hs:∀i x H H',i<n->O i H->ψ.OL i H x H'->g x (Ka src Y) H' λW H2=>Wk (Ka src Y) W/\tt W H2 λb H3=>if b=C then te W H3 λv H4=>∃ys,H4 δ=Z (.e ys)/\ys.length<G6/\O (i+1) (upd H4 δ (.e (ys++[v])))else O (i+1) H3)
 (hd:∀H,O n H->Q (.ref δ) H):Ad src g tt te Y ψ H1 Q δ:=by
 refine⟨λi m H=>m=n-i/\i<=n/\O i H,⟨n,Ξ,Ml _,h0⟩,?_⟩;rintro i m H ⟨rfl,hi,p⟩;have⟨p1,p2⟩:=Mx i H p;by_cases U:i<n
 .exact .inr ⟨p1 U,O (i+1),λH' p'=>⟨n-(i+1),Θ,rfl,U,p'⟩,λx H' y=>hs i x H H' U p y⟩
 .have e:i=n:=by lia
  subst e;exact .inl ⟨p2 rfl,hd H p⟩
end
section
variable{K:xA9}{F H:Hp}{Q:VK}
def KO.int{i:Int}(k:KO K F H (.f (.int i)) Q)(O:rp F H):Q (.int i) H:=k.leaf.here O bI
def KO.bl{i:Bool}(k:KO K F H (.f (.bl i)) Q)(O:rp F H):Q (.bl i) H:=k.leaf.here O kz
def KO.str{i:Str}(k:KO K F H (.f (.str i)) Q)(O:rp F H):Q (.str i) H:=k.leaf.here O eM
def KO.tup{p:J4}(k:KO K F H (.f (.t l)) Q)(O:rp F H)(r:ag K F l vs)(hp:H p=J):Q (.ref p) (upd H p (.t vs)):=by refine k.leaf _ _ _ (HD.new O hp) ?_;rwa[G2];exact⟨p,vs,rfl,Im.of ac,r.same (rp.upd (O.free hp))⟩
end
noncomputable def cL(i j:Int):Bool:=(decide (-(2^64)<i)&&decide (i<2^64))||(decide (-(2^64)<j)&&decide (j<2^64))
variable{j:Int}
def ym{i:Int}(h:cL i j=C):NY i j:=by unfold cL at h;rwa[NL,Hm,decide_eq_true_eq]at h;exact h
def eN{i:Int}(h1:-1000000000000000000<i)(h2:i<1000000000000000000):cL i j=C:=by unfold cL;rwa[NL,Hm,decide_eq_true_eq];left;lia
def gG{i:Int}(h1:-1000000000000000000<j)(h2:j<1000000000000000000):cL i j=C:=by unfold cL;rwa[NL,Hm,decide_eq_true_eq];right;lia
noncomputable def o6(i j:Int):Bool:=decide (0<=j)&&decide (j<=1000000)&&decide (i.natAbs<2^64)
def yn{i:Int}(h:o6 i j=C):Bu i j:=by unfold o6 at h;rwa[Hm,decide_eq_true_eq]at h;exact⟨h.1.1,h.1.2,h.2⟩
noncomputable def c5:Dt->Dt->ζ T
 |.int i,.int j=>Z (.f (.int (i+j)))
 |.str a,.str b=>if a.length+b.length<=G6 then Z (.f (.str (a++b)))else J
 |.e l,.e m=>if l.length+m.length<=G6 then Z (.e (l++m))else J
 |.t l,.t m=>if l.length+m.length<=G6/\l≠[]/\m≠[]then Z (.f (.t (l++m)))else J
 |_,_=>J
noncomputable def uw:Dt->Dt->ζ T
 |.int i,.int j=>Z (.f (.int (i-j)))
 |_,_=>J
def ia:Dt->Dt->ζ T
 |.int i,.int j=>if cL i j then Z (.f (.int (i*j)))else J
 |_,_=>J
noncomputable def eO:Dt->Dt->ζ T
 |.int i,.int j=>if 0<j then Z (.f (.int (i%j)))else J
 |_,_=>J
def yo:Dt->Dt->ζ T
 |.int i,.int j=>if o6 i j then Z (.f (.int (i^j.toNat)))else J
 |_,_=>J
noncomputable def rJ(f:Int->Int->Int):Dt->Dt->ζ T
 |.int i,.int j=>Z (.f (.int (f i j)))
 |_,_=>J
noncomputable def yp(f:Int->Int->Bool):Dt->Dt->ζ T
 |.int i,.int j=>Z (.f (.bl (f i j)))
 |_,_=>J
variable{vx:V}
section
variable{X:Cx}
def yq:HI X (KY .Add) (λx y H Q=>∃l b xs zs,x=.ref l/\y=.ref b/\Id X.K H l xs/\Id X.K H b zs/\xs.length+zs.length<=G6/\∀p,H p=J->Q (.ref p) (upd H p (.e (xs++zs)))):=by
 intro J0 s Y H x y v u Q I rx ry h;have⟨l,b,xs,zs,rfl,rfl,hH,hB,hz,q⟩:=h;cases rx;cases ry;have⟨J3,r,pl,_⟩:=I.list hH;have⟨O,r2,Kb,_⟩:=I.list hB;have⟨⟨cls,dd,data,sl⟩,n,ho,hc,hd0,hd⟩:=pl;have⟨⟨Ub,dd2,data2,sl2⟩,n2,LF,U,hd02,W⟩:=Kb;simp only at hc hd U W;subst hc hd U W;have e:J3.toArray++O.toArray=(J3++O).toArray:=by simp
 refine Ww ⟨_,ho,rfl⟩ ⟨_,LF,rfl⟩ noFill_list_add seq_list_add PySem.F.slot_list_add PySem.F.entry_list_add (PySem.F.args_list_add_2 _ _) (list_addW l b J3.toArray O.toArray n n2 dd dd2 sl sl2 (by rw[JB,JB,<- r.length,<- r2.length];exact hz)) ⟨ho,LF,?_⟩;rw[e];exact⟨.ref _,_,I.Q5 (t':=s.toks) (r.append r2) (by rw[Kj];exact hz),rfl,q _ I.fresh⟩
abbrev o7(K:xA9):R2:=λx y H Q=>(Na (λi j=>.int (i+j)) x y H Q)\/(∃i j,x=.str i/\y=.str j/\i.length+j.length<=G6/\Q (.str (i++j)) H)\/(∃l b xs zs,x=.ref l/\y=.ref b/\Id K H l xs/\Id K H b zs/\xs.length+zs.length<=G6/\∀p,H p=J->Q (.ref p) (upd H p (.e (xs++zs))))\/z9 K x y H Q
def o8:HI X (KY .Add) (o7 X.K):=HI.or Bv (HI.or nr (HI.or yq xY))
omit x in
def Ag:IT K (o7 K) c5:=by
 intro F H x y vx vy Q t U rx W O k;unfold c5 at O;rcases O
 .cases O;cases rx;cases W;exact .inl ⟨_,_,rfl,rfl,k.int U⟩
 .split at O
  .cases O;cases rx;cases W;exact .inr (.inl ⟨_,_,rfl,rfl,by assumption,k.str U⟩)
  .cases O
 .split at O
  .rename_i hl;cases O;have⟨a,vs,rfl,h1,h2⟩:=rx;have⟨b,ws,rfl,h3,h4⟩:=W;exact .inr (.inr (.inl ⟨a,b,vs,ws,rfl,rfl,h1,h3,by rw[h2.length,h4.length];exact hl,λp hp=>b9 k U (h2.append h4) hp⟩))
  .cases O
 .split at O
  .rename_i hl;cases O;have⟨a,vs,rfl,h1,h2⟩:=rx;have⟨b,ws,rfl,h3,h4⟩:=W;have⟨hl,n1,n2⟩:=hl;refine .inr (.inr (.inr ⟨a,b,vs,ws,rfl,rfl,U.tup h1,U.tup h3,λz=>?_,by rw[h2.length,h4.length];exact hl,λz=>?_,λ_ p hp=>k.tup U (h2.append h4) hp⟩))
   .subst z;have:=h2.length;exact n1 (qv0 this.symm)
   .subst z;have:=h4.length;exact absurd (qv0 this.symm) n2
  .cases O
def nM{f:Int->Int->Int}:IT K (Na λi j=>.int (f i j)) (rJ f):=by
 intro F H x y vx vy Q t W rx U O k;unfold rJ at O;rcases O
 cases O;cases rx;cases U;exact⟨_,_,rfl,rfl,k.int W⟩
def EJ:IT K (Na λi j=>.int (i-j)) uw:=by
 intro F H x y vx vy Q t U W ry O k;unfold uw at O;rcases O
 cases O;cases W;cases ry;exact⟨_,_,rfl,rfl,k.int U⟩
def EK:IT K (g8 NY λi j=>.int (i*j)) ia:=by
 intro F H x y vx vy Q t U W ry O k;unfold ia at O;rcases O
 split at O
 .cases O;cases W;cases ry;exact⟨_,_,rfl,rfl,ym (by assumption),k.int U⟩
 .cases O
def EL:IT K (g8 (λ_ j=>0<j) λi j=>.int (i%j)) eO:=by
 intro F H x y vx vy Q t W rx U O k;unfold eO at O;rcases O
 split at O
 .cases O;cases rx;cases U;exact⟨_,_,rfl,rfl,by assumption,k.int W⟩
 .cases O
def EM:IT K (g8 Bu λi j=>.int (i^j.toNat)) yo:=by
 intro F H x y vx vy Q t U W ry O k;unfold yo at O;rcases O
 split at O
 .cases O;cases W;cases ry;exact⟨_,_,rfl,rfl,yn (by assumption),k.int U⟩
 .cases O
def Ah{f:Int->Int->Bool}:IT K (Na λi j=>.bl (f i j)) (yp f):=by
 intro F H x y vx vy Q t W rx U O k;unfold yp at O;rcases O
 cases O;cases rx;cases U;exact⟨_,_,rfl,rfl,k.bl W⟩
def Nf:Dt->Dt->ζ Bool
 |.ek,.ek=>Z C
 |.ek,.int _=>Z ξ
 |.ek,.bl _=>Z ξ
 |.ek,.str _=>Z ξ
 |.int _,.ek=>Z ξ
 |.bl _,.ek=>Z ξ
 |.str _,.ek=>Z ξ
 |.int i,.int j=>Z (decide (i=j))
 |.bl i,.bl j=>Z (decide (i=j))
 |.str i,.str j=>Z (decide (i=j))
 |.int _,.str _=>Z ξ
 |.str _,.int _=>Z ξ
 |.bl _,.str _=>Z ξ
 |.str _,.bl _=>Z ξ
 |.t l,.t m=>if IB l m&&decide (HP l<=59)then Z (ID l m)else J
 |.e l,.e m=>if IB l m&&decide (HP l<=59)then Z (ID l m)else J
 |_,_=>J
section
variable{i j:Int}{x y:Str}{a b:Bool}
def QV:Nf (.int i) (.int j)=Z (decide (i=j)):=rfl
def TF:Nf (.str x) (.str y)=Z (decide (x=y)):=rfl
def TH:Nf (.bl a) (.bl b)=Z (decide (a=b)):=rfl
def TJ:Nf .ek .ek=Z C:=rfl
def Z1:Nf (.int i) (.str x)=Z ξ:=rfl
def Z2:Nf (.str x) (.int i)=Z ξ:=rfl
def Z3:Nf (.int i) .ek=Z ξ:=rfl
def Z4:Nf (.str x) .ek=Z ξ:=rfl
def Uz{m:B Dt}:Nf (.t l) (.t m)=if IB l m&&decide (HP l<=59)then Z (ID l m)else J:=rfl
def UA{m:B Dt}:Nf (.e l) (.e m)=if IB l m&&decide (HP l<=59)then Z (ID l m)else J:=rfl
end
def MR(O:Bool)(x y:Dt):ζ T:=(Nf x y).map λb=>.f (.bl (if O then !b else b))
abbrev UB(K:xA9):R2:=λx y H Q=>rEq x y H Q\/yj K ξ x y H Q
abbrev UC(K:xA9):R2:=λx y H Q=>rNe x y H Q\/yj K C x y H Q
def ux{k:Nat}(O:Hg k X.A):HI X (JL .Eq) (UB X.K):=HI.or Eu (B0 O rfl)
def B6{k:Nat}(O:Hg k X.A):HI X (JL .NotEq) (UC X.K):=HI.or Ev (B4 O rfl)
omit x in
def uy {F:Hp} {x y:Dt} {O:V} {b:Bool} (fh:rp F H) (W:HK K F H x vx) (U:HK K F H y O) (h:Nf x y=Z b) :
  (BF vx O=C/\b=decide (vx=O))\/(((∃l m,x=.t l/\y=.t m)\/∃l m,x=.e l/\y=.e m)/\bO x y=C/\cY x<=60/\b=KK x y):=by
 cases x<;>cases y<;>first
  |(cases h;done)
  |(cases h;cases W;cases U;left;refine⟨rfl,?_⟩;simp;done)
  |skip
 .right
  replace h:(if _ then _ else _)=Z b:=h
  split at h
  .rename_i q;rwa[Hm,decide_eq_true_eq]at q;cases h;exact⟨.inl ⟨_,_,rfl,rfl⟩,by rwa[bO];exact q.1,by rwa[cY];lia,rfl⟩
  .cases h
 .right
  replace h:(if _ then _ else _)=Z b:=h
  split at h
  .rename_i q;rwa[Hm,decide_eq_true_eq]at q;cases h;exact⟨.inr ⟨_,_,rfl,rfl⟩,by rwa[bO];exact q.1,by rwa[cY];lia,rfl⟩
  .cases h
def UD:IT K (UB K) (MR ξ):=by
 intro F H x y vx vy Q t O rx W U k;unfold MR at U;have⟨b,hb,U⟩:=OD.mp U;cases U;have kk:Q (.bl b) H:=k.bl O;rcases uy O rx W hb with ⟨h1,rfl⟩|⟨h1,h2,h3,rfl⟩
 .exact .inl ⟨h1,kk⟩
 .exact .inr ⟨x,y,h1,rx.rep O,W.rep O,h2,h3,kk⟩
def r_ne:IT K (UC K) (MR C):=by
 intro F H x y vx vy Q t O rx W U k;unfold MR at U;have⟨b,hb,U⟩:=OD.mp U;cases U;have kk:Q (.bl (!b)) H:=k.bl O;rcases uy O rx W hb with ⟨h1,rfl⟩|⟨h1,h2,h3,rfl⟩
 .exact .inl ⟨h1,kk⟩
 .exact .inr ⟨x,y,h1,rx.rep O,W.rep O,h2,h3,kk⟩
noncomputable def uz:Dt->Bool
 |.ek=>C
 |_=>ξ
def TL(O:Bool)(x y:Dt):ζ T:=match y with
 |.ek=>Z (.f (.bl (if O then !uz x else uz x)))
 |_=>J
def mj{F:Hp}{x:Dt}{v:V}(r:HK K F H x v):uz x=decide (v=.ek):=by
 cases x<;>first
  |(cases r;rfl)
  |(have⟨a,vs,rfl,_⟩:=r;rfl)
  |(rwa[HK,G2]at r;have⟨a,θ,dx,fs,rfl,_⟩:=r;rfl)
def r_is:IT K (λx y H Q=>y=.ek/\Q (.bl (decide (x=.ek))) H) (TL ξ):=by
 intro F H x y vx vy Q t W rx U O k;cases y<;>first|cases O;done|skip
 cases O;cases U;refine⟨rfl,?_⟩;rw[<- mj rx];exact k.bl W
def yr:IT K (λx y H Q=>y=.ek/\Q (.bl (!decide (x=.ek))) H) (TL C):=by
 intro F H x y vx vy Q t W rx U O k;cases y<;>first|cases O;done|skip
 cases O;cases U;refine⟨rfl,?_⟩;rw[<- mj rx];exact k.bl W
noncomputable def aR:Dt->Bool
 |.ek=>C
 |.bl _=>C
 |.int _=>C
 |.str _=>C
 |_=>ξ
noncomputable def Rh:Dt->Dt->Bool
 |.ek,.ek=>C
 |.bl a,.bl b=>a==b
 |.bl a,.int b=>(if a then 1 else 0)==b
 |.int a,.bl b=>a==(if b then 1 else 0)
 |.int a,.int b=>a==b
 |.str a,.str b=>a==b
 |_,_=>ξ
noncomputable def inS(j i:Str):Bool:=!(ZS j i 0 j.length 1).isEmpty
def Ri:Dt->Dt->ζ Bool
 |.str i,.str j=>Z (inS j i)
 |x,.e l=>if aR x&&l.all aR then Z (l.any λy=>Rh y x)else J
 |x,.t l=>if aR x&&l.all aR then Z (l.any λy=>Rh y x)else J
 |_,_=>J
def OQ(O:Bool)(x y:Dt):ζ T:=(Ri x y).map λb=>.f (.bl (if O then !b else b))
def kF{F:Hp}{d:Dt}{v:V}(r:G2 K F d v)(h:aR d=C):bq v=C:=by
 cases d<;>rwa[G2]at r<;>first
  |(subst r;rfl)
  |cases h
def B7{F:Hp}{d e:Dt}{v w:V}(r:G2 K F d v)(O:G2 K F' e w)(h:aR d=C)(h':aR e=C):Rh d e=Nc v w:=by
 cases d<;>first|cases h;done|skip
 all_goals cases e<;>first|cases h';done|skip
 all_goals rwa[G2]at r O;subst r O;rfl
theorem ib{F:Hp}:∀{l:B Dt}{vs:B V},ag K F l vs->l.all aR=C->vs.all bq=C
 |[],vs,r,_=>by rwa[ag]at r;subst r;rfl
 |d::l,vs,r,h=>by rwa[ag]at r;have⟨v,ws,rfl,h1,h2⟩:=r;rw[Ks,Hm]at h ⊢;exact⟨kF h1 h.1,ib h2 h.2⟩
theorem nN{F:Hp}{x:Dt}{w:V}(U:G2 K F' x w)(O:aR x=C):∀{l:B Dt}{vs:B V},ag K F l vs->l.all aR=C->(l.any λy=>Rh y x)=WV w vs
 |[],vs,r,_=>by rwa[ag]at r;subst r;rfl
 |d::l,vs,r,h=>by rwa[ag]at r;have⟨v,ws,rfl,h1,h2⟩:=r;rw[Ks,Hm]at h;unfold WV;rw[Pb,Pb,B7 h1 U h.1 O,nN U O h2 h.2];rfl
abbrev B8(K:xA9)(neg:Bool):R2:=λx y H Q=>(∃i j,x=.str i/\y=.str j/\Q (.bl (if neg then !inS j i else inS j i)) H)\/rIn K neg x y H Q
def B9:HI X (JL .In) (B8 X.K ξ):=HI.or qL qZ
def rK:HI X (JL .NotIn) (B8 X.K C):=HI.or kf kc
omit x in
def UE(W:Bool):IT K (B8 K W) (OQ W):=by
 intro F H x y vx vy Q t fh rx ry hg k;unfold OQ at hg;have⟨b,hb,hg⟩:=OD.mp hg;cases hg;have U:=k.bl fh;unfold Ri at hb;rcases hb
 .cases hb;cases rx;cases ry;exact .inl ⟨_,_,rfl,rfl,U⟩
 .split at hb
  .rename_i q;rw[Hm]at q;cases hb;have⟨a,vs,rfl,h1,h2⟩:=ry;have O:=rx.rep fh;rw[nN O q.1 h2 q.2]at U;exact .inr ⟨a,vs,rfl,.inl h1,kF O q.1,ib h2 q.2,U⟩
  .cases hb
 .split at hb
  .rename_i q;rw[Hm]at q;cases hb;have⟨a,vs,rfl,h1,h2⟩:=ry;have O:=rx.rep fh;rw[nN O q.1 h2 q.2]at U;exact .inr ⟨a,vs,rfl,.inr (fh.tup h1),kF O q.1,ib h2 q.2,U⟩
  .cases hb
def ml{F:Hp}{i:Int}{d:Dt}(r:ag K F l vs)(h:Ji l i=Z d):∃v,Ji vs i=Z v/\G2 K F d v:=by unfold Ji at h ⊢;rw[r.length];have⟨j,O,h⟩:=Ti.mp h;have⟨v,e,U⟩:=r.get h;exact⟨v,by rw[O];exact e,U⟩
def My:Dt->Dt->ζ T
 |.e l,.int i=>(Ji l i).map .f
 |.t l,.int i=>(Ji l i).map .f
 |.str x,.int i=>if x.length<=G6 then(Ji x.cps.toList i).map λc=>.f (.str ⟨#[c]⟩)else J
 |_,_=>J
omit x in
def r_ix:IT K (WU K) My:=by
 intro F H x y vx vy Q t U rx W O k;unfold My at O;rcases O
 .have⟨d,hd,O⟩:=OD.mp O;cases O;cases W;have⟨a,vs,rfl,h1,h2⟩:=rx;have⟨v,e,rv⟩:=ml h2 hd;exact .inl ⟨a,vs,_,v,rfl,rfl,h1,e,k.leaf.here U rv⟩
 .have⟨d,hd,O⟩:=OD.mp O;cases O;cases W;have⟨a,vs,rfl,h1,h2⟩:=rx;have⟨v,e,rv⟩:=ml h2 hd;exact .inr (.inl ⟨a,vs,_,v,rfl,rfl,U.tup h1,e,k.leaf.here U rv⟩)
 .split at O
  .rename_i hl;have⟨c,hc,O⟩:=OD.mp O;cases O;cases rx;cases W;exact .inr (.inr ⟨_,_,c,rfl,rfl,hl,hc,k.str U⟩)
  .cases O
variable{a b c:J8}{fa fb fc:De->ζ Dt}{pos:Pos}
noncomputable def nO(l:B Dt)(lo hi:ζ Int):B Dt:=(l.drop (HT.Jx l.length 0 lo)).take (HT.Jx l.length l.length hi-HT.Jx l.length 0 lo)
def Ng:Dt->ζ Int->ζ Int->ζ T
 |.str x,lo,hi=>if x.length<=G6 then Z (.f (.str (Txt.slice x lo hi)))else J
 |.e l,lo,hi=>Z (.e (nO l lo hi))
 |_,_,_=>J
abbrev UF(K:xA9):V->ζ Int->ζ Int->Hp->VK->Prop:=λx lo hi H Q=>Uw x lo hi H Q\/Uf K x lo hi H Q
def Ca:Pl X (UF X.K):=Pl.or BX x9
def uA{F:Hp}(r:ag K F l vs)(lo hi:ζ Int):ag K F (nO l lo hi) (qY vs lo hi):=by unfold nO qY;rw[r.length];exact(r.drop _).take _
def r_sl{F:Hp}{x:Dt}{v:V}{lo hi:ζ Int}{Q:VK}{t:T}(U:rp F H)(W:HK K F H x v)(O:Ng x lo hi=Z t)(k:KO K F H t Q):UF K v lo hi H Q:=by
 unfold Ng at O;rcases O
 .split at O
  .cases O;cases W;exact .inl ⟨_,rfl,by assumption,k.str U⟩
  .cases O
 .have⟨a,vs,rfl,h1,h2⟩:=W;cases O;exact .inr ⟨a,vs,rfl,h1,λp hp=>b9 k U (uA h2 _ _) hp⟩
noncomputable def QU:Dt->ζ Int
 |.int i=>Z i
 |_=>J
noncomputable def ic:B Dt->ζ T
 |[.str x]=>if x.length<=G6 then Z (.f (.int x.length))else J
 |[.t l]=>Z (.f (.int l.length))
 |[.e l]=>Z (.f (.int l.length))
 |_=>J
def bE{F:Hp}{d:Dt}(r:jA K F H [d] vs):∃v,vs=[v]/\HK K F H d v:=by have⟨v,ws,rfl,h1,h2⟩:=r;cases h2;exact⟨v,rfl,h1⟩
omit x in
def EN:OP K (λxs H Q=>∃x n,xs=[x]/\T3 K x H n/\Q (.int n) H) ic:=by
 intro F H ds vs Q t W r O k;unfold ic at O;rcases O
 .split at O
  .rename_i hl;cases O;have⟨v,rfl,U⟩:=bE r;cases U;exact⟨_,_,rfl,⟨hl,rfl⟩,k.int W⟩
  .cases O
 .cases O;have⟨v,rfl,U⟩:=bE r;have⟨a,vs,rfl,h1,h2⟩:=U;rw[<- h2.length]at k;exact⟨_,_,rfl,.inr ⟨vs,W.tup h1,rfl⟩,k.int W⟩
 .cases O;have⟨v,rfl,U⟩:=bE r;have⟨a,vs,rfl,h1,h2⟩:=U;rw[<- h2.length]at k;exact⟨_,_,rfl,.inl ⟨vs,h1,rfl⟩,k.int W⟩
noncomputable def Cb:B Dt->ζ T
 |[.int i]=>Z (.f (.int i))
 |[.bl b]=>Z (.f (.int (if b then 1 else 0)))
 |[.str x]=>(PySem.intText? x).bind λn=>if x.length<=640 then Z (.f (.int n))else J
 |_=>J
abbrev Ai:B V->Hp->VK->Prop:=λxs H Q=>((∃i,xs=[.int i]/\Q (.int i) H)\/∃k,xs=[.bl k]/\Q (.int (if k then 1 else 0)) H)\/∃x n,xs=[.str x]/\PySem.intText? x=Z n/\x.length<=640/\Q (.int n) H
def rL:Hx X (.type "int") Ai:=Hx.or qN kj
def EO:OP K Ai Cb:=by
 intro F H ds vs Q t W r O k;unfold Cb at O;rcases O
 .cases O;have⟨v,rfl,U⟩:=bE r;cases U;exact .inl (.inl ⟨_,rfl,k.int W⟩)
 .cases O;have⟨v,rfl,U⟩:=bE r;cases U;exact .inl (.inr ⟨_,rfl,k.int W⟩)
 .have⟨n,hn,O⟩:=Ti.mp O;split at O
  .cases O;have⟨v,rfl,U⟩:=bE r;cases U;exact .inr ⟨_,n,rfl,hn,by assumption,k.int W⟩
  .cases O
noncomputable def nP:B Dt->ζ T
 |[.e l]=>Z (.f (.t l))
 |[.t l]=>Z (.f (.t l))
 |_=>J
omit x in
def yt:OP K (λxs H Q=>∃p ys,xs=[.ref p]/\((Id K H p ys/\∀l,H l=J->Q (.ref l) (upd H l (.t ys)))\/(Im K H p ys/\Q (.ref p) H))) nP:=by
 intro F H ds vs Q t fh r O k;unfold nP at O;rcases O
 .cases O;have⟨v,rfl,U⟩:=bE r;have⟨a,vs,rfl,h1,h2⟩:=U;exact⟨a,vs,rfl,.inl ⟨h1,λp hp=>k.tup fh h2 hp⟩⟩
 .cases O;have⟨v,rfl,U⟩:=bE r;rename_i l;have W:G2 K F (.t l) v:=by rwa[G2];exact U
  have⟨a,vs,rfl,h1,h2⟩:=U;exact⟨a,vs,rfl,.inr ⟨fh.tup h1,k.leaf.here fh W⟩⟩
noncomputable def uB:B Dt->ζ T
 |[.e l]=>Z (.e l)
 |[.t l]=>Z (.e l)
 |_=>J
def Cc:OP K (λxs H Q=>∃p ys,xs=[.ref p]/\(Id K H p ys\/Im K H p ys)/\∀l,H l=J->Q (.ref l) (upd H l (.e ys))) uB:=by
 intro F H ds vs Q t U r O k;unfold uB at O;rcases O
 .cases O;have⟨v,rfl,W⟩:=bE r;have⟨a,vs,rfl,h1,h2⟩:=W;exact⟨a,vs,rfl,.inl h1,λp hp=>b9 k U h2 hp⟩
 .cases O;have⟨v,rfl,W⟩:=bE r;have⟨a,vs,rfl,h1,h2⟩:=W;exact⟨a,vs,rfl,.inr (U.tup h1),λp hp=>b9 k U h2 hp⟩
end
set_option genInjectivity true in
inductive CV where
 |g (d:Dt)|ref (i:Nat)
 |own (b:Bool) (t:T)
set_option genInjectivity true in
inductive CO where
 |e (l:List CV)|t (l:List CV)|dK (l:List (rb×CV))|dT (l:List (List rb×CV))|wT (l:List (List rb×CV))|ins (c:Nat) (l:List CV)
abbrev CH:=B CO
abbrev Sl:=B (ζ CV)
structure Gx where
 K:xA9
 ct:List (Str×List Str)
def IU(K:xA9)(c:Str)(θ:J4):Prop:=xF9 K Lf c=Z (Z (.ref θ))
section
variable(G:Gx)(F H:Hp)(M:Nat->J4)(n:Nat)
def Hu:CV->V->Prop
 |.g d,v=>G2 G.K F d v
 |.ref i,v=>i<n/\v=.ref (M i)
 |.own _ _,_=>False
abbrev G9:B CV->B V->Prop:=Paired (Hu G F M n)
def Lq(t:T)(v:V):Prop:=∃a,v=.ref a/\t.own=C/\LO G.K F H t v (· = a)/\F a=J/\∀i,i<n->M i≠a
def HX:CV->V->Prop
 |.own _ t,v=>Lq G F H M n t v
 |c,v=>Hu G F M n c v
abbrev Ip:B CV->B V->Prop:=Paired (HX G F H M n)
def K3(a:J4):CO->Prop
 |.e l=>∃vs,H a=Z (.e vs)/\G9 G F M n l vs
 |.t l=>∃vs,H a=Z (.t vs)/\G9 G F M n l vs
 |.dK l=>(l.map (·.1)).Nodup/\∃J1,H a=Z (.dK J1)/\J1.map (·.1)=l.map (·.1)/\G9 G F M n (l.map (·.2)) (J1.map (·.2))
 |.dT l=>(l.map (·.1)).Nodup/\∃J1,H a=Z (.dT J1)/\J1.map (·.1)=l.map (·.1)/\G9 G F M n (l.map (·.2)) (J1.map (·.2))
 |.wT l=>(l.map (·.1)).Nodup/\∃ob J1,H a=Z (.Iq ob (.dT J1))/\F a=Z (.Iq ob (.dT J1))/\J1.map (·.1)=l.map (·.1)/\G9 G F M n (l.map (·.2)) (J1.map (·.2))
 |.ins c l=>∃p θ dx fs,G.ct[c]?=Z p/\IU G.K p.1 θ/\H a=Z (.ins θ dx fs)/\fs.map (·.1)=p.2.take l.length/\G9 G F M n l (fs.map (·.2))
end
section
variable{G:Gx}{F H F' H' F1 H1:Hp}{M Ha Hh:Nat->J4}{n n':Nat}{c:CV}{v:V}{l m:B CV}{vs ws:B V}
theorem Paired.get{α β:Type}{R:α->β->Prop}:∀{l:B α}{m:B β}{i:Nat}{a:α},Paired R l m->l[i]?=Z a->∃b,m[i]?=Z b/\R a b
 |_,_,_,_,.nil,e=>by simp at e
 |_,_,0,_,.cons r _,e=>by simp at e;subst e;exact⟨_,rfl,r⟩
 |_,_,i+1,a,.cons _ t,e=>by have⟨b,h1,h2⟩:=Paired.get (i:=i) (a:=a) t ‹e›;exact⟨b,‹h1›,h2⟩
theorem Paired.set{α β:Type}{R:α->β->Prop}{a:α}{b:β}(r:R a b):∀{l:B α}{m:B β}(i:Nat),Paired R l m->Paired R (l.set i a) (m.set i b)
 |_,_,_,.nil=>.nil
 |_,_,0,.cons _ t=>.cons r t
 |_,_,i+1,.cons q t=>.cons q (Paired.set r i t)
theorem Paired.app{α β:Type}{R:α->β->Prop}:∀{l O:B α}{m U:B β},Paired R l m->Paired R O U->Paired R (l++O) (m++U)
 |_,_,_,_,.nil,s=>s
 |_,_,_,_,.cons r t,s=>.cons r (Paired.app t s)
def Hu.mono(O:rp F F')(W:∀i,i<n->Ha i=M i)(U:n<=n')(h:Hu G F M n c v):Hu G F' Ha n' c v:=by
 cases c with
 |g d=>exact G2.same O h
 |ref i=>exact⟨KG h.1 U,by rw[W i h.1];exact h.2⟩
 |own b t=>exact h.elim
def G9.mono(O:rp F F')(U:∀i,i<n->Ha i=M i)(W:n<=n')(h:G9 G F M n l vs):G9 G F' Ha n' l vs:=Paired.M6 h λ_ _ r=>r.mono O U W
def Hu.toC(h:Hu G F M n c v):HX G F H M n c v:=by cases c<;>first|exact h|exact h.elim
noncomputable def CV.sol:CV->Bool
 |.own _ _=>ξ
 |_=>C
def HX.s(hs:c.sol=C)(h:HX G F H M n c v):Hu G F M n c v:=by cases c<;>first|exact h|cases hs
theorem Ip.s:∀{l:B CV}{vs:B V},l.all CV.sol=C->Ip G F H M n l vs->G9 G F M n l vs
 |_,_,_,.nil=>.nil
 |_,_,h,.cons r t=>by rwa[Ks,Hm]at h;exact .cons (r.s h.1) (Ip.s h.2 t)
def G9.length(h:G9 G F M n l vs):vs.length=l.length:=(Paired.length h).symm
theorem G9.dats:∀{l:B Dt}{vs:B V},ag G.K F l vs->G9 G F M n (l.map .g) vs
 |[],vs,h=>by rwa[ag]at h;subst h;exact .nil
 |d::l,vs,h=>by rwa[ag]at h;have⟨v,ws,rfl,h1,h2⟩:=h;exact .cons h1 (G9.dats h2)
noncomputable def dats:B CV->ζ (B Dt)
 |[]=>Z []
 |.g d::l=>(dats l).map (d::·)
 |_=>J
theorem cg:∀l:B Dt,dats (l.map .g)=Z l
 |[]=>rfl
 |d::l=>by simp[dats,cg l]
theorem cF:∀{l:B CV}{ds:B Dt},dats l=Z ds->l=ds.map .g
 |[],ds,h=>by cases h;rfl
 |.g d::l,ds,h=>by rwa[dats,OD]at h;have⟨es,h1,rfl⟩:=h;rw[cF h1];rfl
 |.ref _::_,_,h=>by simp[dats]at h
 |.own _ _::_,_,h=>by simp[dats]at h
theorem o9:∀{ds:B Dt}{vs:B V},G9 G F M n (ds.map .g) vs->ag G.K F ds vs
 |[],_,.nil=>by rwa[ag]
 |d::ds,_,.cons r t=>by rwa[ag];exact⟨_,_,rfl,r,o9 t⟩
def aS(h:dats l=Z ds)(r:G9 G F M n l vs):ag G.K F ds vs:=by rw[cF h]at r;exact o9 r
def K3.mono{o:CO}(O:rp F F')(he:∀i,i<n->Ha i=M i)(W:n<=n')(ha:∀u,H a=Z u->H' a=Z u)(h:K3 G F H M n a o):K3 G F' H' Ha n' a o:=by
 cases o with
 |e l=>have⟨vs,h1,h2⟩:=h;exact⟨vs,ha _ h1,h2.mono O he W⟩
 |t l=>have⟨vs,h1,h2⟩:=h;exact⟨vs,ha _ h1,h2.mono O he W⟩
 |dK l=>have⟨nd,vs,h1,h2,U⟩:=h;exact⟨nd,vs,ha _ h1,h2,U.mono O he W⟩
 |dT l=>have⟨nd,vs,h1,h2,U⟩:=h;exact⟨nd,vs,ha _ h1,h2,U.mono O he W⟩
 |wT l=>have⟨nd,ob,vs,h1,h0,h2,U⟩:=h;exact⟨nd,ob,vs,ha _ h1,O _ _ h0,h2,U.mono O he W⟩
 |ins c l=>have⟨p,θ,dx,fs,hp,h0,h1,h2,U⟩:=h;exact⟨p,θ,dx,fs,hp,h0,ha _ h1,h2,U.mono O he W⟩
def K3.there{o:CO}(h:K3 G F H M n a o):∃u,H a=Z u:=by
 cases o with
 |e l=>have⟨vs,h1,h2⟩:=h;exact⟨_,h1⟩
 |t l=>have⟨vs,h1,h2⟩:=h;exact⟨_,h1⟩
 |dK l=>have⟨O,vs,h1,h2⟩:=h;exact⟨_,h1⟩
 |dT l=>have⟨O,vs,h1,h2⟩:=h;exact⟨_,h1⟩
 |wT l=>have⟨O,ob,vs,h1,h2⟩:=h;exact⟨_,h1⟩
 |ins c l=>have⟨p,θ,dx,fs,hp,h0,h1,h2⟩:=h;exact⟨_,h1⟩
end
def CO.live:CO->Prop
 |.t _|.wT _=>False
 |_=>True
structure Gh(G:Gx)(F H:Hp)(M:Nat->J4)(ch:CH):Prop where
 fh:rp F H
 inj:∀i j,i<ch.length->j<ch.length->M i=M j->i=j
 out:∀i o,ch[i]?=Z o->o.live->F (M i)=J
 ok:∀i o,ch[i]?=Z o->K3 G F H M ch.length (M i) o
structure Iv(G:Gx)(F H:Hp)(M:Nat->J4)(ch:CH)(F' H':Hp)(Ha:Nat->J4)(G0:CH):Prop where
 gh:Gh G F' H' Ha G0
 len:ch.length<=G0.length
 ext:∀i,i<ch.length->Ha i=M i
 fr:∀i,ch.length<=i->i<G0.length->H (Ha i)=J
 Jd:∀b o,H b=Z o->(∀i,i<ch.length->M i≠b)->H' b=Z o
 old:rp F F'
 nw:∀b o,F' b=Z o->F b=Z o\/H b=J\/(∃vs,o=.t vs)\/∃ob J1,o=.Iq ob (.dT J1)
 hs:∀b,H' b=J->H b=J
variable{u:HO}
section
variable{G:Gx}{F H F' H' F1 H1:Hp}{M Ha Hh:Nat->J4}{ch G0 ch1:CH}{c:CV}{v:V}
def Gh.at(g:Gh G F H M ch){i:Nat}(hi:i<ch.length):∃u,H (M i)=Z u:=(g.ok i ch[i] (by simp[hi])).there
def Iv.refl(g:Gh G F H M ch):Iv G F H M ch F H M ch:=⟨g,nL _,λ_ _=>rfl,λi h1 h2=>absurd h2 (Mm.mpr h1),λ_ _ h _=>h,rp.refl _,λ_ _ h=>.inl h,λ_ h=>h⟩
def Iv.trans(a:Iv G F H M ch F1 H1 Hh ch1)(b:Iv G F1 H1 Hh ch1 F' H' Ha G0):Iv G F H M ch F' H' Ha G0 where
 gh:=b.gh
 len:=JS a.len b.len
 ext:=λi hi=>(b.ext i (KG hi a.len)).trans (a.ext i hi)
 fr:=λi h1 h2=>by
  by_cases hi:i<ch1.length
  .rw[b.ext i hi];exact a.fr i h1 hi
  .exact a.hs _ (b.fr i (Mm.mp hi) h2)
 Jd:=λx o h1 h2=>b.Jd x o (a.Jd x o h1 h2) λi hi e=>by
  by_cases O:i<ch.length
  .rw[a.ext i O]at e;exact h2 i O e
  .have:=a.fr i (Mm.mp O) hi;rw[e,h1]at this;cases this
 old:=a.old.trans b.old
 nw:=λx o h=>(b.nw x o h).elim (a.nw x o) λz=>.inr (z.imp_left (a.hs x))
 hs:=λx h=>a.hs x (b.hs x h)
def jB(h:rp H H')(b:J4)(e:H' b=J):H b=J:=h.free e
def Gh.of(g:Gh G F H M ch)(st:HD F H F' H'):Gh G F' H' M ch:=by
 refine⟨st.fh,g.inj,λi o hi hl=>?_,λi o h=>(g.ok i o h).mono st.ff (λ_ _=>rfl) (nL _) λu U=>st.hh _ _ U⟩;cases q:F' (M i)with
 |none=>rfl
 |some u=>
  have O:=g.ok i o hi;rcases st.nw _ _ q with z|z|⟨vs,z⟩
  .rw[g.out i o hi hl]at z;cases z
  .have⟨u,U⟩:=O.there;rw[U]at z;cases z
  .cases o with
   |e l=>have⟨vs,h1,_⟩:=O;rw[h1]at z;cases z
   |t l=>exact hl.elim
   |wT l=>exact hl.elim
   |dK l=>have⟨W,vs,h1,_⟩:=O;rw[h1]at z;cases z
   |dT l=>have⟨W,vs,h1,_⟩:=O;rw[h1]at z;cases z
   |ins c l=>have⟨p,θ,dx,fs,hp,h0,h1,_⟩:=O;rw[h1]at z;cases z
def pd(st:HD F H F' H')(b:J4)(o:HO)(h:F' b=Z o):F b=Z o\/H b=J\/(∃vs,o=.t vs)\/∃ob J1,o=.Iq ob (.dT J1):=(st.nw b o h).imp_right λz=>z.imp_right λKm=>by have⟨vs,z⟩:=Km;exact .inl ⟨vs,JU ((st.fh b o h).symm.trans (st.hh b _ z))⟩
def Iv.of(g:Gh G F H M ch)(st:HD F H F' H'):Iv G F H M ch F' H' M ch:=⟨g.of st,nL _,λ_ _=>rfl,λi h1 h2=>absurd h2 (Mm.mpr h1),λb o h _=>st.hh b o h,st.ff,pd st,jB st.hh⟩
def af{α:Type}{l:B α}{i:Nat}{x:α}(h:l[i]?=Z x):i<l.length:=(gX h).1
def Iv.put(g:Gh G F H M ch){i:Nat}{o w:CO}(U:ch[i]?=Z w)(hl:w.live)(ho:K3 G F (upd H (M i) u) M ch.length (M i) o):Iv G F H M ch F (upd H (M i) u) M (ch.set i o) where
 gh:=⟨λb x e=>by
     rw[aa λq=>by rw[q,g.out i w U hl]at e;cases e];exact g.fh b x e,λj k hj hk=>g.inj j k ‹hj› ‹hk›,λj x O W=>by
     by_cases q:i=j
     .subst q;exact g.out i w U hl
     .rw[gN q]at O;exact g.out j x O W,λj x O=>by
     rw[P5];by_cases q:i=j
     .subst q;rw[Mh (af U)]at O;cases O;exact ho
     .rw[gN q]at O;refine(g.ok j x O).mono (rp.refl _) (λ_ _=>rfl) (nL _) λy hy=>?_
      rw[aa λe=>q (g.inj j i (af O) (af U) e).symm];exact hy⟩
 len:=by simp
 ext:=λ_ _=>rfl
 fr:=λj h1 h2=>absurd h2 ‹h1›
 Jd:=λb x h1 h2=>by rw[aa λe=>h2 i (af U) e.symm];exact h1
 old:=rp.refl _
 nw:=λ_ _ h=>.inl h
 hs:=λb h=>by
  by_cases e:b=M i
  .subst e;rw[ac]at h;cases h
  .rw[aa e]at h;assumption
def Iv.new (g:Gh G F H M ch) (st:HD F H F' H') {o:CO} (ha:H a=J) (hf:F' a=J) (ho:K3 G F' H' (λi=>if i=ch.length then a else M i) (ch.length+1) a o) :
  Iv G F H M ch F' H' (λi=>if i=ch.length then a else M i) (ch++[o]):=by
 have g':=(Iv.of g st).gh;have lt:∀{i:Nat},i<ch.length->(if i=ch.length then a else M i)=M i:=λ{i} hi=>if_neg (IS hi)
 have ne:∀{i:Nat},i<ch.length->M i≠a:=λ{i} hi e=>by have⟨u,U⟩:=g.at hi;rw[e,ha]at U;cases U
 have key:∀i x,(ch++[o])[i]?=Z x->(i<ch.length/\ch[i]?=Z x)\/(i=ch.length/\x=o):=λi x O=>by
  by_cases h1:i<ch.length
  .rw[gL h1]at O;exact .inl ⟨h1,O⟩
  .rw[gR (Mm.mp h1)]at O;have h2:i=ch.length:=by have:=af O;simp at this;lia
   subst h2;simp at O;exact .inr ⟨rfl,O.symm⟩
 refine⟨⟨st.fh,λi j hi W e=>?_,λi x O hl=>?_,λi x O=>?_⟩,Ξ,λi hi=>lt hi,λi h1 h2=>?_,λb x h1 _=>st.hh b x h1,st.ff,pd st,jB st.hh⟩
 .rwa[Kj,JK,Ny]at hi W;by_cases h1:i=ch.length<;>by_cases h2:j=ch.length
  .rw[h1,h2]
  .rw[if_pos h1,if_neg h2]at e;exact absurd e.symm (ne Θ)
  .rw[if_neg h1,if_pos h2]at e;exact absurd e (ne Θ)
  .rw[if_neg h1,if_neg h2]at e;exact g.inj i j Θ Θ e
 .rcases key i x O with ⟨h1,h2⟩|⟨h1,h2⟩
  .rw[lt h1];exact g'.out i x h2 hl
  .rw[if_pos h1];exact hf
 .rwa[Kj,JK,Ny];rcases key i x O with ⟨h1,h2⟩|⟨h1,h2⟩
  .rw[lt h1];exact(g'.ok i x h2).mono (rp.refl _) (λj W=>lt W) (OC _) λu U=>U
  .subst h1;subst h2;rw[if_pos rfl];exact ho
 .rwa[Kj,JK,Ny]at h2;have h3:i=ch.length:=by lia
  rw[if_pos h3];exact ha
def Lq.G1{t:T}(a:Iv G F H M ch F' H' Ha G0)(h:Lq G F H M ch.length t v):Lq G F' H' Ha G0.length t v:=by
 have⟨x,rfl,ht,U,hF,hp⟩:=h;have W:∀o,H x=Z o->H' x=Z o:=λo e=>a.Jd x o e hp
 have hs:∃o,H x=Z o/\NT o/\∀ob J1,o≠.Iq ob (.dT J1):=by cases t<;>first|(cases ht;done)|(have⟨b,vs,e,rfl,h1,_⟩:=U;exact⟨_,h1,(λ_ z=>by cases z),λ_ _ z=>by cases z⟩)
 have⟨o,h1,nt,nf⟩:=hs;refine⟨x,rfl,ht,LO.step a.old (λb o e h=>by cases e;exact W o h) U,?_,λi hi e=>?_⟩
 .cases q:F' x with
  |none=>rfl
  |some w=>
   have y:=a.gh.fh x w q;rw[W o h1]at y;cases y
   rcases a.nw x _ q with z|z|⟨vs,z⟩|⟨ob,J1,z⟩
   .rw[hF]at z;cases z
   .rw[h1]at z;cases z
   .exact absurd z (nt vs)
   .exact absurd z (nf ob J1)
 .by_cases O:i<ch.length
  .rw[a.ext i O]at e;exact hp i O e
  .have:=a.fr i (Mm.mp O) hi;rw[e,h1]at this;cases this
def Hu.G1(a:Iv G F H M ch F' H' Ha G0)(h:Hu G F M ch.length c v):Hu G F' Ha G0.length c v:=h.mono a.old (λi hi=>a.ext i hi) a.len
def HX.G1(a:Iv G F H M ch F' H' Ha G0)(h:HX G F H M ch.length c v):HX G F' H' Ha G0.length c v:=by
 cases c with
 |own b t=>exact Lq.G1 a h
 |g d=>exact Hu.G1 (c:=.g d) a h
 |ref i=>exact Hu.G1 (c:=.ref i) a h
def Ip.G1{l:B CV}(a:Iv G F H M ch F' H' Ha G0)(h:Ip G F H M ch.length l vs):Ip G F' H' Ha G0.length l vs:=Paired.M6 h λ_ _ r=>r.G1 a
end
structure NE where
 F:Hp
 H:Hp
 M:Nat->J4
 ch:CH
structure Ge(G:Gx)(Φ:NE)(D:Sl)(ch:CH)(Y:St)(F H:Hp)(M:Nat->J4):Prop where
 ad:Iv G Φ.F Φ.H Φ.M Φ.ch F H M ch
 len:D.length=Y.length
 has:∀(i:Nat)(c:CV),D[i]?=Z (Z c)->∃v,Y[i]?=Z (Z v)/\HX G F H M ch.length c v
 nw:∀(i:Nat)(t:T)(a:J4),D[i]?=Z (Z (.own C t))->Y[i]?=Z (Z (.ref a))->Φ.H a=J
 Po:∀(i j:Nat)(t u:T)(b:Bool)(a:J4),i≠j->D[i]?=Z (Z (.own C t))->D[j]?=Z (Z (.own b u))->Y[i]?=Z (Z (.ref a))->Y[j]?=Z (Z (.ref a))->False
variable{G:Gx}{Φ:NE}{D:Sl}{ch:CH}{M:Nat->J4}
def Ge.gh{F:Hp}(e:Ge G Φ D ch Y F H M):Gh G F H M ch:=e.ad.gh
abbrev RL(α β:Type):=Gx->Hp->Hp->Hp->(Nat->J4)->Nat->α->β->Prop
def Aj(H:Hp)(c:CV)(v:V):Prop:=∀t,c=.own C t->∀a,v=.ref a->H a=J
def RV:RL CV V:=λG O F H M n c v=>HX G F H M n c v/\Aj O c v
def RB:RL Bool Bool:=λ_ _ _ _ _ _ a b=>a=b
def RA:RL (B CV) (B V):=λG _ F H M n c v=>Ip G F H M n c v
abbrev FM(α:Type):=Sl->CH->ζ (α×CH)
abbrev Fg:=FM CV
def KM(G:Gx){α β:Type}(R:RL α β)(F H:Hp)(M:Nat->J4)(ch:CH)(a:α)(G0:CH)(Q:β->Hp->Prop):Prop:=∀b F' H' Ha,Iv G F H M ch F' H' Ha G0->R G H F' H' Ha G0.length a b->Q b H'
def tK(G:Gx){α β:Type}(R:RL α β)(f:B CV->FM α)(Y:St)(vs:B V)(H:Hp)(Q:β->Hp->Prop):Prop:=∃ Φ D ch F M cs a G0,Ge G Φ D ch Y F H M/\Ip G F H M ch.length cs vs/\f cs D ch=Z (a,G0)/\KM G R F H M ch a G0 Q
def tM(G:Gx){α β:Type}(R:RL α β)(f:FM α):St->Hp->(β->Hp->Prop)->Prop:=λY H Q=>∃ Φ D ch F M a G0,Ge G Φ D ch Y F H M/\f D ch=Z (a,G0)/\KM G R F H M ch a G0 Q
def GE(G:Gx)(X:Cx)(e:J8)(f:Fg):Prop:=PE X e (tM G RV f)
def GT(G:Gx)(X:Cx)(e:J8)(f:FM Bool):Prop:=PT X e (tM G RB f)
def GW(G:Gx)(X:Cx)(e:J8)(f:FM Bool):Prop:=PW X e (tM G RB f)
def GA(G:Gx)(X:Cx)(es:B J8)(f:FM (B CV)):Prop:=Ij X es (tM G RA f)
class Kz{α β:Type}(R:RL α β):Prop where
 m:∀{G H0 H1 F H M n a b},(∀x,H1 x=J->H0 x=J)->R G H1 F H M n a b->R G H0 F H M n a b
instance:Kz RV:=⟨λh r=>⟨r.1,λt e a q=>h a (r.2 t e a q)⟩⟩
instance:Kz RB:=⟨λ_ r=>r⟩
instance:Kz RA:=⟨λ_ r=>r⟩
section
variable{G:Gx}{Φ:NE}{F H F' H' F1 H1:Hp}{M Ha Hh:Nat->J4}{D:Sl}{Y:St}{ch G0 ch1 ch2:CH}{c:CV}{v:V}{Q:VK}
def Ge.G1(e:Ge G Φ D ch Y F H M)(a:Iv G F H M ch F' H' Ha G0):Ge G Φ D G0 Y F' H' Ha:=⟨e.ad.trans a,e.len,λi c h=>let ⟨v,h1,h2⟩:=e.has i c h;⟨v,h1,h2.G1 a⟩,e.nw,e.Po⟩
def KM.G1{α β:Type}{R:RL α β}[Kz R]{a:α}{Q:β->Hp->Prop}(k:KM G R F H M ch a G0 Q)(d:Iv G F H M ch F1 H1 Hh ch1):KM G R F1 H1 Hh ch1 a G0 Q:=λb F' H' Ha d' r=>k b F' H' Ha (d.trans d') (Kz.m d.hs r)
def KM.sol(k:KM G RV F H M ch c G0 Q)(a:Iv G F H M ch F' H' Ha G0)(r:Hu G F' Ha G0.length c v):Q v H':=k v F' H' Ha a ⟨r.toC,λt e=>by rw[e]at r;exact r.elim⟩
def KM.dat{d:Dt}(k:KM G RV F H M ch (.g d) ch Q)(g:Gh G F H M ch)(r:G2 G.K F d v):Q v H:=k.sol (.refl g) r
def bS{α β:Type}{x:ζ α}{f:α->ζ β}{b:β}(h:x.bind f=Z b):∃a,x=Z a/\f a=Z b:=Ti.mp h
def mS{α β:Type}{x:ζ α}{f:α->β}{b:β}(h:x.map f=Z b):∃a,x=Z a/\f a=b:=OD.mp h
section
variable{α β:Type}{R:RL α β}[Kz R]{f fa fb fc:Fg}{fs:FM (B CV)}{ft:FM Bool}{k:B CV->FM α}{Q Q':β->Hp->Prop}
def tM.imp{f:FM α}(h:tM G R f Y H Q)(i:∀b H',Q b H'->Q' b H'):tM G R f Y H Q':=let ⟨Φ,D,ch,F,M,a,G0,en,hf,k⟩:=h;⟨Φ,D,ch,F,M,a,G0,en,hf,λb F' H' Ha d r=>i b H' (k b F' H' Ha d r)⟩
def tK.one(h:tM G R (λD ch=>(fa D ch).bind λp=>k [p.1] D p.2) Y H Q):tM G RV fa Y H λx H1=>tK G R k Y [x] H1 Q:=by have⟨Φ,D,ch,F,M,a,G0,en,O,U⟩:=h;have⟨p,h1,O⟩:=bS O;exact⟨Φ,D,ch,F,M,p.1,p.2,en,h1,λx F1 H1 Hh d1 W=>⟨Φ,D,p.2,F1,Hh,[p.1],a,G0,en.G1 d1,.cons W.1 .nil,O,U.G1 d1⟩⟩
theorem tK.two(h:tM G R (λD ch=>(fa D ch).bind λp=>(fb D p.2).bind λq=>k [p.1,q.1] D q.2) Y H Q):tM G RV fa Y H λx H1=>tM G RV fb Y H1 λy H2=>tK G R k Y [x,y] H2 Q:=by have⟨Φ,D,ch,F,M,a,G0,en,O,W⟩:=h;have⟨p,h1,O⟩:=bS O;have⟨q,h2,O⟩:=bS O;exact⟨Φ,D,ch,F,M,p.1,p.2,en,h1,λx F1 H1 Hh d1 U=>⟨Φ,D,p.2,F1,Hh,q.1,q.2,en.G1 d1,h2,λy F2 H2 IF d2 r2=>⟨Φ,D,q.2,F2,IF,[p.1,q.1],a,G0,(en.G1 d1).G1 d2,.cons (U.1.G1 d2) (.cons r2.1 .nil),O,(W.G1 d1).G1 d2⟩⟩⟩
def tK.args(h:tM G R (λD ch=>(fs D ch).bind λp=>k p.1 D p.2) Y H Q):tM G RA fs Y H λus H1=>tK G R k Y us H1 Q:=by have⟨Φ,D,ch,F,M,a,G0,en,O,U⟩:=h;have⟨p,h1,O⟩:=bS O;exact⟨Φ,D,ch,F,M,p.1,p.2,en,h1,λx F1 H1 Hh d1 W=>⟨Φ,D,p.2,F1,Hh,p.1,a,G0,en.G1 d1,W,O,U.G1 d1⟩⟩
def tK.test{k:Bool->FM α}(h:tM G R (λD ch=>(ft D ch).bind λp=>k p.1 D p.2) Y H Q):tM G RB ft Y H λb H1=>tM G R (k b) Y H1 Q:=by have⟨Φ,D,ch,F,M,a,G0,en,O,U⟩:=h;have⟨p,h1,O⟩:=bS O;exact⟨Φ,D,ch,F,M,p.1,p.2,en,h1,λx F1 H1 Hh d1 W=>by cases W;exact⟨Φ,D,p.2,F1,Hh,a,G0,en.G1 d1,O,U.G1 d1⟩⟩
end
end
variable{J0:B (J4×Obj)}{A:Jo}{Q:Value->pv->Prop}
section
variable{X:Cx}{o a b e c:J8}{es:B J8}{fa fb fo fe:De->ζ Dt}{fs:De->ζ (B Dt)}{pos apos G5 p:Pos}{x:Str}{sc:J9}{i:Nat}
def Ak(K:xA9)(mg:Str->ζ Value)(x:Str)(d:Dt):Prop:=∃v,(∃u,mg x=Z u/\Da v u)/\∀F,G2 K F d v
noncomputable def uC:Dt->Bool
 |_=>ξ
noncomputable def tyD:Dt->String
 |.ek=>"NoneType"
 |.bl _=>"bool"
 |.int _=>"int"
 |.str _=>"str"
 |.t _=>"tuple"
 |.e _=>"list"
 |.HC _ _=>"dict"
 |.HJ _ _=>"dict"
noncomputable def c9(c:String):Dt->Bool
 |.ek=>c=="NoneType"
 |.bl _=>c=="bool"||c=="int"
 |.int _=>c=="int"
 |.str _=>c=="str"
 |.t _=>c=="tuple"
 |.e _=>c=="list"
 |.HC _ _=>c=="dict"
 |.HJ _ _=>c=="dict"
def nQ {s:pv} {E:Value->pv->Prop} {c:Value} {b:Bool} {v:V} {u:Value} {d:Dt} (I:b7 X J0 Y H s) (O:Da v u) (r:G2 X.K H d v) (hi:uC d=ξ) (e:xH9 X.K (.type (tyD d)) c=Z b) (h:∀ tk,Q (.bool b) {s with toks:=tk}) :
  wpAny (model X.prog X.w) A (call (.builtin "isinstance") [u,c]) Q E s:=by
 cases d with
 |ek=>rwa[G2]at r;subst r;exact dz I O .ek e h
 |bl y=>rwa[G2]at r;subst r;exact dz I O (.bl y) e h
 |int y=>rwa[G2]at r;subst r;exact dz I O (.int y) e h
 |str y=>rwa[G2]at r;subst r;exact dz I O (.str y) e h
 |t l=>rwa[G2]at r;have⟨a,vs,rfl,h1,h2⟩:=r;cases O;have⟨J3,_,pl,_⟩:=I.tuple h1;have⟨o,U,e2,_⟩:=pl;exact xB9 PySem.W.kitx_tuple I.Js ⟨o,U,e2⟩ e (λz=>nomatch z) h
 |e l=>rwa[G2]at r;have⟨a,vs,rfl,h1,h2⟩:=r;cases O;have⟨J3,_,pl,_⟩:=I.list h1;have⟨o,n,U,e2,_⟩:=pl;exact xB9 xU9 I.Js ⟨o,U,e2⟩ e (λz=>nomatch z) h
 |HC ks l=>rwa[G2]at r;have⟨a,J1,rfl,h1,_⟩:=r;cases O;have⟨_,_,vs,_,p⟩:=gj I.Hb h1;have⟨o,es,ep,U,e2,_⟩:=p;exact xB9 xM9 I.Js ⟨o,U,e2.1⟩ e (λz=>nomatch z) h
 |HJ ks l=>rwa[G2]at r;have⟨a,J1,rfl,h1,_⟩:=r;cases O;have⟨_,_,xs,_,o,es,ep,U,e2,_⟩:=(show Hc X.prog X.w H s.heap a (.dT J1)from(Rd.of h1).ok I.Hb);exact xB9 xM9 I.Js ⟨o,U,e2.1⟩ e (λz=>nomatch z) h
def kG(K:xA9)(c:String):Prop:=∀d:Dt,uC d=ξ->xH9 K (.type (tyD d)) (.type c)=Z (c9 c d)
def nR:Hx X (.builtin "isinstance") (λxs H Q=>∃v c d b,xs=[v,.ty c]/\G2 X.K H d v/\uC d=ξ/\xH9 X.K (.type (tyD d)) (.type c)=Z b/\Q (.bl b) H):=by intro J0 s Y H xs us Q I r h;have⟨v,c,d,b,rfl,rd,hi,e,q⟩:=h;have⟨u,w',rfl,U,O⟩:=tj r;cases O;exact nQ I U rd hi e λtk=>⟨.bl b,H,I.tok _,rfl,q⟩
def MRD(K:xA9)(r:V->B V->Hp->VK->Prop)(g:Dt->B Dt->ζ T):Prop:=∀F H d v ds vs (Q:VK) t,rp F H->HK K F H d v->jA K F H ds vs->g d ds=Z t->KO K F H t Q->r v vs H Q
noncomputable def db:B Dt->ζ (B Str)
 |[]=>Z []
 |.str b::r=>(db r).map (b::·)
 |_=>J
theorem fL{F:Hp}:∀{l:B Dt}{vs:B V}{bs:B Str},ag K F l vs->db l=Z bs->vs=bs.map V.str
 |[],vs,bs,r,h=>by cases h;rwa[ag]at r;exact r
 |d::l,vs,bs,r,h=>by
  cases d<;>first|cases h;done|skip
  rwa[db]at h;have⟨cs,hc,h⟩:=OD.mp h;cases h;rwa[ag,G2]at r;have⟨v,ws,rfl,rfl,O⟩:=r;rw[fL O hc];rfl
def kJ:Dt->B Dt->ζ T
 |.str a,[.e l]=>(db l).bind λts=>if JoinOk a ts then Z (.f (.str (Tx a ts)))else J
 |_,_=>J
omit x in
def yu:MRD K (λx vs H Q=>∃(a:Str)(l:J4)(ts:B Str),x=.str a/\vs=[.ref l]/\Id K H l (ts.map V.str)/\JoinOk a ts=C/\Q (.str (Tx a ts)) H) kJ:=by
 intro F H d v ds vs Q t W rd rs O k;unfold kJ at O;split at O<;>first|cases O;done|skip
 have⟨ts,U,O⟩:=Ti.mp O;split at O
 .rename_i hj;cases O;cases rd;have⟨v,rfl,rv⟩:=bE rs;have⟨a,vs,rfl,h1,h2⟩:=rv;have:=fL h2 U;subst this;exact⟨_,a,ts,rfl,rfl,h1,hj,k.str W⟩
 .cases O
end
noncomputable def ah{κ:Type}[DecidableEq κ]:B κ->B Dt->κ->ζ Dt
 |k'::ks,d::l,k=>if k'=k then Z d else ah ks l k
 |_,_,_=>J
theorem fM{κ:Type}[DecidableEq κ]{F:Hp}{k:κ}:∀{J1:B (κ×V)}{l:B Dt}{d:Dt},ag K F l (J1.map (·.2))->ah (J1.map (·.1)) l k=Z d->∃v,bC J1 k=Z v/\G2 K F d v
 |[],l,d,r,h=>by cases l<;>cases h
 |p::J1,[],d,r,h=>by cases h
 |p::J1,e::l,d,r,h=>by
  rwa[Hz,ag]at r;have⟨v,ws,hv,W,U⟩:=r;cases hv;rwa[Hz,ah]at h;by_cases O:p.1=k
  .rw[if_pos O]at h;cases h;exact⟨p.2,eu O,W⟩
  .rw[if_neg O]at h;rw[cS O];exact fM U h
theorem fQ{κ:Type}[DecidableEq κ]{F:Hp}{k:κ}:∀{J1:B (κ×V)}{l:B Dt},ag K F l (J1.map (·.2))->ah (J1.map (·.1)) l k=J->bC J1 k=J
 |[],l,r,h=>rfl
 |p::J1,[],r,h=>by rwa[Hz,ag]at r;cases r
 |p::J1,e::l,r,h=>by
  rwa[Hz,ag]at r;have⟨v,ws,W,r1,U⟩:=r;cases W;rwa[Hz,ah]at h;by_cases O:p.1=k
  .rw[if_pos O]at h;cases h
  .rw[if_neg O]at h;rw[cS O];exact fQ U h
noncomputable def ci:Dt->ζ rb
 |.int i=>Z (.inl i)
 |.str x=>Z (.inr x)
 |_=>J
def cG{F:Hp}{d:Dt}{v:V}{k:rb}(r:HK K F H d v)(h:ci d=Z k):v=kV k:=by
 unfold ci at h;rcases h
 .cases h;exact r
 .cases h;exact r
def UG:Dt->Dt->ζ T
 |.HC ks l,k=>(ci k).bind λk=>(ah ks l k).map .f
 |x,y=>My x y
section
variable{X:Cx}{o a b e c:J8}{es:B J8}{fa fb fo fe fk:De->ζ Dt}{fs:De->ζ (B Dt)}{pos apos G5 p:Pos}{x:Str}{sc:J9}{i:Nat}
noncomputable def az{κ:Type}[DecidableEq κ]:B (κ×Dt)->κ->Dt->B (κ×Dt)
 |[],k,d=>[(k,d)]
 |p::l,k,d=>if p.1=k then(p.1,d)::l else p::az l k d
def pf {κ:Type} [DecidableEq κ] (k:κ) (v:V):∀ (J1:B (κ×V)) (l:B (κ×Dt)) (d:Dt),(J1.map (·.1)).Nodup->J1.map (·.1)=l.map (·.1)->(ar J1 k v).map (·.1)=(az l k d).map (·.1)∧
  ∀(K:xA9)(F:Hp),G2 K F d v->ag K F (l.map (·.2)) (J1.map (·.2))->ag K F ((az l k d).map (·.2)) ((ar J1 k v).map (·.2)):=by
 have key:∀(J1:B (κ×V)),(J1.map (·.1)).Nodup->ar J1 k v=match J1 with|[]=>[(k,v)]|p::r=>if p.1=k then(p.1,v)::r else p::ar r k v:=λJ1 U=>by
  cases J1 with
  |nil=>rfl
  |cons p r=>
   dsimp only;by_cases hp:p.1=k
   .rw[if_pos hp];unfold ar;rw[if_pos (by simp[hp])];rwa[Hz,if_pos hp];congr 1
    have hk:∀q∈r,¬ q.1=k:=λq hq z=>by have:=(Jr.mp U).1;exact this (show p.1∈r.map (·.1)by rw[hp,<- z];exact List.mem_map_of_mem hq)
    exact(M3 λq hq=>if_neg (hk q hq)).trans (List.map_id' r)
   .rw[if_neg hp];unfold ar;have e:(p::r).any (λkv=>decide (kv.1=k))=r.any λkv=>decide (kv.1=k):=by simp[hp]
    rw[e];split
    .rwa[Hz,if_neg hp]
    .rfl
 intro J1;induction J1 with
 |nil=>
  intro l d U O;cases l with
  |nil=>exact⟨rfl,λK F r _=>by simpa[az,ar] using ag.one r⟩
  |cons q l=>cases O
 |cons p r ih=>
  intro l d U O;cases l with
  |nil=>cases O
  |cons q l=>
   rwa[Hz,OA]at O;have hn':=(Jr.mp U).2;rw[key _ U];rwa[az];rw[<- O.1];by_cases hp:p.1=k
   .rw[if_pos hp,if_pos hp];refine⟨by simp[O.2],λK F rd rs=>?_⟩;rwa[Hz,ag]at rs ⊢;have⟨w,ws,hw,r1,r2⟩:=rs;cases hw;exact⟨_,_,rfl,rd,r2⟩
   .rw[if_neg hp,if_neg hp];have⟨i1,i2⟩:=ih l d hn' O.2;refine⟨by simp[O.1,i1],λK F rd rs=>?_⟩;rwa[Hz,ag]at rs ⊢;have⟨w,ws,hw,r1,r2⟩:=rs;cases hw;exact⟨_,_,rfl,r1,i2 K F rd r2⟩
end
def Qg:CO->ζ Dt
 |.e l=>(dats l).map .e
 |.dK l=>(dats (l.map (·.2))).map (.HC (l.map (·.1)))
 |.dT l=>(dats (l.map (·.2))).map (.HJ (l.map (·.1)))
 |_=>J
def vw(ch:CH):CV->ζ Dt
 |.g d=>Z d
 |.ref i=>(ch[i]?).bind Qg
 |.own _ t=>t.d
def vws(ch:CH):B CV->ζ (B Dt)
 |[]=>Z []
 |c::l=>(vw ch c).bind λd=>(vws ch l).map (d::·)
section
variable{G:Gx}{Φ:NE}{F H F' H' F1 H1:Hp}{M Ha Hh:Nat->J4}{n:Nat}{D:Sl}{Y:St}{ch G0 ch1 ch2:CH}{c:CV}{v:V}{Q:VK}{d:Dt}{t:T}
def aJ(g:Gh G F H M ch)(r:HX G F H M ch.length c v)(h:vw ch c=Z d):HK G.K F H d v:=by
 cases c with
 |g e=>cases h;exact HK.of g.fh r
 |own b t=>have⟨a,rfl,_,ho,_⟩:=r;exact ho.repB g.fh h
 |ref i=>
  have⟨_,rfl⟩:=r;have⟨o,h1,h2⟩:=bS h;have O:=g.ok i o h1;cases o with
  |e l=>have⟨ds,q,rfl⟩:=mS h2;have⟨vs,e,U⟩:=O;exact⟨_,vs,rfl,Id.of e,aS q U⟩
  |t l=>cases h2
  |dK l=>have⟨ds,q,rfl⟩:=mS h2;have⟨_,vs,e,W,U⟩:=O;exact⟨_,vs,rfl,.of e,W,aS q U⟩
  |dT l=>have⟨ds,q,rfl⟩:=mS h2;have⟨_,vs,e,W,U⟩:=O;exact⟨_,vs,rfl,e,W,aS q U⟩
  |wT l=>cases h2
  |ins c l=>cases h2
theorem fR(g:Gh G F H M ch):∀{l:B CV}{ds:B Dt}{vs:B V},Ip G F H M ch.length l vs->vws ch l=Z ds->jA G.K F H ds vs
 |[],_,_,.nil,h=>by cases h;exact rfl
 |c::l,_,_,.cons r t,h=>by have⟨d,h1,h2⟩:=bS h;have⟨ds,O,rfl⟩:=mS h2;exact⟨_,_,rfl,aJ g r h1,fR g t O⟩
inductive Md where|v|o|w
noncomputable def al(ch:CH):T->ζ (CV×CH)
 |.f d=>Z (.g d,ch)
 |.e l=>Z (.ref ch.length,ch++[.e (l.map .g)])
 |.HC l=>if(l.map (·.1)).Nodup then Z (.ref ch.length,ch++[.dK (l.map λp=>(p.1,.g p.2))])else J
 |.HJ l=>if(l.map (·.1)).Nodup then Z (.ref ch.length,ch++[.dT (l.map λp=>(p.1,.g p.2))])else J
def fin(m:Md)(ch:CH)(t:T):ζ (CV×CH):=match m with
 |.v=>t.d.map λd=>(.g d,ch)
 |.o=>al ch t
 |.w=>if t.own then Z (.own C t,ch)else J
omit x in
def bP{m:Md}(g:Gh G F H M ch)(h:fin m ch t=Z (c,G0))(k:KM G RV F H M ch c G0 Q):KO G.K F H t Q:=by
 have f:∀{d:Dt},KM G RV F H M ch (.g d) ch Q->KL G.K F H d Q:=λk v H' F' st r=>k.sol (.of g st) r
 cases m with
 |v=>have h:t.d.map (λd=>(CV.g d,ch))=Z (c,G0):=h;have⟨d,hd,e⟩:=mS h;cases e;exact KL.to hd (f k)
 |w=>
  have h:(if t.own then Z (CV.own C t,ch)else J)=Z (c,G0):=h;rcases h
  rename_i W;cases h;intro v H' F' S st o U
  have ha:∃a,v=.ref a:=by
   cases t<;>try(cases W;done)
   all_goals (have⟨a,_,e,_⟩:=o;exact⟨a,e⟩)
  have⟨a,rfl⟩:=ha;have O:=rF W o;refine k _ F' H' M (.of g st) ⟨⟨a,rfl,W,?_,(U a O).1,λi hi e=>?_⟩,λ_ _ b e=>by cases e;exact(U a O).2.1⟩
  .cases t<;>try(cases W;done)
   all_goals (have⟨b,vs,e,_,r⟩:=o;cases e;exact⟨a,vs,rfl,rfl,r⟩)
  .have⟨u,hu⟩:=g.at hi;rw[e,(U a O).2.1]at hu;cases hu
 |o=>
  cases t with
  |f d=>cases h;exact KL.to rfl (f k)
  |e l=>cases h;rintro v H' F' S st ⟨a,vs,rfl,O,h1,h2⟩ U;refine k.sol (.new g st (U a O).2.1 (U a O).1 ⟨vs,h1,G9.dats h2⟩) ⟨Ξ,?_⟩;simp
  |HC l=>
   have h:(if(l.map (·.1)).Nodup then Z (CV.ref ch.length,ch++[CO.dK (l.map λp=>(p.1,CV.g p.2))])else J)=Z (c,G0):=h;split at h<;>cases h
   rename_i nd;rintro v H' F' S st ⟨a,vs,rfl,O,h1,h2,h3⟩ U;refine k.sol (.new g st (U a O).2.1 (U a O).1 ⟨by rw[IV];exact nd,vs,h1,by rw[h2,IV];rfl,?_⟩) ⟨Ξ,Ξ⟩;have:=G9.dats (G:=G) (F:=F') (M:=λi=>if i=ch.length then a else M i) (n:=ch.length+1) h3
   rw[IV]at this ⊢;assumption
  |HJ l=>
   have h:(if(l.map (·.1)).Nodup then Z (CV.ref ch.length,ch++[CO.dT (l.map λp=>(p.1,CV.g p.2))])else J)=Z (c,G0):=h;split at h<;>cases h
   rename_i nd;rintro v H' F' S st ⟨a,vs,rfl,O,h1,h2,h3⟩ U;refine k.sol (.new g st (U a O).2.1 (U a O).1 ⟨by rw[IV];exact nd,vs,h1,by rw[h2,IV];rfl,?_⟩) ⟨Ξ,Ξ⟩;have:=G9.dats (G:=G) (F:=F') (M:=λi=>if i=ch.length then a else M i) (n:=ch.length+1) h3
   rw[IV]at this ⊢;assumption
end
variable{r:R2}{y:V}
section
variable{G:Gx}{X:Cx}{e a b c o:J8}{es HF:B J8}{f fa fb fc:Fg}{fs:FM (B CV)}{ta tb tc:FM Bool}{pos apos G5 p:Pos}{i:Nat}{m:Md}{d:Dt}
noncomputable def eK(d:Dt):Fg:=λ_ ch=>Z (.g d,ch)
def uD{v:V}(h:PE X e (tC v))(r:∀F,G2 G.K F d v):GE G X e (eK d):=PE.mono h λY H Q Km=>by have⟨Φ,D,ch,F,M,a,G0,en,O,k⟩:=Km;cases O;exact k.dat en.gh (r F)
noncomputable def lent:CV->CV
 |.own _ t=>.own ξ t
 |c=>c
noncomputable def eV(i:Nat):Fg:=λD ch=>match D[i]? with
 |some (Z c)=>Z (lent c,ch)
 |_=>J
omit x in
def Cd(h:PE X e (qH i)):GE G X e (eV i):=PE.mono h λY H Q KJ=>by
 have⟨Φ,D,ch,F,M,a,G0,en,O,k⟩:=KJ;unfold eV at O;rcases O
 rename_i c hc;cases O;have⟨v,h1,h2⟩:=en.has i c hc;refine⟨v,h1,k v F H M (.refl en.gh) ⟨?_,λt e=>?_⟩⟩
 .cases c<;>exact h2
 .cases c<;>cases e
def k2(m:Md)(g:Dt->Dt->ζ T):B CV->Fg:=λcs _ ch=>match cs with
 |[x,y]=>(vw ch x).bind λx=>(vw ch y).bind λy=>(g x y).bind (fin m ch)
 |_=>J
def e2(m:Md)(g:Dt->Dt->ζ T)(fa fb:Fg):Fg:=λD ch=>(fa D ch).bind λp=>(fb D p.2).bind λq=>(vw q.2 p.1).bind λx=>(vw q.2 q.1).bind λy=>(g x y).bind (fin m q.2)
def EQ{g:Dt->Dt->ζ T}(U:IT G.K r g){Q:VK}{x:V}(h:tK G RV (k2 m g) Y [x,y] H Q):r x y H Q:=by have⟨Φ,D,ch,F,M,cs,c,G0,en,rs,O,k⟩:=h;obtain _|⟨r1,_|⟨W,_|_⟩⟩:=rs;have⟨x,hx,O⟩:=bS O;have⟨y,hy,O⟩:=bS O;have⟨t,ht,O⟩:=bS O;exact U F H x y _ _ Q t en.gh.fh (aJ en.gh r1 hx) (aJ en.gh W hy) ht (bP en.gh O k)
def uE{g:Dt->Dt->ζ T}(O:IT G.K r g){Q:VK}(h:tM G RV (e2 m g fa fb) Y H Q):TZ r (tM G RV fa) (tM G RV fb) Y H Q:=(tK.two (k:=k2 m g) h).imp λ_ _ h=>h.imp λ_ _ h=>EQ O h
def Ce{op:NB}{g:Dt->Dt->ζ T}(O:HI X (KY op) r)(U:IT G.K r g)(W:GE G X a fa)(hb:GE G X b fb):GE G X (.BinOp a op b pos) (e2 m g fa fb):=PE.mono (Er O W hb) λ_ _ _=>uE U
def Cf{op:CmpOp}{g:Dt->Dt->ζ T}(U:HI X (JL op) r)(W:IT G.K r g)(ha:GE G X a fa)(hb:GE G X b fb)(O:Wt op b=ξ):GE G X (.Compare a [op] [b] pos) (e2 m g fa fb):=PE.mono (xI U ha hb O) λ_ _ _=>uE W
noncomputable def eQ:CV->ζ Bool
 |.g (.bl b)=>Z b
 |_=>J
def pi{F:Hp}{n:Nat}{c:CV}{b:Bool}{v:V}(h:eQ c=Z b)(r:HX G F H M n c v):v=.bl b:=by
 cases c with
 |g d=>cases d<;>cases h;exact r
 |_=>cases h
def gw(f:Fg):FM Bool:=λD ch=>(f D ch).bind λp=>(eQ p.1).map λb=>(b,p.2)
def yv{Q:Bool->Hp->Prop}(h:tM G RB (gw f) Y H Q):tM G RV f Y H λx H'=>∃k,x=.bl k/\Q k H':=by
 refine(tK.one (k:=λcs _ ch=>match cs with|[c]=>(eQ c).map λb=>(b,ch)|_=>J) h).imp λx H' h=>?_
 have⟨Φ,D,ch,F,M,cs,c,G0,en,W,O,k⟩:=h;obtain _|⟨U,_|_⟩:=W;have⟨q,hb,e⟩:=mS O;cases e;exact⟨_,pi hb U,k _ F H' M (.refl en.gh) rfl⟩
def Cg{op:CmpOp}{g:Dt->Dt->ζ T}(O:HI X (JL op) r)(W:IT G.K r g)(U:GE G X a fa)(hb:GE G X b fb)(hm:Wt op b=ξ):GT G X (.Compare a [op] [b] pos) (gw (e2 m g fa fb)):=PT.mono (xJ O U hb hm) λ_ _ _ h=>uE W (yv h)
def i8(f:Fg):FM Bool:=λD ch=>(f D ch).bind λp=>(vw p.2 p.1).bind λd=>(rG d).map λb=>(b,p.2)
def Ch(hK:X.K=G.K)(ha:GE G X a fa)(he:∀O,isTrue a X.env O=(do let v <- O;NU a.pos;LE [v] (truthy v))):GT G X a (i8 fa):=PT.mono (tf ha he) λY H Q h=>by
 refine(tK.one (k:=λcs _ ch=>match cs with|[c]=>(vw ch c).bind λd=>(rG d).map λb=>(b,ch)|_=>J) h).imp λx H' h=>?_
 have⟨Φ,D,ch,F,M,cs,c,G0,en,rs,U,k⟩:=h;obtain _|⟨r1,_|_⟩:=rs;have⟨d,W,U⟩:=bS U;have⟨q,hb,e⟩:=mS U;cases e;exact⟨_,by rw[hK];exact yk en.gh.fh (aJ en.gh r1 W) hb,k _ F H' M (.refl en.gh) rfl⟩
variable{Y:St}{H:Hp}
noncomputable def UH(f:FM Bool):FM Bool:=λD ch=>(f D ch).map λp=>(!p.1,p.2)
noncomputable def Sv(f g:FM Bool):FM Bool:=λD ch=>(f D ch).bind λp=>if p.1 then g D p.2 else Z (ξ,p.2)
noncomputable def uF(f g:FM Bool):FM Bool:=λD ch=>(f D ch).bind λp=>if p.1 then Z (C,p.2)else g D p.2
def tM.ret{α β:Type}{R:RL α β}{x:α}{y:β}{Q:β->Hp->Prop}(h:tM G R (λ_ ch=>Z (x,ch)) Y H Q)(r:∀F M n,R G H F H M n x y):Q y H:=by have⟨Φ,D,ch,F,M,a,G0,en,O,k⟩:=h;cases O;exact k y F H M (.refl en.gh) (r _ _ _)
def Ci(h:GT G X a ta):GT G X (.UnaryOp .Not a pos) (UH ta):=PT.mono (Bk h) λY H Q LG=>by have⟨Φ,D,ch,F,M,c,G0,en,O,k⟩:=LG;have⟨p,h1,e⟩:=mS O;cases e;exact⟨Φ,D,ch,F,M,p.1,p.2,en,h1,λb F' H' Ha d r=>by cases r;exact k _ F' H' Ha d rfl⟩
def Cj{Q:Bool->Hp->Prop}(h:tM G RB (Sv ta tb) Y H Q):TV (tM G RB ta) (tM G RB tb) Y H Q:=(tK.test (k:=λb D ch=>if b then tb D ch else Z (ξ,ch)) h).imp λb H' h=>by
 cases b with
 |true=>exact h
 |false=>exact h.ret λ_ _ _=>rfl
def Ck{Q:Bool->Hp->Prop}(h:tM G RB (uF ta tb) Y H Q):tOr (tM G RB ta) (tM G RB tb) Y H Q:=(tK.test (k:=λb D ch=>if b then Z (C,ch)else tb D ch) h).imp λb H' h=>by
 cases b with
 |true=>exact h.ret λ_ _ _=>rfl
 |false=>exact h
def yw(h:GT G X a ta):GW G X (.BoolOp .And [a] pos) ta:=xx h
def Cm(h:GT G X a ta):GW G X (.BoolOp .Or [a] pos) ta:=Bi h
def uG(h:GT G X a ta)(h':GW G X (.BoolOp .And (b::HF) pos) tb):GW G X (.BoolOp .And (a::b::HF) pos) (Sv ta tb):=PW.mono (Bj h h') λ_ _ _ h=>Cj h
def Al(h:GT G X a ta)(h':GW G X (.BoolOp .Or (b::HF) pos) tb):GW G X (.BoolOp .Or (a::b::HF) pos) (uF ta tb):=PW.mono (Eh h h') λ_ _ _ h=>Ck h
def GW.t(h:GW G X a ta):GT G X a ta:=PW.pt h
def Xa(f g:Fg):Fg:=λD ch=>(f D ch).bind λp=>(eQ p.1).bind λb=>if b then g D p.2 else Z (.g (.bl ξ),p.2)
def Co{op}(h:GE G X a fa):GE G X (.BoolOp op [a] pos) fa:=Bl h
def ER{α β:Type}{R:RL α β}[Kz R]{kk:Bool->FM α}{Q:β->Hp->Prop}(h:tM G R (λD ch=>(fa D ch).bind λp=>(eQ p.1).bind λb=>kk b D p.2) Y H Q):tM G RV fa Y H λx H1=>∃c,x=.bl c/\tM G R (kk c) Y H1 Q:=by
 refine(tK.one (k:=λcs D ch=>match cs with|[c]=>(eQ c).bind λb=>kk b D ch|_=>J) h).imp λx H' h=>?_
 have⟨Φ,D,ch,F,M,cs,c,G0,en,W,U,k⟩:=h;obtain _|⟨O,_|_⟩:=W;have⟨q,hb,e⟩:=bS U;exact⟨q,pi hb O,Φ,D,ch,F,M,c,G0,en,e,k⟩
def Cp{d:Dt}{v:V}(r:∀F,G2 G.K F d v):∀F M n,RV G H F H M n (.g d) v:=λF _ _=>⟨r F,λ_ e=>nomatch e⟩
def uH(h:GE G X a fa)(h':GE G X (.BoolOp .And (b::HF) pos) fb):GE G X (.BoolOp .And (a::b::HF) pos) (Xa fa fb):=PE.mono (Bm h h') λY H Q h=>(ER (kk:=λb D ch=>if b then fb D ch else Z (.g (.bl ξ),ch)) h).imp λx H' O=>by have⟨c,e,h⟩:=O;exact⟨c,e,by
 cases c with
 |true=>exact h
 |false=>exact h.ret (Cp λ_=>kz)⟩
noncomputable def UI(c:FM Bool)(f g:Fg):Fg:=λD ch=>(c D ch).bind λp=>if p.1 then f D p.2 else g D p.2
def ES(hc:GT G X c tc)(h:GE G X a fa)(h':GE G X b fb):GE G X (.IfExp c a b pos) (UI tc fa fb):=PE.mono (sO hc h h') λY H Q h=>(tK.test (k:=λb D ch=>if b then fa D ch else fb D ch) h).imp λb H' h=>by cases b<;>exact h
noncomputable def cj:CV->ζ Int
 |.g (.int i)=>Z i
 |_=>J
def eR{F:Hp}{n:Nat}{c:CV}{b:Int}{v:V}(h:cj c=Z b)(r:HX G F H M n c v):v=.int b:=by
 cases c with
 |g d=>cases d<;>cases h;exact r
 |_=>cases h
def Xb(f:Fg):Fg:=λD ch=>(f D ch).bind λp=>(cj p.1).bind λi=>Z (.g (.int (-i)),p.2)
def Cq(h:GE G X a fa):GE G X (.UnaryOp .USub a pos) (Xb fa):=PE.mono (Es BE h) λY H Q h=>by
 refine(tK.one (k:=λcs _ ch=>match cs with|[c]=>(cj c).bind λi=>Z (CV.g (.int (-i)),ch)|_=>J) h).imp λx H' h=>?_
 have⟨Φ,D,ch,F,M,cs,c,G0,en,W,O,k⟩:=h;obtain _|⟨U,_|_⟩:=W;have⟨q,hb,e⟩:=bS O;cases e;exact⟨q,eR hb U,k.dat en.gh bI⟩
noncomputable def He:FM (B CV):=λ_ ch=>Z ([],ch)
noncomputable def G3(f:Fg)(fs:FM (B CV)):FM (B CV):=λD ch=>(f D ch).bind λp=>(fs D p.2).map λq=>(p.1::q.1,q.2)
def Cr:GA G X [] He:=Ij.mono cC λY H Q h=>h.ret λ_ _ _=>.nil
theorem yx(h:GE G X e f)(W:GA G X es fs)(hs:Hn (e::es) X.env=(ξ,eval e X.env)::Hn es X.env):GA G X (e::es) (G3 f fs):=Ij.mono (bo h W hs) λY H Q O=>by have⟨Φ,D,ch,F,M,c,G0,en,U,k⟩:=O;have⟨p,h1,U⟩:=bS U;have⟨q,h2,e⟩:=mS U;cases e;exact⟨Φ,D,ch,F,M,p.1,p.2,en,h1,λx F1 H1 Hh d1 r1=>⟨Φ,D,p.2,F1,Hh,q.1,q.2,en.G1 d1,h2,λus F2 H2 IF d2 r2=>(k.G1 d1) _ F2 H2 IF d2 (.cons (r1.1.G1 d2) r2)⟩⟩
end
variable{θ:J4}
def IU.inj{c:Str}{C':J4}(h:IU K c θ)(h':IU K c C'):θ=C':=by unfold IU at h h';rw[h]at h';cases h';rfl
section
variable{X:Cx}
def Cs:R2:=λx y H Q=>∃a v,x=.ref a/\IM H a y (Z v)/\Q v H
def yy(hu:X.A.units+1<cLine):N0 X Cs:=by
 intro value O J0 s Y H x y v u Q I rx ry ⟨a,w,ex,g,q⟩ hs;subst ex;obtain rfl:v=HH a:=rx;have W:=mf I g;unfold ZB;refine wB ?_;rw[getitemInPython_of_ne W.not_modules];refine wB (wpAny_specialOf W PySem.F.slot_dict_getitem.lookup ?_)
 have fin:wpAny (model X.prog X.w) X.A (subscripted O ξ (.ref a) u) (λr N2=>wpAny (model X.prog X.w) X.A (letTemporaryGo value (.ref a) r >>= λ_=>pure r) (EP X J0 Y Q) X.xe N2) X.xe s:=by rw[hs];exact wpAny_operating (re hu I g ry λw' s3 I3 U=>wB (wpAny_letTemporaryGo (Hf ⟨w,H,I3,U,q⟩)))
 first
  |exact Hf (wB fin)
  |exact wB (Hf (wB fin))
  |exact wB fin
def Ct(O:Bool):R2:=λy x H Q=>∃a o,x=.ref a/\IM H a y o/\Q (.bl (if O then !o.isSome else o.isSome)) H
def Cu(W:X.A.units+1<cLine):HI X (JL .In) (Ct ξ):=by intro J0 s Y H y x iv u Q I O U ⟨a,o,ex,g,q⟩;subst ex;obtain rfl:u=HH a:=U;exact d_in W I g O λs3 I3=>⟨.bl o.isSome,H,I3,rfl,q⟩
def rM(W:X.A.units+1<cLine):HI X (JL .NotIn) (Ct C):=by intro J0 s Y H y x iv u Q I O U ⟨a,o,ex,g,q⟩;subst ex;obtain rfl:u=HH a:=U;exact yb W I g O λs3 I3=>⟨.bl (!o.isSome),H,I3,rfl,q⟩
def uI:sT:=λo i v H Q=>∃a H',o=.ref a/\K1 H a i v H'/\Q H'
def mn(W:X.A.units+1<cLine):Lm X uI:=by intro J0 s Y H o i v ov iv u Q I O U rv ⟨a,H',ex,g,q⟩;subst ex;obtain rfl:ov=HH a:=O;exact rh W I g U rv λs4 I4=>⟨H',I4,q⟩
def Lm.or{r r':sT}(h:Lm X r)(h':Lm X r'):Lm X (λo i v H Q=>r o i v H Q\/r' o i v H Q):=by
 intro J0 s Y H o i v O iv u Q I U W rv q;rcases q with q|q
 .exact h J0 s Y H o i v O iv u Q I U W rv q
 .exact h' J0 s Y H o i v O iv u Q I U W rv q
end
variable{ks:B rb}{vk:V}{as:TA}{pl:Sem Bool}
section
variable{G:Gx}{X:Cx}{e a b c o:J8}{es HF:B J8}{f fa fb fc:Fg}{fs:FM (B CV)}{ta tb tc:FM Bool}{pos apos G5 p:Pos}{i:Nat}{m:Md}{d:Dt}{Y:St}{F H:Hp}{M:Nat->J4}{ch G0:CH}{Q:VK}
def Cv{o:CO}{a:J4}(g:Gh G F H M ch)(O:H a=J)(U:K3 G F (upd H a u) M ch.length a o):Iv G F H M ch F (upd H a u) (λi=>if i=ch.length then a else M i) (ch++[o]):=Iv.new g (HD.made g.fh O) O (g.fh.free O) (U.mono (rp.refl _) (λi hi=>if_neg (IS hi)) (OC _) λ_ h=>h)
def kL{o:CO}{a:J4}(g:Gh G F H M ch)(U:H a=J)(O:K3 G F (upd H a u) M ch.length a o)(k:KM G RV F H M ch (.ref ch.length) (ch++[o]) Q):Q (.ref a) (upd H a u):=k.sol (Cv g U O) ⟨Ξ,Ξ⟩
def finL(m:Md)(l:B CV)(ch:CH):ζ (CV×CH):=match dats l with
 |some ds=>fin m ch (.e ds)
 |none=>if l.all CV.sol then Z (.ref ch.length,ch++[.e l])else J
def Mz(m:Md)(fs:FM (B CV)):Fg:=λD ch=>(fs D ch).bind λp=>if p.1.length<=G6 then finL m p.1 p.2 else J
omit x in
def Cw(h:GA G X es fs):GE G X (.List es pos) (Mz m fs):=PE.mono (BM h) λY H Q h=>by
 refine(tK.args (k:=λl _ ch=>if l.length<=G6 then finL m l ch else J) h).imp λvs H1 Km=>?_
 have⟨Φ,D,ch,F,M,cs,c,G0,en,U,O,k⟩:=Km;dsimp only at O;rcases O
 rename_i hz;refine⟨by rw[<- Paired.length U];exact hz,λq W=>?_⟩;unfold finL at O;split at O
 .rename_i ds hd;exact b9 (bP en.gh O k) en.gh.fh (aS hd (Ip.s (by rw[cF hd];simp[CV.sol]) U)) W
 .split at O<;>cases O
  rename_i hs;exact kL (o:=.e cs) en.gh W ⟨vs,ac,U.s hs⟩ k
def Je(fs:FM (B CV)):Fg:=λD ch=>(fs D ch).bind λp=>if p.1.length<=G6 then(match dats p.1 with
 |some ds=>Z (.g (.t ds),p.2)
 |none=>if p.1.all CV.sol then Z (.ref p.2.length,p.2++[.t p.1])else J)else J
omit x in
def Cy{x1}(h:GA G X es fs):GE G X (.Tuple es x1 pos) (Je fs):=PE.mono (BL h) λY H Q h=>by
 refine(tK.args (k:=λl _ ch=>if l.length<=G6 then(match dats l with
  |some ds=>Z (CV.g (.t ds),ch)
  |none=>if l.all CV.sol then Z (.ref ch.length,ch++[.t l])else J)else J) h).imp λvs H1 KJ=>?_
 have⟨Φ,D,ch,F,M,cs,c,G0,en,U,O,k⟩:=KJ;dsimp only at O;rcases O
 rename_i hz;refine⟨by rw[<- Paired.length U];exact hz,λq W=>?_⟩;split at O
 .rename_i ds hd;cases O;exact KO.tup (bP (m:=.v) (t:=.f (.t ds)) en.gh rfl k) en.gh.fh (aS hd (Ip.s (by rw[cF hd];simp[CV.sol]) U)) W
 .split at O<;>cases O
  rename_i hs;exact kL (o:=.t cs) en.gh W ⟨vs,ac,U.s hs⟩ k
noncomputable def Qp:Dt->ζ (B rb)
 |.t [.int n,.str s]=>Z [.inl n,.inr s]
 |.t [.str s,.int n]=>Z [.inr s,.inl n]
 |_=>J
noncomputable def dN(K:xA9):Bool:=K.all λp=>match p.2.data with
 |.seq J3 _=>(match J3.toList with
  |[.int _ _,.str _ _]|[.str _ _,.int _ _]=>ξ
  |_=>C)
 |_=>C
theorem mo{a:J4}{o:Obj}:∀{K:B (J4×Obj)},K.lookup a=Z o->(a,o)∈K
 |[],h=>by cases h
 |(b,u)::K,h=>by
  rw[P1]at h;cases q:a==b with
  |true=>rw[q]at h;cases h;rw[beq_iff_eq.mp q];exact .head _
  |false=>rw[q]at h;exact .tail _ (mo h)
def fU{v:V}(hK:dN K=C)(h:Qp d=Z ks)(r:HK K F H d v):∃b,v=.ref b/\F b=Z (.t (ks.map kV)):=by
 have key:∀{a:J4}{x y:V},Im K F a [x,y]->((∃n s,x=.int n/\y=.str s)\/∃n s,x=.str s/\y=.int n)->F a=Z (.t [x,y]):=λ{a x y} h U=>by
  rcases h with h|⟨o,J3,m,hk,hc,hd,hz,r⟩
  .exact h
  .have O:=Kk.mp hK (a,o) (mo hk);dsimp only at O;rw[hd.1]at O;dsimp only at O;generalize J3.toList=w at O r;obtain _|⟨W,_|⟨r2,_|_⟩⟩:=r;rcases U with ⟨n,s,rfl,rfl⟩|⟨n,s,rfl,rfl⟩<;>(have⟨t1,rfl⟩:=W;have⟨t2,rfl⟩:=r2;cases O)
 unfold Qp at h;split at h<;>cases h
 all_goals
  have⟨a,vs,rfl,h1,h2⟩:=r;unfold ag at h2;have⟨v1,w1,rfl,q1,h2⟩:=h2;unfold ag at h2;have⟨v2,w2,rfl,q2,h2⟩:=h2;unfold ag at h2;subst h2;rwa[G2]at q1 q2;subst q1 q2
 .exact⟨a,rfl,key h1 (.inl ⟨_,_,rfl,rfl⟩)⟩
 .exact⟨a,rfl,key h1 (.inr ⟨_,_,rfl,rfl⟩)⟩
def bG(x k:Dt):ζ (ζ Dt):=match x with
 |.HC ks l=>(ci k).map (ah ks l)
 |.HJ ks l=>(Qp k).map (ah ks l)
 |_=>J
def ie{x k:Dt}{r:ζ Dt}(hK:dN K=C)(fh:rp F H)(W:HK K F H x vx)(rk:HK K F H k vk)(h:bG x k=Z r):∃a o,vx=.ref a/\IM H a vk o/\(∀d,r=Z d->∃v,o=Z v/\G2 K F d v)/\(r=J->o=J):=by
 cases x with
 |HC ks l=>have⟨q,U,rfl⟩:=mS h;have⟨a,J1,rfl,h1,rfl,O⟩:=W;refine⟨a,_,rfl,.inl ⟨J1,q,h1,cG rk U,rfl⟩,?_⟩;exact⟨λd e=>fM O e,λe=>fQ O e⟩
 |HJ ks l=>have⟨q,U,rfl⟩:=mS h;have⟨a,J1,rfl,h1,rfl,O⟩:=W;have⟨b,rfl,hb⟩:=fU hK U rk;refine⟨a,_,rfl,.inr ⟨J1,q,b,.of h1,rfl,fh _ _ hb,rfl⟩,?_⟩;exact⟨λd e=>fM O e,λe=>fQ O e⟩
 |_=>cases h
noncomputable def Jy{κ:Type}[DecidableEq κ](l:B (κ×CV))(k:κ):ζ CV:=(l.find? λp=>decide (p.1=k)).map (·.2)
theorem eS {κ:Type} [DecidableEq κ] {n:Nat} {k:κ}:∀ {l:B (κ×CV)} {J1:B (κ×V)},J1.map (·.1)=l.map (·.1)->G9 G F M n (l.map (·.2)) (J1.map (·.2))→
  match Jy l k with|some c=>∃v,bC J1 k=Z v/\Hu G F M n c v|none=>bC J1 k=J
 |[],[],_,_=>rfl
 |[],p::J1,e,_=>by cases e
 |p::l,[],e,_=>by cases e
 |(k1,c)::l,(k2,v)::J1,e,r=>by
  rwa[Hz,OA]at e;have⟨rfl,e⟩:=e;obtain _|⟨r1,r2⟩:=r;have U:=eS (k:=k) e r2;by_cases O:k2=k
  .subst O;rwa[Jy,P6,decide_true,Iy];exact⟨v,by simp[bC],r1⟩
  .have W:Jy ((k2,c)::l) k=Jy l k:=by simp[Jy,P6,O]
   have e2:bC ((k2,v)::J1) k=bC J1 k:=by simp[bC,O]
   rw[W,e2];exact U
def QT(o:CO)(d:Dt):ζ CV:=match o with
 |.e l=>(QU d).bind (Ji l)
 |.t l=>(QU d).bind (Ji l)
 |.dK l=>(ci d).bind (Jy l)
 |.dT l|.wT l=>(Qp d).bind (Jy l)
 |_=>J
def Iw(x d:Dt):ζ Dt:=match bG x d with
 |some r=>r
 |none=>match My x d with
  |some (.f y)=>Z y
  |_=>J
def ixV(ch:CH)(x:CV)(d:Dt):ζ CV:=match x with
 |.ref i=>(ch[i]?).bind λo=>QT o d
 |x=>(vw ch x).bind λx=>(Iw x d).map .g
def HR(fa fb:Fg):Fg:=λD ch=>(fa D ch).bind λp=>(fb D p.2).bind λq=>(vw q.2 q.1).bind λd=>(ixV q.2 p.1 d).map λc=>(c,q.2)
def eU{v:V}(h:QU d=Z j)(r:HK K F H d v):v=.int j:=by cases d<;>cases h;exact r
def pj{n:Nat}{l:B CV}{c:CV}(r:G9 G F M n l vs)(h:Ji l j=Z c):∃v,Ji vs j=Z v/\Hu G F M n c v:=by unfold Ji at h ⊢;have⟨k,h1,h2⟩:=bS h;rw[G9.length r,h1];exact Paired.get r h2
def kIx:B CV->Fg:=λcs _ ch=>match cs with
 |[x,y]=>(vw ch y).bind λd=>(ixV ch x d).map λc=>(c,ch)
 |_=>J
omit x in
def Cz(hI:dN G.K=C){x:V}(h:tK G RV kIx Y [x,y] H Q):WU G.K x y H Q\/Cs x y H Q:=by
 have⟨Φ,D,ch,F,M,cs,c,G0,en,rs,hf,k⟩:=h;obtain _|@⟨cx,_,_,_,r1,_|@⟨cy,_,_,_,r2,_|_⟩⟩:=rs;have⟨d,hd,hf⟩:=bS hf;have⟨c',hc,e⟩:=mS hf;cases e;have rd:=aJ en.gh r2 hd
 have dta:∀x z y,vw ch cx=Z x->Iw x d=Z y->CV.g y=c->HK G.K F H x z->WU G.K z _ H Q\/Cs z _ H Q:=λx z y _ hi hy rx=>by
  subst hy;unfold Iw at hi;split at hi
  .rename_i r hr;have⟨a,o,e,hg,hm⟩:=ie hI en.gh.fh rx rd hr;have⟨v,rfl,rv⟩:=hm.1 _ hi;exact .inr ⟨a,v,e,hg,k.dat en.gh rv⟩
  .split at hi<;>cases hi
   rename_i hg;exact .inl (r_ix F H x d _ _ Q _ en.gh.fh rx rd hg (bP (m:=.v) (t:=.f y) en.gh rfl k))
 cases cx with
 |ref i=>
  have⟨_,rfl⟩:=r1;have⟨o,ho,hc⟩:=bS hc;have O:=en.gh.ok i o ho;cases o with
  |e l=>have⟨j,W,hc⟩:=bS hc;have⟨vs,h1,h2⟩:=O;have⟨u,U,ru⟩:=pj h2 hc;exact .inl (.inl ⟨_,vs,j,u,rfl,eU W rd,Id.of h1,U,k.sol (.refl en.gh) ru⟩)
  |t l=>have⟨j,W,hc⟩:=bS hc;have⟨vs,h1,h2⟩:=O;have⟨u,U,ru⟩:=pj h2 hc;exact .inl (.inr (.inl ⟨_,vs,j,u,rfl,eU W rd,Im.of h1,U,k.sol (.refl en.gh) ru⟩))
  |dK l=>have⟨j,W,hc⟩:=bS hc;have⟨nd,J1,h1,h2,h3⟩:=O;have lk:=eS (k:=j) h2 h3;rw[hc]at lk;have⟨u,U,ru⟩:=lk;refine .inr ⟨_,u,rfl,?_,k.sol (.refl en.gh) ru⟩;rw[cG rd W,<- U];exact IM.k h1
  |dT l=>have⟨j,W,hc⟩:=bS hc;have⟨nd,J1,h1,h2,h3⟩:=O;have⟨b,rfl,hb⟩:=fU hI W rd;have lk:=eS (k:=j) h2 h3;rw[hc]at lk;have⟨u,U,ru⟩:=lk;refine .inr ⟨_,u,rfl,?_,k.sol (.refl en.gh) ru⟩;rw[<- U];exact IM.t h1 (en.gh.fh _ _ hb)
  |wT l=>have⟨j,W,hc⟩:=bS hc;have⟨nd,ob,J1,h1,_,h2,h3⟩:=O;have⟨b,rfl,hb⟩:=fU hI W rd;have lk:=eS (k:=j) h2 h3;rw[hc]at lk;have⟨u,U,ru⟩:=lk;exact .inr ⟨_,u,rfl,.inr ⟨J1,j,b,.inr ⟨ob,h1⟩,rfl,en.gh.fh _ _ hb,U.symm⟩,k.sol (.refl en.gh) ru⟩
  |ins c l=>cases hc
 |g x0=>have hc:(vw ch (.g x0)).bind (λx=>(Iw x d).map .g)=Z c:=hc;have⟨x,hx,hc⟩:=bS hc;have⟨y,hy,e⟩:=mS hc;exact dta x _ y hx hy e (aJ en.gh r1 hx)
 |own b t=>have⟨x,hx,hc⟩:=bS hc;have⟨y,hy,e⟩:=mS hc;exact dta x _ y hx hy e (aJ en.gh r1 hx)
def ET{k:Nat}(W:X.K=G.K)(O:dN G.K=C)(hr:Hg k X.A)(U:GE G X a fa)(hb:GE G X b fb)(hs:j8 b):GE G X (.Subscript a b pos) (HR fa fb):=PE.mono (EC (N0.or BO (yy (jt hr))) U hb hs) λY H Q h=>(tK.two (k:=kIx) h).imp λ_ _ h=>h.imp λ_ _ h=>by rw[W];exact Cz O h
def jC(G:Gx)(c:Nat):Prop:=∀p,G.ct[c]?=Z p->∃θ,IU G.K p.1 θ/\Mq G.K θ/\p.2.Nodup/\∀f∈p.2,IL G.K θ f
noncomputable def L6(c f:Nat)(fa:Fg):Fg:=λD ch=>(fa D ch).bind λp=>match p.1 with
 |.ref i=>match p.2[i]? with
  |some (.ins O l)=>if O=c then(l[f]?).map λx=>(x,p.2)else J
  |_=>J
 |_=>J
theorem dO{f:Str}:∀{fs:B (Str×V)}{j:Nat}{v:V},(fs.map (·.1)).Nodup->(fs.map (·.1))[j]?=Z f->(fs.map (·.2))[j]?=Z v->fs.lookup f=Z v
 |[],j,v,_,h,_=>by simp at h
 |(g,x)::fs,0,v,_,h,h'=>by simp at h h';subst h h';simp[Nz]
 |(g,x)::fs,j+1,v,O,h,h'=>by
  rwa[Hz,Jr]at O;rwa[Hz,KU]at h h'
  have U:(f==g)=ξ:=by
   have:f≠g:=λe=>O.1 (by rw[<- e];exact Il h)
   simpa using this
  rwa[Nz,U];exact dO O.2 h h'
def mq{ns:B Str}{l:B CV}{fs:B (Str×V)}{j:Nat}{x:CV}(h:fs.map (·.1)=ns.take l.length)(O:l[j]?=Z x){f:Str}(U:ns[j]?=Z f):(fs.map (·.1))[j]?=Z f:=by rw[h,Zk (af O)];exact U
omit x in
def EU{c f:Nat}{pn:Str×B Str}{fn:Str}(hK:X.K=G.K)(hc:jC G c)(hp:G.ct[c]?=Z pn)(hn:pn.2[f]?=Z fn)(h:GE G X o fa)(hb:NQ o fn X.env (eval o X.env)=eval o X.env):GE G X (.Attribute o fn pos) (L6 c f fa):=PE.mono (BJ h hb) λY H Q LG=>by
 have⟨Φ,D,ch,F,M,c0,G0,en,O,kk⟩:=LG;have⟨⟨c1,ch1⟩,h1,Rc⟩:=bS O;clear O;have O:=Rc;clear Rc;cases c1 with
 |ref i=>
  dsimp only at O;rcases O
  rename_i c' l ho;rcases O
  rename_i Qj;subst Qj;have⟨x,hx,e⟩:=mS O;cases e;refine⟨Φ,D,ch,F,M,_,_,en,h1,λv F1 H1 Hh a1 r1=>?_⟩;have⟨p',C',dx,fs,U,h0,ha,h2,h3⟩:=a1.gh.ok i _ ho;rw[hp]at U;cases U
  have⟨θ,hC,Sw,nd,W⟩:=hc pn hp;have:=hC.inj h0;subst this;have⟨u,hu,ru⟩:=Paired.get h3 hx;exact⟨_,θ,dx,fs,u,r1.1.2,ha,by rw[hK];exact Sw,by rw[hK];exact W _ (Il hn),dO (by rw[h2];exact nd.sublist (S8 _ _)) (mq h2 hx hn) hu,kk.sol a1 ru⟩
 |_=>cases O
abbrev Fd:=B CV->CH->ζ (CV×CH)
def RS:RL CV V:=λG _ F _ M n c v=>Hu G F M n c v
def MA(G:Gx)(n:Nat)(f:Fd):Sp:=λvs H Q _=>∃F M cs ch c G0,Gh G F H M ch/\cs.length=n/\(∀t,CV.own C t∉cs)/\Ip G F H M ch.length cs vs/\f cs ch=Z (c,G0)/\KM G RS F H M ch c G0 Q
noncomputable def CV.old:CV->Bool
 |.own C _=>ξ
 |_=>C
def CA{cs:B CV}(h:cs.all CV.old=C)(t:T):CV.own C t∉cs:=λz=>by have:=Kk.mp h _ z;cases this
def Kc(n:Nat)(g:Fd):B CV->Fg:=λcs _ ch=>if cs.length=n/\cs.all CV.old=C then g cs ch else J
omit x in
def kM{n:Nat}{g:Fd}(h:tK G RV (Kc n g) Y vs H Q):MA G n g vs H Q E0:=by
 have⟨Φ,D,ch,F,M,cs,c,G0,en,W,O,k⟩:=h;unfold Kc at O;rcases O
 rename_i U;exact⟨F,M,cs,ch,c,G0,en.gh,U.1,CA U.2,W,O,λb F' H' Ha a r=>k.sol a r⟩
def LP(n:Nat)(g:Fd)(fs:FM (B CV)):Fg:=λD ch=>(fs D ch).bind λp=>Kc n g p.1 D p.2
section
variable{sc:J9}{x:Str}{k n:Nat}{ps:B Str}{g:Fd}
def yz(h:aI sc x=C)(F:Re X.prog X.w X.K X.mg X.base x k ps (MA G n g))(hr:Hg k X.A)(W:GA G X (e::es) fs)(U:ba X sc)(he:Hn (e::es) X.env=(ξ,eval e X.env)::Hn es X.env)(O:(IK G5 (Hn es X.env)).any (·.1)=ξ):GE G X (.Call (.Name x p) (e::es) [] G5) (LP n g fs):=PE.mono (rE h F hr W U he O) λY H Q h=>(tK.args (k:=Kc n g) h).imp λvs H1 h=>by rw[LY];exact kM h
def kN{Q:B V->Hp->Prop}(h:tM G RA He Y H Q):ny Y H Q:=h.ret λ_ _ _=>.nil
def uJ(h:aI sc x=C)(F:Re X.prog X.w X.K X.mg X.base x k ps (MA G n g))(U:Hg k X.A)(O:ba X sc):GE G X (.Call (.Name x p) [] [] G5) (LP n g He):=PE.mono (nJ h F U O) λY H Q h=>kN ((tK.args (k:=Kc n g) h).imp λvs H1 h=>by rw[LY];exact kM h)
structure OkM(P:Iz)(w:J5)(K:xA9)(mg:Str->Option Value)(base:Heap)(c m:Str)(k:Nat)(ps:List Str)(sp:Sp):Prop where
 ex:∃θ f fd,IU K c θ/\Mq K θ/\NZ K θ m f/\Io K fd ps []/\Iu P w K mg base Qn k f fd ps sp
structure OkI(P:Iz)(w:J5)(K:xA9)(mg:Str->Option Value)(base:Heap)(c:Str)(k:Nat)(ps:List Str)(sp:Sp):Prop where
 ex:∃θ f fd,IU K c θ/\mg c=Z (.ref θ)/\Mk K θ f/\Io K fd ps []/\Iu P w K mg base Qn k f fd ps sp
def K4(c n:Nat)(g:Fd)(fo:Fg)(fs:FM (B CV)):Fg:=λD ch=>(fo D ch).bind λp=>match p.1 with
 |.ref i=>match p.2[i]? with
  |some (.ins O _)=>if O=c then(fs D p.2).bind λq=>Kc n g (.ref i::q.1) D q.2 else J
  |_=>J
 |_=>J
theorem gm{m:Str}:∀{fs:B (Str×V)},m∉fs.map (·.1)->fs.lookup m=J
 |[],_=>rfl
 |(g,x)::fs,h=>by
  rwa[Hz,IE,not_or]at h;have:(m==g)=ξ:=‹h.1›
  rwa[Nz,this];exact gm h.2
omit x in
def uK{c n:Nat}{m:Str}{pn:Str×B Str}(hp:G.ct[c]?=Z pn)(h1:IU G.K pn.1 θ)(hm:m∉pn.2)(has:∀ Y H Q,tM G RA fs Y H Q->as Y H Q)(Y:St)(H:Hp)(Q:VK)(h:tM G RV (K4 c n g fa fs) Y H Q):tD θ m (MA G n g) [] E0 (tM G RV fa) as Y H Q:=by
 have⟨Φ,D,ch,F,M,c0,G0,en,O,kk⟩:=h;have⟨⟨c1,ch1⟩,h2,Rc⟩:=bS O;clear O;have O:=Rc;clear Rc;cases c1 with
 |ref i=>
  dsimp only at O;rcases O
  rename_i c' l ho;rcases O
  rename_i Qj;subst Qj;have⟨q,hq,Pp⟩:=bS O;refine⟨Φ,D,ch,F,M,_,_,en,h2,λv F1 H1 Hh W r1=>?_⟩;have⟨p',C',dx,gs,U,h0,ha,h3,h4⟩:=W.gh.ok i _ ho;rw[hp]at U;cases U
  have:=h1.inj h0;subst this;refine⟨_,dx,gs,r1.1.2,ha,gm (by rw[h3];exact λz=>hm (List.mem_of_mem_take z)),has _ _ _ ⟨Φ,D,ch1,F1,Hh,q.1,q.2,en.G1 W,hq,λvs F2 H2 IF a2 r2=>?_⟩⟩;show MA G n g (v::(vs++[])) H2 Q E0;rw[LY];exact kM (Y:=Y) ⟨Φ,D,q.2,F2,IF,.ref i::q.1,c0,G0,(en.G1 W).G1 a2,.cons (r1.1.G1 a2) r2,Pp,(kk.G1 W).G1 a2⟩
 |_=>cases O
def yA{c:Nat}{m:Str}{pn:Str×B Str}(hK:X.K=G.K)(hp:G.ct[c]?=Z pn)(hm:m∉pn.2)(F:OkM X.prog X.w X.K X.mg X.base pn.1 m k ps (MA G n g))(hr:Hg k X.A)(U:GE G X o fa)(ha:GA G X (e::es) fs)(he:Hn (e::es) X.env=(ξ,eval e X.env)::Hn es X.env)(O:(IK G5 (Hn es X.env)).any (·.1)=ξ)
 (ht:eval (.Call (.Attribute o m apos) (e::es) [] G5) X.env=(do
 let ov <- eval o X.env
 NU apos.atName
 let (f,first) <- LE [ov] (Qd ov m pl)
 QP G5 f first (IK G5 (Hn (e::es) X.env)) (MO G5 (MN [] X.env)))):GE G X (.Call (.Attribute o m apos) (e::es) [] G5) (K4 c n g fa fs):=by
 have⟨θ,f,fd,h1,h2,h3,h4,W⟩:=F.ex;rw[hK]at h1;exact PE.mono (xP U h2 h3 W hr h4 .nil jr ha he O ht) (uK hp h1 hm λ_ _ _ q=>q)
def uL{c:Nat}{m:Str}{pn:Str×B Str}(hK:X.K=G.K)(hp:G.ct[c]?=Z pn)(hm:m∉pn.2)(F:OkM X.prog X.w X.K X.mg X.base pn.1 m k ps (MA G n g))(U:Hg k X.A)(O:GE G X o fa) 
 (ht:eval (.Call (.Attribute o m apos) [] [] G5) X.env=(do
 let ov <- eval o X.env
 NU apos.atName
 let (f,first) <- LE [ov] (Qd ov m pl)
 QP G5 f first (IK G5 (Hn [] X.env)) (MO G5 (MN [] X.env)))):GE G X (.Call (.Attribute o m apos) [] [] G5) (K4 c n g fa He):=by
 have⟨θ,f,fd,h1,h2,W,h4,h5⟩:=F.ex;rw[hK]at h1;exact PE.mono (tG O h2 W h5 U h4 .nil jr ht) (uK hp h1 hm λ_ _ _ q=>kN q)
def MB(c n:Nat)(g:Fd)(fs:FM (B CV)):Fg:=λD ch=>(fs D ch).bind λp=>(Kc n g (.ref p.2.length::p.1) D (p.2++[.ins c []])).bind λq=>match q.1 with
 |.g .ek=>if p.2.length<q.2.length then Z (.ref p.2.length,q.2)else J
 |_=>J
omit x in
def uM{c n:Nat}{pn:Str×B Str}(hp:G.ct[c]?=Z pn)(h1:IU G.K pn.1 θ)(has:∀ Y H Q,tM G RA fs Y H Q->as Y H Q)(Y:St)(H:Hp)(Q:VK)(h:tM G RV (MB c n g fs) Y H Q):tE θ (MA G n g) [] E0 as Y H Q:=by
 have⟨Φ,D,ch,F,M,c0,G0,en,hg,kk⟩:=h;have⟨p,h2,Pq⟩:=bS hg;have⟨⟨q,ch2⟩,h3,O⟩:=bS Pq;dsimp only at O;rcases O
 rcases O
 rename_i L5;cases O;refine has _ _ _ ⟨Φ,D,ch,F,M,p.1,p.2,en,h2,λvs F1 H1 Hh U r1 x dx hx W Nh=>?_⟩;rw[LY];have st:HD F1 H1 F1 (upd (upd H1 dx (.own x)) x (.ins θ dx [])):=(HD.made U.gh.fh W).trans (HD.made (U.gh.fh.trans (rp.upd W)) (by rw[aa (JQ Nh)];exact hx))
 have a2:Iv G F1 H1 Hh p.2 F1 (upd (upd H1 dx (.own x)) x (.ins θ dx [])) (λi=>if i=p.2.length then x else Hh i) (p.2++[.ins c []]):=Iv.new U.gh st hx (U.gh.fh.free hx) ⟨pn,θ,dx,[],hp,h1,ac,rfl,.nil⟩
 have hz:(λi=>if i=p.2.length then x else Hh i) p.2.length=x:=if_pos rfl;refine kM (Y:=Y) (G:=G) ⟨Φ,D,p.2++[.ins c []],F1,_,.ref p.2.length::p.1,.g .ek,G0,(en.G1 U).G1 a2,.cons ⟨Ξ,Ξ⟩ (Ip.G1 a2 r1),h3,λv F3 H3 Ps a3 r3=>⟨?_,?_⟩⟩
 .exact r3.1
 .have hl:p.2.length<(p.2++[CO.ins c []]).length:=by simp
  exact kk.sol ((U.trans a2).trans a3) ⟨L5,by rw[a3.ext _ hl];simp⟩
theorem yB{c:Nat}{pn:Str×B Str}(hK:X.K=G.K)(hp:G.ct[c]?=Z pn)(h:aI sc pn.1=C)(F:OkI X.prog X.w X.K X.mg X.base pn.1 k ps (MA G n g))(W:Hg (k+1) X.A)(ha:GA G X (e::es) fs)(e1:ba X sc)(he:Hn (e::es) X.env=(ξ,eval e X.env)::Hn es X.env)(O:(IK G5 (Hn es X.env)).any (·.1)=ξ):GE G X (.Call (.Name pn.1 p) (e::es) [] G5) (MB c n g fs):=by have⟨θ,f,fd,h1,h2,h3,h4,U⟩:=F.ex;rw[hK]at h1;exact PE.mono (xQ h3 U W (ON h e1) h2 h4 .nil jr ha (cW h) he O) (uM hp h1 λ_ _ _ q=>q)
def uN{c:Nat}{pn:Str×B Str}(W:X.K=G.K)(hp:G.ct[c]?=Z pn)(h:aI sc pn.1=C)(F:OkI X.prog X.w X.K X.mg X.base pn.1 k ps (MA G n g))(hr:Hg (k+1) X.A)(O:ba X sc):GE G X (.Call (.Name pn.1 p) [] [] G5) (MB c n g He):=by have⟨θ,f,fd,h1,h2,U,h4,h5⟩:=F.ex;rw[W]at h1;exact PE.mono (tH U h5 hr (ON h O) h2 h4 .nil jr (cW h)) (uM hp h1 λ_ _ _ q=>kN q)
end
end
noncomputable def CV.kp:CV->Bool
 |.own ξ _=>ξ
 |_=>C
section
variable{G:Gx}{Φ:NE}{F H F' H' F1 H1:Hp}{M Ha Hh:Nat->J4}{n:Nat}{D:Sl}{Y:St}{ch G0 ch1 ch2:CH}{c:CV}{v:V}{Q:VK}{d:Dt}{t t':T}{i:Nat}{a:J4}
def Lq.there(h:Lq G F H M n t v):∃a o,v=.ref a/\H a=Z o/\NT o:=by
 have⟨x,rfl,U,O,_⟩:=h;cases t<;>try(cases U;done)
 all_goals (have⟨b,vs,e,rfl,h1,_⟩:=O;exact⟨_,_,rfl,h1,by intro _ z;cases z⟩)
def Ge.put(en0:Ge G Φ D ch Y F H M)(ad:Iv G F H M ch F' H' Ha G0)(r:HX G F' H' Ha G0.length c v)(hn:Aj H c v)(hk:c.kp=C)(i:Nat):Ge G Φ (D.set i (Z c)) G0 (Y.set i (Z v)) F' H' Ha:=by
 have en:=en0.G1 ad;have hl:=en.len
 have U:∀(j:Nat)(b:Bool)(u:T)(x:J4),D[j]?=Z (Z (.own b u))->Y[j]?=Z (Z (.ref x))->∃o,H x=Z o:=λj b u x h1 h2=>by
  have⟨w,e1,e2⟩:=en0.has j _ h1;have⟨y,o,rfl,ho,_⟩:=Lq.there e2;rw[h2]at e1;cases e1
  exact⟨o,ho⟩
 refine⟨en.ad,by simp[hl],λj c' h=>?_,λj u x h h'=>?_,λj k u w b x W h1 h2 h3 h4=>?_⟩
 .rcases aC h with ⟨rfl,e⟩|⟨O,h⟩
  .cases e;refine⟨v,?_,r⟩;have hi:i<D.length:=by have:=af h;simpa using this
   rw[Mh Θ]
  .have⟨w,e1,e2⟩:=en.has j c' h;exact⟨w,by rw[gN O];exact e1,e2⟩
 .rcases aC h with ⟨rfl,e⟩|⟨O,h⟩
  .cases e;rcases aC h' with ⟨_,e'⟩|⟨z,_⟩
   .cases e';exact en0.ad.hs x (hn u rfl x rfl)
   .exact absurd rfl z
  .rw[gN O]at h';exact en.nw j u x h h'
 .rcases aC h1 with ⟨rfl,e⟩|⟨O,OO⟩
  .cases e;rcases aC h2 with ⟨z,_⟩|⟨_,h2⟩
   .exact W z
   .rw[gN W]at h4;rcases aC h3 with ⟨_,e'⟩|⟨z,_⟩
    .cases e';have⟨o,ho⟩:=U k b w x h2 h4;rw[hn u rfl x rfl]at ho;cases ho
    .exact absurd rfl z
  .rw[gN O]at h3;rcases aC h2 with ⟨rfl,e⟩|⟨hne2,h2⟩
   .cases e;rcases aC h4 with ⟨_,e'⟩|⟨z,_⟩
    .cases e';cases b with
     |false=>cases hk
     |true=>have⟨o,ho⟩:=U j C u x OO h3;rw[hn w rfl x rfl]at ho;cases ho
    .exact absurd rfl z
   .rw[gN hne2]at h4;exact en.Po j k u w b x W OO h2 h3 h4
def Ge.UJ(en:Ge G Φ D ch Y F H M){o:HO}(h:D[i]?=Z (Z (.own C t)))(hv:Y[i]?=Z (Z (.ref a)))(ht:t'.own=C)(ho:LO G.K F (upd H a o) t' (.ref a) (· = a)):Ge G Φ (D.set i (Z (.own C t'))) ch Y F (upd H a o) M:=by
 have⟨w,W,e2⟩:=en.has i _ h;rw[hv]at W;cases W
 have⟨a',e,_,_,hF,hp⟩:=id e2;cases e;have Sx:=en.nw i t a h hv;have G1:Iv G F H M ch F (upd H a o) M ch->True:=λ_=>trivial
 have fh:rp F (upd H a o):=λb x e=>by rw[aa λq=>by rw[q,hF]at e;cases e];exact en.gh.fh b x e
 have gh:Gh G F (upd H a o) M ch:=⟨fh,en.gh.inj,en.gh.out,λj x hx=>(en.gh.ok j x hx).mono (rp.refl _) (λ_ _=>rfl) (nL _) λy hy=>by rw[aa (hp j (af hx))];exact hy⟩;refine⟨⟨gh,en.ad.len,en.ad.ext,en.ad.fr,λb x h1 h2=>?_,en.ad.old,en.ad.nw,λb h=>?_⟩,by simp[en.len],λj c h1=>?_,λj u x h1 h2=>?_,λj k u w b x O h1 h2 h3 h4=>?_⟩
 .rw[aa λq=>by rw[q,Sx]at h1;cases h1];exact en.ad.Jd b x h1 h2
 .by_cases q:b=a
  .subst q;rw[ac]at h;cases h
  .rw[aa q]at h;exact en.ad.hs b h
 .rcases aC h1 with ⟨rfl,e⟩|⟨U,h1⟩
  .cases e;exact⟨.ref a,hv,a,rfl,ht,ho,hF,hp⟩
  .have⟨w,W,e3⟩:=en.has j c h1;refine⟨w,W,?_⟩;cases c with
   |own b u=>
    have⟨x,e,hu,hw,r1,r2⟩:=id e3;subst e;have hxa:x≠a:=λz=>by subst z;exact en.Po i j t u b x U h h1 hv W
    exact⟨x,rfl,hu,LO.step (rp.refl _) (λy o e h=>by cases e;rw[aa hxa];exact h) hw,r1,r2⟩
   |_=>exact e3
 .rcases aC h1 with ⟨rfl,e⟩|⟨U,h1⟩
  .rw[hv]at h2;cases h2;exact Sx
  .exact en.nw j u x h1 h2
 .rcases aC h1 with ⟨rfl,e⟩|⟨U,h1⟩
  .rcases aC h2 with ⟨z,_⟩|⟨_,h2⟩
   .exact O z
   .exact en.Po i k t w b x O h h2 h3 h4
  .rcases aC h2 with ⟨rfl,e⟩|⟨_,h2⟩
   .exact en.Po j i u t C x O h1 h h3 h4
   .exact en.Po j k u w b x O h1 h2 h3 h4
def Ge.Iq(en:Ge G Φ D ch Y F H M)(h:D[i]?=Z (Z (.own C t)))(hd:t.d=Z d):∃F',Ge G Φ (D.set i (Z (.g d))) ch Y F' H M:=by
 have⟨w,e1,e2⟩:=en.has i _ h;have⟨a,rfl,ht,ho,hF,hp⟩:=id e2;have Sx:=en.nw i t a h e1;have W:rp F (ku F H (· = a)):=kx λb z=>by cases z;exact hF
 have U:∀b,b≠a->ku F H (· = a) b=F b:=λb hb=>eI hb
 have gh:Gh G (ku F H (· = a)) H M ch:=⟨o0 en.gh.fh,en.gh.inj,λj x hx hl=>by rw[U _ (hp j (af hx))];exact en.gh.out j x hx hl,λj x hx=>(en.gh.ok j x hx).mono W (λ_ _=>rfl) (nL _) λ_ h=>h⟩;refine⟨_,⟨gh,en.ad.len,en.ad.ext,en.ad.fr,en.ad.Jd,en.ad.old.trans W,λb o z=>?_,en.ad.hs⟩,by simp[en.len],λj c h1=>?_,λj u x h1 h2=>?_,λj k u w b x hjk h1 h2 h3 h4=>?_⟩
 .by_cases hb:b=a
  .subst hb;exact .inr (.inl Sx)
  .rw[U b hb]at z;exact en.ad.nw b o z
 .rcases aC h1 with ⟨rfl,e⟩|⟨O,h1⟩
  .cases e;exact⟨_,e1,LO.freeze (λb z=>by cases z;exact hF) ho hd⟩
  .have⟨w,q1,q2⟩:=en.has j c h1;refine⟨w,q1,?_⟩;cases c with
   |own b u=>
    have⟨x,e,hu,hw,r1,r2⟩:=id q2;subst e;have hxa:x≠a:=λz=>by subst z;exact en.Po i j t u b x O h h1 e1 q1
    exact⟨x,rfl,hu,LO.step W (λ_ _ _ h=>h) hw,by rw[U x hxa];exact r1,r2⟩
   |g d=>exact G2.same W q2
   |ref k=>exact q2
 .rcases aC h1 with ⟨rfl,e⟩|⟨O,h1⟩
  .cases e
  .exact en.nw j u x h1 h2
 .rcases aC h1 with ⟨rfl,e⟩|⟨O,h1⟩
  .cases e
  .rcases aC h2 with ⟨rfl,e⟩|⟨_,h2⟩
   .cases e
   .exact en.Po j k u w b x hjk h1 h2 h3 h4
end
inductive Og where
 |nx (D:Sl) (ch:CH)|rt (c:CV) (ch:CH)|bk (D:Sl) (ch:CH)|ct (D:Sl) (ch:CH)
def LQ(G:Gx)(Φ:NE)(δ:Kx):Og->Prop
 |.nx D ch=>∀ Y F H M,Ge G Φ D ch Y F H M->δ.nx Y H
 |.bk D ch=>∀ Y F H M,Ge G Φ D ch Y F H M->δ.bk Y H
 |.ct D ch=>∀ Y F H M,Ge G Φ D ch Y F H M->δ.ct Y H
 |.rt c ch=>∀v F H M,Iv G Φ.F Φ.H Φ.M Φ.ch F H M ch->Hu G F M ch.length c v->δ.rt v H
abbrev Fs:=Sl->CH->ζ Og
def tZ(G:Gx)(g:Fs):TS:=λδ Y H=>∃ Φ D ch F M o,Ge G Φ D ch Y F H M/\g D ch=Z o/\LQ G Φ δ o
def KA(G:Gx)(X:Cx)(st:J6)(g:Fs):Prop:=PS X st (tZ G g)
def GS(G:Gx)(X:Cx)(ss:B J6)(g:Fs):Prop:=LK X ss (tZ G g)
variable{N:B Str}
section
variable{G:Gx}{X:Cx}{st:J6}{HF a b body:B J6}{g g1 g2:Fs}{e c o tg iter:J8}{es:B J8}{pos pos' apos G5:Pos}{f fa fe fk:Fg}{tc:FM Bool}{i:Nat}
noncomputable def mr:Fs:=λD ch=>Z (.nx D ch)
noncomputable def i9(g1 g2:Fs):Fs:=λD ch=>(g1 D ch).bind λo=>match o with
 |.nx Hi G0=>g2 Hi G0
 |o=>Z o
def CB:GS G X [] mr:=LK.mono xy λδ Y H Km=>by have⟨Φ,D,ch,F,M,o,en,O,k⟩:=Km;cases O;exact k Y F H M en
def yC(h1:KA G X st g1)(h2:GS G X HF g2):GS G X (st::HF) (i9 g1 g2):=LK.mono (sR h1 h2) λδ Y H KJ=>by
 have⟨Φ,D,ch,F,M,o,en,hg,k⟩:=KJ;have⟨W,h1,O⟩:=bS hg;refine⟨Φ,D,ch,F,M,W,en,h1,?_⟩;cases W with
 |nx Hi G0=>exact λK0 F' H' Ha U=>⟨Φ,Hi,G0,F',Ha,o,U,O,k⟩
 |bk _ _=>cases O;exact k
 |ct _ _=>cases O;exact k
 |rt _ _=>cases O;exact k
def GZ:KA G X (.Pass pos) mr:=PS.mono xz λδ Y H LG=>by have⟨Φ,D,ch,F,M,o,en,O,k⟩:=LG;cases O;exact k Y F H M en
def gs_doc{y j}:KA G X (.Expr (.Constant (.str y) j pos) pos') mr:=PS.mono Bn λδ Y H O=>by have⟨Φ,D,ch,F,M,o,en,U,k⟩:=O;cases U;exact k Y F H M en
def Sy(i:Nat)(g:Fs):Fs:=λD ch=>match D[i]? with
 |some (Z (.own C t))=>t.d.bind λd=>g (D.set i (Z (.g d))) ch
 |_=>J
omit x in
def CC(h:GS G X HF g):GS G X HF (Sy i g):=LK.mono h λδ Y H hq9=>by
 have⟨Φ,D,ch,F,M,o,en,O,k⟩:=hq9;unfold Sy at O;rcases O
 rename_i t ht;have⟨d,hd,U⟩:=bS O;have⟨F',W⟩:=en.Iq ht hd;exact⟨Φ,_,ch,F',M,o,W,U,k⟩
noncomputable def Sz(f:Fg):Fs:=λD ch=>(f D ch).map λp=>.nx D p.2
def yD(h:GE G X e f)(hs:LD e J pos.line X.env=pure ξ):KA G X (.Expr e pos) (Sz f):=PS.mono (dw h hs) λδ Y H O=>by have⟨Φ,D,ch,F,M,o,en,U,k⟩:=O;have⟨p,h1,e⟩:=mS U;cases e;exact⟨Φ,D,ch,F,M,p.1,p.2,en,h1,λv F' H' Ha a r=>k Y F' H' Ha (en.G1 a)⟩
def Rj(f:Fg):Fs:=λD ch=>(f D ch).bind λp=>if p.1.sol then Z (.rt p.1 p.2)else J
omit x in
def CD(h:GE G X e f):KA G X (.Return (Z e) pos) (Rj f):=PS.mono (Bo h) λδ Y H O=>by
 have⟨Φ,D,ch,F,M,o,en,hg,k⟩:=O;have⟨p,h1,U⟩:=bS hg;split at U<;>cases U
 rename_i W;exact⟨Φ,D,ch,F,M,p.1,p.2,en,h1,λv F' H' Ha a r=>k v F' H' Ha (en.ad.trans a) (r.1.s W)⟩
noncomputable def UK:Fs:=λ_ ch=>Z (.rt (.g .ek) ch)
def yE:KA G X (.Return J pos) UK:=PS.mono xB λδ Y H O=>by have⟨Φ,D,ch,F,M,o,en,U,k⟩:=O;cases U;exact k .ek F H M en.ad (by show G2 G.K F .ek .ek;rwa[G2])
noncomputable def UL(c:FM Bool)(g1 g2:Fs):Fs:=λD ch=>(c D ch).bind λp=>if p.1 then g1 D p.2 else g2 D p.2
def EV(hc:GT G X c tc)(h1:GS G X a g1)(h2:GS G X b g2):KA G X (.If c a b pos) (UL tc g1 g2):=PS.mono (El hc h1 h2) λδ Y H U=>by
 have⟨Φ,D,ch,F,M,o,en,W,k⟩:=U;have⟨p,h1,O⟩:=bS W;refine⟨Φ,D,ch,F,M,p.1,p.2,en,h1,λb F' H' Ha a r=>?_⟩;cases r;cases q:p.1 with
 |true=>rw[q]at O;exact⟨Φ,D,p.2,F',Ha,o,en.G1 a,O,k⟩
 |false=>rw[q]at O;exact⟨Φ,D,p.2,F',Ha,o,en.G1 a,O,k⟩
def ja(i:Nat)(f:Fg):Fs:=λD ch=>(f D ch).bind λp=>if p.1.kp then Z (.nx (D.set i (Z p.1)) p.2)else J
omit x in
def uO{sc:J9}{x:Str}(h:cc sc N i x=C)(hl:mi sc x=C)(nd:N.Nodup)(he:GE G X e f)(W:ba X sc)(e2:X.N=N)(hf:X.fn x=C\/X.env.scope.names.lookup x=Z .local)
 (hs:LD e (Z (.Name x pos')) pos.line X.env=pure ξ):KA G X (.Assign [.Name x pos'] e pos) (ja i f):=PS.mono (yi h hl nd he W e2 hf hs) λδ Y H O=>by
 have⟨Φ,D,ch,F,M,o,en,hg,k⟩:=O;have⟨p,h1,U⟩:=bS hg;split at U<;>cases U
 rename_i hk;exact⟨Φ,D,ch,F,M,p.1,p.2,en,h1,λv F' H' Ha a r=>k _ F' H' Ha (en.put a r.1 r.2 hk i)⟩
end
section
variable{prog:Iz}{w:J5}{A:Jo}{E:Value->pv->Prop}{s:pv}{I t:J4}{j:Nat}{vs:Array Value}
def nS{y:Value}(hI:s.heap.IsTupleIter I t j)(hv:s.heap.IsTuple t vs)(hy:vs[j]?=Z y)
 (q:∀h',h'.IsTupleIter I t (j+1)->L3 I s.heap h'->Q y {s with heap:=h'}):wpAny (model prog w) A (WD (.ref I)) Q E s:=by
 have⟨oi,U,hci,O⟩:=id hI;have⟨ot,hot,_,nt,W⟩:=hv;unfold WD;refine wB (R7 (name:=Jv "__next__") hI.typeIs WE (NP WE hI.typeIs qw4 ?_ (qv6 _)));show wpAny _ _ (field (.ref I) 0 >>= _) _ _ s;refine wB (OG U O (x:=.ref t) rfl ?_);show wpAny _ _ (if(HH t==Kl)=C then _ else _) _ _ s;rw[if_neg (show ¬ (HH t==Kl)=C by exact Ju)];show wpAny _ _ (field (.ref I) 1 >>= _) _ _ s;refine wB (OG U O (x:=.int j 0) rfl ?_);show wpAny _ _ (seqItems? (.ref t) >>= _) _ _ s;refine wB (Wq hot W ?_);rwa[Ow,hy];refine L0 (Tm U O Ξ (Hf ⟨y,rfl,Hf (q _ ?_ (Sg ..))⟩));exact⟨_,Ph _ U (zc9 (WG O _)),(Obj.cls_mapFields ..).trans hci,by rw[WG O];simp[La]⟩
def rN(hh:A.handled=J)(hI:s.heap.IsTupleIter I t j)(hv:s.heap.IsTuple t vs)(hy:vs[j]?=J)
 (q:∀h' e,WF I s.heap h'->(∃o,h'.get? e=Z o/\o.cls=.type "StopIteration")->E (.ref e) {s with heap:=h'}):wpAny (model prog w) A (WD (.ref I)) Q E s:=by
 have⟨oi,U,hci,O⟩:=id hI;have⟨ot,hot,_,nt,W⟩:=hv;unfold WD;refine wB (R7 (name:=Jv "__next__") hI.typeIs WE (NP WE hI.typeIs qw4 ?_ (qv6 _)));show wpAny _ _ (field (.ref I) 0 >>= _) _ _ s;refine wB (OG U O (x:=.ref t) rfl ?_);show wpAny _ _ (if(HH t==Kl)=C then _ else _) _ _ s;rw[if_neg (show ¬ (HH t==Kl)=C by exact Ju)];show wpAny _ _ (field (.ref I) 1 >>= _) _ _ s;refine wB (OG U O (x:=.int j 0) rfl ?_);show wpAny _ _ (seqItems? (.ref t) >>= _) _ _ s;refine wB (Wq hot W ?_);rwa[Ow,hy];refine L0 (wpAny_rule (L0 (Tm U O Ξ ?_)));show wpAny _ _ (newExc (.type "StopIteration") [] >>= _) _ _ _;refine wB ?_;rwa[newExc,newTuple];refine wB (OE ?_ (by first|size_fits|decide));refine L0 (m:=Sd _ _) (wpAny_of_eq (a:=Kl) (by first|rfl|(rwa[Sd]<;>rfl)) ?_);refine OE ?_ (by first|size_fits|decide);rwa[raiseNew];refine wB (ZK ?_)
 first|rw[hh]|rw[show A.in1.handled=J by exact hh]
 refine wB (Hf (wpAny_throw ?_));exact q _ _ (((Sg ..).extBut.push _).push _) ⟨_,JW _ rfl,rfl⟩
end
variable{prog:Iz}
def mt{w:J5}(hh:A.handled=J)(I t:J4)(O:t≠I)(vs:Array Value):Draws prog w A I [I,t] vs.size (λi v=>vs[i]?=Z v) (λi h=>h.IsTupleIter I t i/\h.IsTuple t vs) where
 live:=λ_ _ st=>let ⟨o,ho,_⟩:=st.1;⟨o,ho⟩
 frame:=λ_ _ _ st U=>⟨let ⟨o,ho,r⟩:=st.1;⟨o,U I Ξ o ho,r⟩,let ⟨o,ho,r⟩:=st.2;⟨o,U t Ξ o ho,r⟩⟩
 item:=λi s Q E hi st W=>nS st.1 st.2 (y:=vs[i]) (by simp[hi]) λh' a b=>W _ h' s.toks (by simp[hi]) ⟨a,let ⟨o,ho,r⟩:=st.2;⟨o,b.extBut _ _ O ho,r⟩⟩ b
 done:=λs Q E st hE=>rN hh st.1 st.2 Ξ hE
def OR(b:Bool)(K:xA9)(H:Hp)(a:J4)(xs:B V):Prop:=match b with
 |true=>Id K H a xs
 |false=>Im K H a xs
def L7(b:Bool)(h:Heap)(I a:J4)(i:Nat):Prop:=match b with
 |true=>h.IsListIter I a i
 |false=>h.IsTupleIter I a i
def Ni(b:Bool)(h:Heap)(a:J4)(vs:Array Value):Prop:=match b with
 |true=>h.IsList a vs
 |false=>h.IsTuple a vs
def L7.obj{b:Bool}{h:Heap}{I:J4}{i:Nat}(x:L7 b h I a i):∃o,h.get? I=Z o/\(o.cls=.type "list_iterator"\/o.cls=.type "tuple_iterator")/\∀v,o.data≠.cell v:=by
 cases b with
 |true=>have⟨o,e,c,d⟩:=x;exact⟨o,e,.inl c,λv z=>by rw[d]at z;cases z⟩
 |false=>have⟨o,e,c,d⟩:=x;exact⟨o,e,.inr c,λv z=>by rw[d]at z;cases z⟩
variable{h':Heap}
def L7.at{b:Bool}{h:Heap}{I:J4}{i:Nat}(x:L7 b h I a i)(k:∀o,h.get? I=Z o->h'.get? I=Z o):L7 b h' I a i:=by
 cases b with
 |true=>have⟨o,e,r⟩:=x;exact⟨o,k o e,r⟩
 |false=>have⟨o,e,r⟩:=x;exact⟨o,k o e,r⟩
def Ni.obj{b:Bool}{h:Heap}{vs:Array Value}(x:Ni b h a vs):∃o,h.get? a=Z o/\(o.cls=.type "list"\/o.cls=.type "tuple"):=by
 cases b with
 |true=>have⟨o,e,c,_⟩:=x;exact⟨o,e,.inl c⟩
 |false=>have⟨o,e,c,_⟩:=x;exact⟨o,e,.inr c⟩
def Am{x y:String}(h:x≠y):OH x≠OH y:=λz=>h (by cases z;rfl)
def uP{b c:Bool}{h:Heap}{I l:J4}{i:Nat}{vs:Array Value}(x:L7 b h I a i)(y:Ni c h l vs):l≠I:=by have⟨o,U,c1,_⟩:=x.obj;have⟨o',e2,O⟩:=y.obj;rintro rfl;rw[U]at e2;cases e2;rcases c1 with c1|c1<;>rcases O with O|O<;>rw[c1]at O<;>exact absurd O (Am Ω)
variable{t':Nat}{fp:B J4}
section
variable{X:Cx}{J0:B (J4×Obj)}{Y:St}{H:Hp}{s:pv}{a I:J4}{xs:B V}{b:Bool}
def b7.Rk(ψ:b7 X J0 Y H s)(h:OR b X.K H a xs):∃J3:B Value,E3 xs J3/\Ni b s.heap a J3.toArray:=by
 cases b with
 |true=>have⟨J3,r,p,_⟩:=ψ.list h;exact⟨J3,r,p.isList⟩
 |false=>have⟨J3,r,p,_⟩:=ψ.tuple h;exact⟨J3,r,p⟩
def b7.Od{ys:B V}(ψ:b7 X J0 Y H s)(h:OR b X.K H a xs)(h':OR b X.K H a ys):xs=ys:=by
 cases b with
 |true=>exact ψ.Ky h h'
 |false=>exact ψ.JR h h'
def uQ{w:J5}(U:A.handled=J)(O:a≠I)(vs:Array Value):Draws prog w A I [I,a] vs.size (λi v=>vs[i]?=Z v) (λi h=>L7 b h I a i/\Ni b h a vs):=by
 cases b with
 |true=>exact Draws.list U I a O vs
 |false=>exact mt U I a O vs
def b7.Pu(ψ:b7 X J0 Y H s)(k:∀b o,b∉fp->s.heap.get? b=Z o->h'.get? b=Z o)(O:∀b∈fp,dI X J0 H b):b7 X J0 Y H {s with heap:=h',toks:=t'}:=by
 have U:∀b u,H b=Z u->b∉fp:=λb u e z=>by rw[(O b z).1]at e;cases e
 refine ψ.step (g':=s.gens) (d':=s.drawn) (ch:=fp) (λb hb=>?_) (λb o _ _ hc e _=>k b o hc e) (λb o _ _ hc e _=>⟨o.slots,k b o hc e⟩) (λ_ _ _ _ n=>n)
  (λb o hc e=>⟨o,k b o hc e⟩) (λ_ _ e=>e) (λ_ _ _ e=>e) (λb ps e=>⟨#[],by rw[e];simp⟩) (λ_ _ e=>e) (λm hm=>?_) (λb u e=>?_) ψ.bare
 .exact⟨(O b hb).2.2.2.1,(O b hb).2.1,(O b hb).2.2.2.2.1,(O b hb).2.2.2.2.2⟩
 .have⟨o,es,ep,W,r⟩:=hm;exact⟨o,es,ep,k _ o (λz=>(O _ z).2.1 rfl) W,r⟩
 .refine(ψ.Hb b u e).Kv (λc v hc q=>k c v ?_ q) (λ_ q=>q) (λ_ _ q=>q) λ_ _ _ q=>q
  rcases hc with z|z
  .rw[z];exact U b u e
  .exact U c _ z
end
section
variable{X:Cx}{J0:B (J4×Obj)}{Y:St}{H:Hp}{s:pv}
def b7.Pv {t:J4} (ψ:b7 X J0 Y H s) (k:∀ b o,b∉fp->s.heap.get? b=Z o->h'.get? b=Z o) (U:∀ b∈fp,dI X J0 H b) (ht:s.heap.objs.size<=t) (new:Hc X.prog X.w (upd H t u) h' t u) :
  b7 X J0 Y (upd H t u) {s with heap:=h',toks:=t'}:=by
 have W:∀b u,H b=Z u->b∉fp:=λb u e z=>by rw[(U b z).1]at e;cases e
 have hn:H t=J:=ψ.Hb.fresh ht;have O:∀b v,H b=Z v->b≠t:=λb v e=>aE e hn
 have nlt:∀b o,s.heap.get? b=Z o->b≠t:=λb o e z=>by subst z;exact absurd (Ii e) (Mm.mpr ht)
 refine ψ.step (g':=s.gens) (d':=s.drawn) (ch:=fp) (λb hb=>?_) (λb o _ _ hc e _=>k b o hc e) (λb o _ _ hc e _=>⟨o.slots,k b o hc e⟩) (λb o _ e n=>by rw[aa (nlt b o e)];exact n)
  (λb o hc e=>⟨o,k b o hc e⟩) (λb xs e=>by rw[aa (O b _ e)];exact e) (λb o v e=>by rw[aa (O b _ e)];exact e) (λb ps e=>⟨#[],by rw[aa (O b _ e),e];simp⟩) (λb xs e=>by rw[aa (O b _ e)];exact e) (λm hm=>?_) (λb v e=>?_) ψ.bare
 .exact⟨(U b hb).2.2.2.1,(U b hb).2.1,(U b hb).2.2.2.2.1,(U b hb).2.2.2.2.2⟩
 .have⟨o,es,ep,ho,r⟩:=hm;exact⟨o,es,ep,k _ o (λz=>(U _ z).2.1 rfl) ho,r⟩
 .by_cases hb:b=t
  .subst hb;rw[ac]at e;cases e;exact new
  .rw[aa hb]at e;refine(ψ.Hb b v e).Kv (λc ob hc q=>k c ob ?_ q) (λc q=>by rw[aa (O c _ q)];exact q) (λc ys q=>by rw[aa (O c _ q)];exact q) λc ob ys q=>by rw[aa (O c _ q)];exact q
   rcases hc with z|z
   .rw[z];exact W b v e
   .exact W c _ z
end
noncomputable def Ite(b:Bool)(K:xA9)(a:J4):It:=⟨λi H=>∃xs x,OR b K H a xs/\xs[i]?=Z x,λi H x H'=>∃t v,H t=J/\x=.ref t/\H'=upd H t (.t [.int i,v])/\∀xs,OR b K H a xs->xs[i]?=Z v,λi H=>∃xs,OR b K H a xs/\xs.length=i⟩
variable{P:Iz}{pos:Pos}
def rO {w:J5} {elts:B J8} {n:Nat} (b:Bool) (a e I:J4) (Nh:e≠I) :
  M9 P w K (.Tuple elts n pos) (Ite b K a) [e,I] e (λi h=>(∃old,IsEnum h e I i old)/\L7 b h I a i) where
 mem:=by simp
 obj:=λi h st c hc=>by
  have⟨⟨old,U⟩,W⟩:=st;rwa[IE,S9,or_false]at hc;rcases hc with rfl|rfl
  .exact⟨_,U,λv z=>nomatch z⟩
  .have⟨o,q,_,d⟩:=W.obj;exact⟨o,q,d⟩
 keep:=λi h h' st k=>by have⟨⟨old,U⟩,W⟩:=st;exact⟨⟨old,k e Ξ _ U⟩,W.at λo q=>k I Ξ o q⟩
 item:=by
  intro X hP hw hK hc i J0 s Y H E ψ hf st hg;subst hP hw hK;have⟨⟨old,U⟩,W⟩:=st;have⟨xs,x,hq,hx⟩:=hg;have⟨J3,rv,co⟩:=ψ.Rk hq;have⟨u,hu,ru⟩:=rv.get hx;have hi:i<J3.toArray.size:=‹(gX hu).1›
  have hae:e∉[I,a]:=by rwa[IE,S9,or_false,not_or];refine⟨Nh,λz=>?_⟩;have⟨o,q,c⟩:=co.obj;rw[<- z,U]at q;cases q;rcases c with c|c<;>exact absurd c (Am Ω)
  refine wpAny_pyNext_enum_itemD (uQ (A:=X.A.in1) (b:=b) (I:=I) (a:=a) (show X.A.in1.handled=J from ψ.ok.hd hc) (uP W co) J3.toArray) U ⟨W,co⟩ hi Nh hae λy h1 tk hy ho MC hT hsz hk=>⟨_,rfl,?_⟩
  have ey:y=u:=by rw[show J3.toArray[i]?=J3[i]? by simp,hu]at hy;exact(JU hy).symm
  subst ey;refine wpAny_letOwnedTupleGo_enum ho λh2 Nj sb2=>?_
  have kk:∀c o,c∉[e,I]->s.heap.get? c=Z o->h2.get? c=Z o:=λc o O q=>by rwa[IE,S9,or_false,not_or]at O;exact(sb2.2 c O.1).trans (hk c o O.1 O.2 q)
  have lt:∀c∈[e,I],c<s.heap.objs.size:=λc O=>by
   rwa[IE,S9,or_false]at O;rcases O with rfl|rfl
   .exact Ii U
   .have⟨o,q,_⟩:=W.obj;exact Ii q
  -- first MU records,then MU pair
  have hT2:h2.get? s.heap.objs.size=Z {cls:=.type "tuple",data:=.seq #[.int i tk,y]}:=(sb2.2 _ (λz=>Qa _ (z▸lt e Ξ))).trans hT
  have J2:b7 X J0 Y (upd H s.heap.objs.size (.t [.int i,x])) {s with heap:=h2,toks:=tk+1}:=by refine ψ.Pv kk hf (nL _) ⟨by show 2<=G6;decide,[.int i tk,y],.cons ⟨_,rfl⟩ (.cons ru .nil),?_⟩;exact .of hT2 rfl rfl rfl
  refine⟨.ref s.heap.objs.size,_,J2,rfl,⟨_,x,ψ.Hb.fresh (Tf _),rfl,rfl,λys hy=>by rw[ψ.Od hy hq];exact hx⟩,⟨⟨_,‹Nj›⟩,MC.1.at λo q=>(sb2.2 I (JQ Nh)).trans q⟩,λc O=>?_⟩;rw[aa (IS (lt c O))];exact(hf c O).1
 done:=by
  intro X hP hw hK hc i J0 s Y H E ψ hf st hg;subst hP hw hK;have⟨⟨old,U⟩,W⟩:=st;have⟨xs,hq,hx⟩:=hg;have⟨J3,rv,co⟩:=ψ.Rk hq;have hi:i=J3.toArray.size:=by rw[<- hx];simpa using rv.length
  refine wpAny_pyNext_enum_endD (uQ (A:=X.A.in1) (b:=b) (I:=I) (a:=a) (show X.A.in1.handled=J from ψ.ok.hd hc) (uP W co) J3.toArray) U (show L7 b s.heap I a J3.toArray.size/\Ni b s.heap a J3.toArray from⟨hi▸W,co⟩) λh' eb=>⟨rfl,?_⟩
  exact ψ.Pu (t':=s.toks) (λc o O q=>eb c o (λz=>O (by simp[z])) q) hf
 self:=λA i s Q E st h=>by have⟨⟨old,U⟩,W⟩:=st;exact wpAny_pyIter_enum U h
omit x in
def mw (t:J4) (vs:Array Value) (n:Nat) (dd:ζ J4) (sl:Array (ζ Value)) :
  Meets (JV.«enumerate.__new__» ⟨[.type "enumerate",.ref t],[]⟩) (λ_ R s=>s.heap.get? t=Z {cls:=.type "tuple",dict:=dd,data:=.seq vs n,slots:=sl}∧
   R (.ok (.ret (.ref (s.heap.push {cls:=.type "tuple_iterator",data:=.fields #[.ref t,.int 0 0]}).objs.size)))
    {s with heap:=(s.heap.push {cls:=.type "tuple_iterator",data:=.fields #[.ref t,.int 0 0]}).push {cls:=.type "enumerate",data:=.fields #[.none,.bool ξ,.ref s.heap.objs.size,La 0,.none,.none]}}):=
 .of_wp λprog w A R s h=>by
  have⟨hp,g,d,tk,os⟩:=s;have⟨O,h⟩:=h;have U:=sub_enumerate;have W:Heap.IsTuple (pv.heap ⟨hp,g,d,tk,os⟩) t vs:=⟨_,O,rfl,n,rfl⟩;wp_walk using ZO O;refine wpAny_stack_any λst=>Hf ?_
  split
  .rename_i c _ _ _ _ _;cases (c==OH "enumerate")<;>(wp_walk using ZO O,Wj W)<;>exact⟨_,rfl,h⟩
  . (wp_walk using ZO O,Wj W)<;>exact⟨_,rfl,h⟩
section
variable{prog:Iz}{w:J5}{A:Jo}{E:Value->pv->Prop}{s:pv}
def nT{t:J4}{vs:Array Value}(hT:s.heap.IsTuple t vs)
 (h:∀h',IsEnum h' (s.heap.objs.size+1) s.heap.objs.size 0 .none->h'.IsTupleIter s.heap.objs.size t 0->h'.objs.size=s.heap.objs.size+2→
 (∀c u,s.heap.get? c=Z u->h'.get? c=Z u)->Q (.ref (s.heap.objs.size+1)) {s with heap:=h'}) :
  wpAny (model prog w) A (call (.type "enumerate") [.ref t]) Q E s:=by
 have⟨⟨c,HC,dt,sl⟩,hl,hc,n,U⟩:=hT;have hc:c=.type "tuple":=hc;have U:dt=.seq vs n:=U;subst hc U;refine callType_new F.called_enumerate Ω (F.typeCall_enumerate_1 _) (F.newCall_enumerate_1 _) (λobj=>F.args_object_init_2 obj _) F.entry_enumerate_new (mw t vs n HC sl) ⟨hl,?_⟩;have hz:(s.heap.push {cls:=.type "tuple_iterator",data:=.fields #[.ref t,.int 0 0]}).objs.size=s.heap.objs.size+1:=QS ..;have W:((s.heap.push {cls:=.type "tuple_iterator",data:=.fields #[.ref t,.int 0 0]}).push {cls:=.type "enumerate",data:=.fields #[.none,.bool ξ,.ref s.heap.objs.size,La 0,.none,.none]}).objs.size=s.heap.objs.size+2:=by rw[QS,hz]
 rw[hz];have O:=JW (s.heap.push {cls:=.type "tuple_iterator",data:=.fields #[.ref t,.int 0 0]}) (o:={cls:=.type "enumerate",data:=.fields #[.none,.bool ξ,.ref s.heap.objs.size,La 0,.none,.none]}) rfl;rw[hz]at O;exact⟨⟨_,O,rfl⟩,h _ O ⟨_,gP _ (JW _ rfl),rfl,rfl⟩ W λc u z=>gP _ (gP _ z)⟩
def nU{b:Bool}{t:J4}{vs:Array Value}(O:Ni b s.heap t vs)
 (h:∀h',IsEnum h' (s.heap.objs.size+1) s.heap.objs.size 0 .none->L7 b h' s.heap.objs.size t 0->h'.objs.size=s.heap.objs.size+2→
 (∀c u,s.heap.get? c=Z u->h'.get? c=Z u)->Q (.ref (s.heap.objs.size+1)) {s with heap:=h'}) :
  wpAny (model prog w) A (call (.type "enumerate") [.ref t]) Q E s:=by
 cases b with
 |true=>exact call_enumerate_list O h
 |false=>exact nT O h
end
section
variable{X:Cx}{x:J8}{p pos LL:Pos}{sc:J9}{fs:De->ζ (B Dt)}{elts:B J8}{n:Nat}
def EW(K:xA9)(ta:TA):TI:=λY H R=>ta Y H λvs H1=>∃b a xs,vs=[.ref a]/\OR b K H1 a xs/\R (Ite b K a) H1
def yF {ta:TA} (h:aI sc "enumerate"=C) (hm:X.mg "enumerate"=J) (ha:Ij X [x] ta) (e1:ba X sc:=by rfl) (hs:Hn [x] X.env=[(ξ,eval x X.env)]:=by rfl) :
  PI X (.Tuple elts n LL) (.Call (.Name "enumerate" p) [x] [] pos) (EW X.K ta):=by
 intro J0 s Y H R I h';refine Call_ (g7 I (ON h e1) hm kl (ZA (Hw (ha pos J0 s Y H _ I h') λus s1 Km=>?_) hs rfl));have⟨vs,H1,U,r1,q1⟩:=Km;have⟨b,a,xs,rfl,hq,q⟩:=q1;have⟨u,rfl,ru⟩:=dF r1;cases ru;have⟨J3,rv,co⟩:=U.Rk hq;refine nU co λh2 W hi hz hk=>wpAny_pyIter_enum W ?_
 have I2:b7 X J0 Y H1 {s1 with heap:=h2}:=U.kept (t':=s1.toks) hk;refine⟨s1.heap.objs.size+1,[s1.heap.objs.size+1,s1.heap.objs.size],_,_,H1,rfl,I2,rO b a _ _ (NA (V9 _)),⟨⟨_,W⟩,hi⟩,λc hc=>?_,q⟩
 have O:s1.heap.objs.size<=c:=by
  rwa[IE,S9,or_false]at hc;rcases hc with rfl|rfl
  .exact OC _
  .exact nL _
 exact U.M8 O (U.Hb.fresh O)
noncomputable def ck(i:Nat):B Dt->B Dt
 |[]=>[]
 |d::r=>.t [.int i,d]::ck (i+1) r
theorem jD:∀(l:B Dt)(i:Nat),(ck i l).length=l.length
 |[],_=>rfl
 |_::r,i=>by simp[ck,jD r]
theorem jE:∀(l:B Dt)(i k:Nat),(ck i l)[k]?=l[k]?.map λd=>.t [.int ((i+k:Nat):Int),d]
 |[],i,k=>by simp[ck]
 |d::r,i,0=>by simp[ck]
 |d::r,i,k+1=>by simp[ck,jE r,Nat.add_assoc,Nat.add_comm 1]
def uR{F:Hp}{d e:Dt}{v w:V}{t:J4}(h:F t=Z (.t [v,w]))(r:G2 K F d v)(O:G2 K F e w):G2 K F (.t [d,e]) (.ref t):=by rwa[G2,ag];exact⟨t,_,rfl,Im.of h,v,[w],rfl,r,w,[],rfl,O,rfl⟩
theorem jF{F:Hp}{b:Bool}(r:ag K F l xs):uu K F (Ite b K a) (ck 0 l) (λH=>OR b K H a xs):=λi H F2 O W ff=>by have hl:=r.length;rw[jD];refine⟨λh=>⟨xs,xs[i],O,by simp[show i<xs.length by lia]⟩,λh=>⟨xs,O,Θ⟩,λx H' hi hy=>?_⟩;have⟨t,v,U,rfl,rfl,hv⟩:=hy;have hx:=hv xs O;have⟨d,hd,rd⟩:=r.Oc hx;refine⟨_,upd F2 t (.t [.int i,v]),?_,HD.new W U,uR ac bI ((rd.same ff).same (rp.upd (W.free U)))⟩;rw[jE,hd];simp
end
section
variable{X:Cx}{elt tg iter:J8}{ifs:B J8}{scope:J9}{pos:Pos}{ρ:B Str}{src:B (ζ Nat)}{wi:TI}{g:TG}{tt:TT}{te:TE}
def yG {i:Nat} {y:Str} {py Nk:Pos} (hN:X.N.Nodup) (hi':X.N[i]?=Z y) (hx:So X.env.scope y) (hf:X.fn y=C\/X.env.scope.names.lookup y=Z .local)
  (S:HB X.N X.env.scope scope ρ src) (hc:X.calm=C) (hi:PI X tg iter wi) (hg:ρ.Nodup->∀θ s H ex,PG (JE X ρ scope θ s H ex) tg g) (ht:∀θ s H ex,Qo (JE X ρ scope θ s H ex) ifs tt)
  (he:∀θ s H ex,PE (JE X ρ scope θ s H ex) elt te) (hs:∀x,Pe iter X.env x=pure x)
  (OS:LD (.ListComp elt [⟨tg,iter,ifs,0⟩] scope pos) (Z (.Name y py)) Nk.line X.env=pure C) :
  PS X (.Assign [.Name y py] (.ListComp elt [⟨tg,iter,ifs,0⟩] scope pos) Nk) (xD (jw src wi g tt te) (er i)):=by
 intro J0 s Y H δ I h;rw[exec_Assign_Name_used _ _ _ _ OS];refine wB (ZG (wB ?_));show wpAny _ X.A (do let _ <- ZJ (.ListComp elt [⟨tg,iter,ifs,0⟩] scope pos) scope X.env _ (newList []) ξ (eval iter X.env) (Z (MP (.Name y py) X.env))) _ _ s;refine wB (NR (jx (use:=Z (MP (.Name y py) X.env)) (QQ:=λ_ s'=>∃O H',b7 X J0 O H' s'/\δ.nx O H') S hc hi hg ht he hs I h ?_) (λ_ s' hq=>Hf (Hf hq)) λ_ _ e=>e);intro Dd θ H' s' m IA hC hn q;show wpAny _ X.A (MP (.Name y py) X.env (.ref Dd)) _ _ s';refine wpAny_assign_Name (jh IA hN hi' hx (v:=.ref Dd) rfl (λs2 I2 hsb=>?_) hf);have⟨a,sb,U⟩:=hsb
 have ne:θ≠a:=by
  rcases U with rfl|U
  .exact hC.2.1
  .exact JQ (hC.2.2.2.2.1 y a U)
 exact⟨m,hn.sameBut sb ne,λh3 W=>⟨_,H',I2.but hC W,q⟩⟩
end
noncomputable def repS(x:Str)(n:Int):Str:=if n<1 then Str.empty else if(n==1||x.length==0)=C then x else⟨(I0 n.toNat x.cps).foldl (· ++ ·) #[]⟩
noncomputable def rP(O:Bool):Dt->Dt->ζ T
 |.bl a,.bl b=>Z (.f (.bl (if O then !decide (a=b)else decide (a=b))))
 |_,_=>J
section
variable{X:Cx}
def CF:HI X (JL .Is) (λx y H Q=>∃a b,x=.bl a/\y=.bl b/\Q (.bl (decide (a=b))) H):=by intro J0 s Y H x y v u Q I U O h;have⟨a,b,rfl,rfl,q⟩:=h;cases U;cases O;refine wpAny_is_plain rfl (ao I q ?_);cases a<;>cases b<;>rfl
def rQ:HI X (JL .IsNot) (λx y H Q=>∃a b,x=.bl a/\y=.bl b/\Q (.bl (!decide (a=b))) H):=by intro J0 s Y H x y v u Q I U O h;have⟨a,b,rfl,rfl,q⟩:=h;cases U;cases O;refine wpAny_isNot_plain rfl (ao I q ?_);cases a<;>cases b<;>rfl
def EX:IT K (λx y H Q=>∃a b,x=.bl a/\y=.bl b/\Q (.bl (decide (a=b))) H) (rP ξ):=by
 intro F H x y vx vy Q t W rx U O k;unfold rP at O;rcases O
 cases O;cases rx;cases U;exact⟨_,_,rfl,rfl,k.bl W⟩
def uS:IT K (λx y H Q=>∃a b,x=.bl a/\y=.bl b/\Q (.bl (!decide (a=b))) H) (rP C):=by
 intro F H x y vx vy Q t W rx U O k;unfold rP at O;rcases O
 cases O;cases rx;cases U;exact⟨_,_,rfl,rfl,k.bl W⟩
def uT(K:xA9):R2:=λx y H Q=>∃a b ys,x=.ref a/\y=.ref b/\Im K H a []/\Im K H b ys/\Q (.ref b) H
def yH:HI X (KY .Add) (uT X.K):=by
 intro J0 s Y H x y v u Q I rx ry h;have⟨a,b,ys,rfl,rfl,ha,hb,q⟩:=h;cases rx;cases ry;have⟨J3,r1,p1,_⟩:=I.tuple ha;have⟨U,r2,p2,_⟩:=I.tuple hb;cases r1;have⟨⟨cls,dd,data,sl⟩,ho,hc,n,hd⟩:=id p1;have⟨⟨Ub,dd2,data2,sl2⟩,LF,O,n2,W⟩:=id p2;simp only at hc hd O W;subst hc hd O W
 exact Ww ⟨_,ho,rfl⟩ ⟨_,LF,rfl⟩ ZE ZI PySem.F.slot_tuple_add PySem.F.entry_tuple_add (PySem.F.args_tuple_add_2 _ _)
  (tuple_addW0 a b #[] U.toArray n n2 dd dd2 sl sl2 rfl) ⟨ho,LF,⟨.ref b,H,I,rfl,q⟩⟩
def ig:Dt->Dt->ζ T
 |.t [],.t m=>Z (.f (.t m))
 |.t (d::l),.t (e::m)=>c5 (.t (d::l)) (.t (e::m))
 |_,_=>J
def yI:HI X (KY .Add) (λx y H Q=>uT X.K x y H Q\/o7 X.K x y H Q):=HI.or yH o8
omit x in
def CG:IT K (λx y H Q=>uT K x y H Q\/o7 K x y H Q) ig:=by
 intro F H x y vx vy Q t U rx W O k;unfold ig at O;rcases O
 .rename_i m;cases O;have⟨a,vs,rfl,h1,h2⟩:=rx;have⟨b,ws,rfl,h3,h4⟩:=W;rwa[ag]at h2;subst h2;refine .inl ⟨a,b,ws,rfl,rfl,U.tup h1,U.tup h3,k.leaf.here U ?_⟩;rwa[G2];exact⟨b,ws,rfl,h3,h4⟩
 .exact .inr (Ag F H _ _ vx vy Q t U rx W O k)
end
noncomputable def gMin:B Dt->ζ T
 |[.int i,.int j]=>Z (.f (.int (if j<i then j else i)))
 |_=>J
noncomputable def av:rb->Dt
 |.inl i=>.int i
 |.inr x=>.str x
def yJ{F:Hp}(k:rb):G2 K F (av k) (kV k):=by
 cases k with
 |inl i=>exact bI
 |inr x=>exact eM
def Ao(i j:Int):Prop:=0<j/\j<18446744073709551616
def uU:HI X (KY .FloorDiv) (g8 Ao λi j=>.int (i/j)):=T0 λi j _ _ _ _ _ hc q=>by
 have h1:(0:Int)<j:=hc.1;have h2:j<18446744073709551616:=hc.2;refine floordiv_int Θ (by rw[qw9 i Θ];exact q) (.inl (PyProof.noPylong_of_log2 ?_));have O:j.natAbs≠0:=by lia
 exact OB ((Nat.log2_lt O).mpr (show j.natAbs<2^64 by lia)) Ω
noncomputable def gp:Dt->Dt->ζ T
 |.int i,.int j=>if 0<j/\j<18446744073709551616 then Z (.f (.int (i/j)))else J
 |_,_=>J
omit x in
def CI:IT K (g8 Ao λi j=>.int (i/j)) gp:=by
 intro F H x y vx vy Q t W rx U O k;unfold gp at O;rcases O
 split at O
 .rename_i hc;cases O;cases rx;cases U;exact⟨_,_,rfl,rfl,hc,k.int W⟩
 .cases O
inductive Pt where
 |one (i:Nat)|many (is:List Nat)
noncomputable def rR:B Nat->B Dt->Sl->ζ Sl
 |[],[],D=>Z D
 |i::is,d::ds,D=>rR is ds (D.set i (Z (.g d)))
 |_,_,_=>J
def kQ:B Nat->B CV->Sl->ζ Sl
 |[],[],D=>Z D
 |i::is,c::cs,D=>kQ is cs (D.set i (Z c))
 |_,_,_=>J
theorem uV:∀{is:B Nat}{ds:B Dt}{D:Sl},rR is ds D=kQ is (ds.map .g) D
 |[],[],_=>rfl
 |i::is,d::ds,_=>uV (is:=is)
 |[],_::_,_=>rfl
 |_::_,[],_=>rfl
theorem ij:∀{is:B Nat}{l:B CV}{D Hi:Sl},kQ is l D=Z Hi->l.length=is.length
 |[],[],_,_,_=>rfl
 |i::is,c::cs,_,_,h=>congrArg (· + 1) (ij (is:=is) h)
 |[],_::_,_,_,h=>nomatch h
 |_::_,[],_,_,h=>nomatch h
def Hq:Pt->Dt->Sl->ζ Sl
 |.one i,d,D=>Z (D.set i (Z (.g d)))
 |.many is,.t ds,D=>rR is ds D
 |_,_,_=>J
noncomputable def Pt.slots:Pt->B Nat
 |.one i=>[i]
 |.many is=>is
def Nl(ts:B Nat)(Y O:St):Prop:=O.length=Y.length/\∀j,j∉ts->O[j]?=Y[j]?
def tP(G:Gx)(b:Dt->Sl->ζ Sl)(ts:B Nat):TG:=λv Y H Q=>∃ Φ D ch F M d Hi,Ge G Φ D ch Y F H M/\G2 G.K F d v/\b d D=Z Hi/\∀O,Ge G Φ Hi ch O F H M->Nl ts Y O->Q O H
def SA(G:Gx)(ts:B Nat):Ql:=λvs Y H Q=>∃ Φ D ch F M cs Hi,Ge G Φ D ch Y F H M/\G9 G F M ch.length cs vs/\kQ ts cs D=Z Hi/\∀O,Ge G Φ Hi ch O F H M->Nl ts Y O->Q O H
def GP(G:Gx)(X:Cx)(tg:J8)(p:Pt):Prop:=PG X tg (tP G (Hq p) p.slots)
variable{is:B Nat}{Hh:Nat->J4}
section
variable{G:Gx}{X:Cx}{tg iter e:J8}{es:B J8}{pos:Pos}{i:Nat}
def Nl.one{v:V}:Nl [i] Y (Y.set i (Z v)):=⟨Ξ,λj O=>by rw[qv3 λe=>O (by simp[e])]⟩
def Ge.dat{F:Hp}{d:Dt}{v:V}(en:Ge G Φ D ch Y F H M)(r:G2 G.K F d v)(i:Nat):Ge G Φ (D.set i (Z (.g d))) ch (Y.set i (Z v)) F H M:=en.put (.refl en.gh) (c:=.g d) r (λ_ e=>nomatch e) rfl i
def CJ(h:PG X tg (er i)):GP G X tg (.one i):=PG.mono h λv Y H Q Km=>by have⟨Φ,D,ch,F,M,d,Hi,en,r,O,k⟩:=Km;cases O;exact k _ (en.dat r i) .one
def Hu.kp{F:Hp}{n:Nat}{c:CV}{v:V}(r:Hu G F M n c v):c.kp=C:=by cases c<;>first|rfl|exact r.elim
def yK:OK X [] (SA G []):=λJ0 s Y H vs us Q I r KJ=>by
 have⟨Φ,D,ch,F,M,ds,Hi,en,U,O,k⟩:=KJ;cases U with
 |cons _ _=>cases O
 |nil=>cases O;exact xC J0 s Y H _ us Q I r ⟨rfl,k Y en ⟨rfl,λ_ _=>rfl⟩⟩
def uW(h1:PG X e (er i))(h2:OK X es (SA G is))(hs:(Lg (e::es) X.env).map (·.2)=MP e X.env::(Lg es X.env).map (·.2)):OK X (e::es) (SA G (i::is)):=
 λJ0 s Y H vs us Q I r LG=>by
  have⟨Φ,D,ch,F,M,ds,Hi,en,rs,hd,k⟩:=LG;cases rs with
  |nil=>cases hd
  |cons r1 r2=>
   refine sU h1 h2 hs J0 s Y H _ us Q I r ⟨_,_,rfl,Φ,_,ch,F,M,_,Hi,en.put (.refl en.gh) r1.toC (λt e=>by subst e;exact r1.elim) r1.kp i,r2,hd,λO W ho=>k O W ⟨?_,λj U=>?_⟩⟩
   .rw[ho.1];simp
   .rwa[IE,not_or]at U;rw[ho.2 j U.2,gN (JQ U.1)]
def yL{k:Nat}(hK:X.K=G.K)(hc:X.calm=C)(h:OK X es (SA G is))(hn:(Lg es X.env).length=is.length)(U:(Lg es X.env).findIdx? (·.1)=J):GP G X (.Tuple es k pos) (.many is):=PG.mono (sV hc h hn U) λv Y H Q W=>by
 have⟨Φ,D,ch,F,M,d,Hi,en,r,O,kk⟩:=W;cases d with
 |t ds=>rwa[G2]at r;have⟨a,vs,rfl,h1,h2⟩:=r;have O:rR is ds D=Z Hi:=O;rw[uV]at O;exact⟨a,vs,rfl,by rw[hK];exact(en.gh.fh.tup h1),by rw[h2.length,<- ij O,HN],Φ,D,ch,F,M,_,Hi,en,G9.dats h2,O,kk⟩
 |_=>cases O
def tPr(G:Gx)(is:B Nat):TG:=λv Y H Q=>∃ Φ D ch F M i l Hi,Ge G Φ D ch Y F H M/\v=.ref (M i)/\ch[i]?=Z (.t l)/\kQ is l D=Z Hi/\∀O,Ge G Φ Hi ch O F H M->Nl is Y O->Q O H
def CK{k:Nat}(hc:X.calm=C)(h:OK X es (SA G is))(hn:(Lg es X.env).length=is.length)(O:(Lg es X.env).findIdx? (·.1)=J):PG X (.Tuple es k pos) (tPr G is):=PG.mono (sV hc h hn O) λv Y H Q U=>by have⟨Φ,D,ch,F,M,i,l,Hi,en,rfl,hl,W,kk⟩:=U;have⟨vs,h1,h2⟩:=en.gh.ok i _ hl;exact⟨_,vs,rfl,Im.of h1,by rw[G9.length h2,ij W],Φ,D,ch,F,M,_,Hi,en,h2,W,kk⟩
def tI(G:Gx)(f:FM (B Dt)):TI:=λY H R=>∃ Φ D ch F M ds G0,Ge G Φ D ch Y F H M/\f D ch=Z (ds,G0)/\∀ψ ok F' H' Ha,Iv G F H M ch F' H' Ha G0->uu G.K F' ψ ds ok->(∀H2,rp F' H2->ok H2)->R ψ H'
def GI(G:Gx)(X:Cx)(tg iter:J8)(f:FM (B Dt)):Prop:=PI X tg iter (tI G f)
def iE(f:Fg):FM (B Dt):=λD ch=>(f D ch).bind λp=>match p.1 with
 |.g d=>(itD d).map λl=>(l,p.2)
 |_=>J
def gi_e{l:J8}{f:Fg}(W:X.K=G.K)(h:GE G X l f):GI G X tg l (iE f):=PI.mono (PI.or (xG h) (Br h)) λY H R U=>by
 have⟨Φ,D,ch,F,M,ds,G0,en,hf,k⟩:=U;have⟨⟨c,ch1⟩,h1,O⟩:=bS hf;cases c with
 |g d=>
  have⟨l,hl,e⟩:=mS O;cases e;cases d with
  |e l=>cases hl;refine .inl ⟨Φ,D,ch,F,M,_,_,en,h1,λv F' H' Ha a r=>?_⟩;have r:=r.1;rwa[HX,Hu,G2]at r;have⟨x,vs,rfl,q1,q2⟩:=r;rw[W];exact⟨x,rfl,⟨vs,a.gh.fh.seq q1⟩,k _ _ F' H' Ha a (Mw.walk q2) λH2 s=>s.seq q1⟩
  |t l=>cases hl;refine .inr ⟨Φ,D,ch,F,M,_,_,en,h1,λv F' H' Ha a r=>?_⟩;have r:=r.1;rwa[HX,Hu,G2]at r;have⟨x,vs,rfl,q1,q2⟩:=r;rw[W];exact⟨x,rfl,⟨vs,a.gh.fh.tup q1⟩,k _ _ F' H' Ha a (Nd.walk q2) λH2 s=>s.tup q1⟩
  |_=>cases hl
 |_=>cases O
noncomputable def gr:B CV->ζ (B Int)
 |[]=>Z []
 |.g (.int i)::l=>(gr l).map (i::·)
 |_=>J
theorem my{F:Hp}{n:Nat}:∀{l:B CV}{vs:B V}{is:B Int},Ip G F H M n l vs->gr l=Z is->vs=is.map V.int
 |[],_,_,.nil,h=>by cases h;rfl
 |c::l,_,_,.cons r t,h=>by
  cases c with
  |g d=>
   cases d with
   |int i=>have⟨O,h1,rfl⟩:=mS h;rw[my t h1];have r:G2 G.K F (.int i) _:=r;rwa[G2]at r;rw[r];rfl
   |_=>cases h
  |_=>cases h
noncomputable def cM(i:Int):Bool:=decide (-(2^62)<=i)&&decide (i<2^62)
def uX{i:Int}(h:cM i=C):-(2^62)<=i/\i<2^62:=by unfold cM at h;rwa[Hm,decide_eq_true_eq]at h;exact h
def Qh:Nat->B Int->ζ (B Dt)
 |1,[j]=>if cM j then Z (au 0 j.toNat)else J
 |_,_=>J
def iR(n:Nat)(fs:FM (B CV)):FM (B Dt):=λD ch=>(fs D ch).bind λp=>(gr p.1).bind λis=>(Qh n is).map λl=>(l,p.2)
section
variable{sc:J9}{p LL:Pos}{x y z:J8}{fs:FM (B CV)}{elts:B J8}{n:Nat}{f:Fg}
omit x in
def rS(h:aI sc "range"=C)(hm:X.mg "range"=J)(ha:GA G X [x] fs)(e1:ba X sc)(hs:Hn [x] X.env=[(ξ,eval x X.env)]):GI G X tg (.Call (.Name "range" p) [x] [] pos) (iR 1 fs):=PI.mono (nK h hm ha e1 hs) λY H R U=>by
 have⟨Φ,D,ch,F,M,ds,G0,en,hf,k⟩:=U;have⟨q,h1,Nn⟩:=bS hf;have⟨is,h2,W⟩:=bS Nn;have⟨l,O,e⟩:=mS W;cases e;refine⟨Φ,D,ch,F,M,q.1,q.2,en,h1,λvs F' H' Ha a r=>?_⟩;have hv:=my r h2;obtain _|⟨j,_|⟨_,_⟩⟩:=is<;>first|(simp[Qh]at O;done)|skip
 .have O:(if cM j then Z (au 0 j.toNat)else J)=Z ds:=O;split at O<;>cases O
  rename_i hb;have:=uX hb;exact⟨j,hv,this.1,this.2,k _ _ F' H' Ha a (LN.walk (ag.map (λ_=>bI) _)) λ_ _=>trivial⟩
noncomputable def iN(f:Fg):FM (B Dt):=λD ch=>(f D ch).bind λp=>match p.1 with
 |.g (.e l)=>Z (ck 0 l,p.2)
 |.g (.t l)=>Z (ck 0 l,p.2)
 |_=>J
def yM(W:X.K=G.K)(h:aI sc "enumerate"=C)(hm:X.mg "enumerate"=J)(ha:GE G X x f)(e1:ba X sc)(hs:Hn [x] X.env=[(ξ,eval x X.env)]):GI G X (.Tuple elts n LL) (.Call (.Name "enumerate" p) [x] [] pos) (iN f):=PI.mono (yF h hm (bo ha cC hs) e1 hs) λY H R U=>by
 have⟨Φ,D,ch,F,M,ds,G0,en,hf,k⟩:=U;have⟨⟨c,ch1⟩,h1,O⟩:=bS hf;dsimp only at O;refine⟨Φ,D,ch,F,M,c,ch1,en,h1,λv F' H' Ha a r=>?_⟩;have r:=r.1;split at O
 .cases O;rwa[HX,Hu,G2]at r;have⟨y,vs,rfl,q1,q2⟩:=r;rw[W];exact⟨C,y,vs,rfl,a.gh.fh.seq q1,k _ _ F' H' Ha a (jF (b:=true) q2) λH2 s=>s.seq q1⟩
 .cases O;rwa[HX,Hu,G2]at r;have⟨y,vs,rfl,q1,q2⟩:=r;rw[W];exact⟨ξ,y,vs,rfl,a.gh.fh.tup q1,k _ _ F' H' Ha a (jF (b:=false) q2) λH2 s=>s.tup q1⟩
 .cases O
end
noncomputable def bJ(b:Dt->Sl->ζ Sl)(g:Fs):B Dt->Fs
 |[],D,ch=>Z (.nx D ch)
 |d::r,D,ch=>(b d D).bind λU=>(g U ch).bind λo=>match o with
  |.nx O ch2=>bJ b g r O ch2
  |.ct O ch2=>bJ b g r O ch2
  |.bk O ch2=>Z (.nx O ch2)
  |.rt c ch2=>Z (.rt c ch2)
def rT(fi:FM (B Dt))(b:Dt->Sl->ζ Sl)(g:Fs):Fs:=λD ch=>(fi D ch).bind λp=>bJ b g p.1 D p.2
noncomputable def NE.at(Φ:NE)(F1:Hp)(Hh:Nat->J4)(ch1:CH):NE:=⟨F1,Φ.H,Hh,ch1⟩
def Iv.back{F0 W F1 F:Hp}{U:Nat->J4}{O ch1:CH}(a:Iv G F0 W U O F1 H1 Hh ch1)(b:Iv G F1 W Hh ch1 F H M ch):Iv G F0 W U O F H M ch where
 gh:=b.gh
 len:=JS a.len b.len
 ext:=λi hi=>(b.ext i (KG hi a.len)).trans (a.ext i hi)
 fr:=λi h1 h2=>by
  by_cases hi:i<ch1.length
  .rw[b.ext i hi];exact a.fr i h1 hi
  .exact b.fr i (Mm.mp hi) h2
 Jd:=λx o h1 h2=>b.Jd x o h1 λi hi e=>by
  by_cases hj:i<O.length
  .rw[a.ext i hj]at e;exact h2 i hj e
  .rw[<- e,a.fr i (Mm.mp hj) hi]at h1;cases h1
 old:=a.old.trans b.old
 nw:=λx o h=>(b.nw x o h).elim (a.nw x o) .inr
 hs:=b.hs
def Ge.at{F1:Hp}(en:Ge G Φ D ch Y F1 H M):Ge G (Φ.at F1 M ch) D ch Y F1 H M:={en with ad:=⟨en.ad.gh,nL _,λ_ _=>rfl,λi h1 h2=>absurd h2 (Mm.mpr h1),λb o h1 h2=>en.ad.Jd b o h1 λi hi e=>h2 i (KG hi en.ad.len) ((en.ad.ext i hi).trans e),rp.refl _,λ_ _ h=>.inl h,en.ad.hs⟩}
def Ge.back{Hi:Sl}{G0:CH}{O:St}{F1 F:Hp}{Ha:Nat->J4}(en:Ge G Φ D ch Y F1 H1 Hh)(e:Ge G (Φ.at F1 Hh ch) Hi G0 O F H Ha):Ge G Φ Hi G0 O F H Ha:={e with ad:=en.ad.back e.ad}
def LQ.at{F1:Hp}{δ:Kx}{o:Og}(en:Ge G Φ D ch Y F1 H M)(k:LQ G Φ δ o):LQ G (Φ.at F1 M ch) δ o:=by
 cases o with
 |nx Hi G0=>exact λO F H M e=>k O F H M (en.back e)
 |bk Hi G0=>exact λO F H M e=>k O F H M (en.back e)
 |ct Hi G0=>exact λO F H M e=>k O F H M (en.back e)
 |rt c G0=>exact λv F H M a r=>k v F H M (en.ad.back a) r
variable{body:B J6}{fi:FM (B Dt)}{g:Fs}{pt:Pt}{c:J8}{tc:FM Bool}
def CL(hp:PassesOwn (model X.prog X.w) X.A X.env X.xe)(hc:X.calm=C)(hi:GI G X tg iter fi)(hg:GP G X tg pt)(hb:GS G X body g)(hs:∀x,Pe iter X.env x=pure x):KA G X (.For tg iter body [] pos) (rT fi (Hq pt) g):=PS.mono (Bs hp hc hi hg hb hs) λδ Y H hq10=>by
 have⟨Φ0,D,ch,F,M,o,en,Mx,k0⟩:=hq10;have⟨⟨ds,ch1⟩,hd,Rl⟩:=bS Mx;rw[yh];refine⟨Φ0,D,ch,F,M,ds,ch1,en,hd,λψ ok F1 H1 Hh a1 wd ho=>?_⟩;have k:=LQ.at (en.G1 a1) k0;refine uv (n:=ds.length) (λi K0 H'=>∃ Hi G0 F' Ha,Ge G (Φ0.at F1 Hh ch1) Hi G0 K0 F' H' Ha/\bJ (Hq pt) g (ds.drop i) Hi G0=Z o) ⟨D,ch1,F1,Hh,(en.G1 a1).at,‹Rl›⟩ (λi K0 H' ⟨Hi,G0,F',Ha,O,_⟩=>?_) ?_ ?_
 .have⟨p1,p2,_⟩:=wd i H' F' (ho H' (O.ad.old.trans O.gh.fh)) O.gh.fh O.ad.old;exact⟨p1,p2⟩
 .rintro i x K0 H' H'' hi ⟨Hi,G0,F',Ha,O,U⟩ hy;have⟨_,_,p3⟩:=wd i H' F' (ho H' (O.ad.old.trans O.gh.fh)) O.gh.fh O.ad.old;have⟨d,F2,T4,Sq,rd⟩:=p3 x H'' hi hy;rw[o5 T4]at U;have⟨OT,h1,Pw⟩:=bS U;have⟨o1,h2,W⟩:=bS Pw;refine⟨_,Hi,G0,F2,Ha,d,OT,O.G1 (.of O.gh Sq),rd,h1,λσ1 Rm _=>⟨_,OT,G0,F2,Ha,o1,Rm,h2,?_⟩⟩;cases o1 with
  |nx Oe ch2=>exact λSB F2 H2 IF Ro=>⟨Oe,ch2,F2,IF,Ro,W⟩
  |ct Oe ch2=>exact λSB F2 H2 IF Ro=>⟨Oe,ch2,F2,IF,Ro,W⟩
  |bk Oe ch2=>cases W;exact k
  |rt c ch2=>cases W;exact k
 .rintro K0 H' ⟨Hi,G0,F',Ha,O,U⟩;rw[V6]at U;cases U;exact k K0 F' H' Ha O
end
noncomputable def gC(src:B (ζ Nat))(D:Sl):Sl:=src.map λo=>(o.bind λj=>(D[j]?).join).map lent
def aF(b:Dt->Sl->ζ Sl)(ft:FM Bool)(fe:Fg)(MD:Sl):B Dt->CH->ζ (B CV×CH)
 |[],ch=>Z ([],ch)
 |d::r,ch=>(b d MD).bind λO=>(ft O ch).bind λp=>if p.1 then(fe O p.2).bind λq=>if q.1.sol then(aF b ft fe MD r q.2).map λz=>(q.1::z.1,z.2)else J else aF b ft fe MD r p.2
def Jj(m:Md)(src:B (ζ Nat))(fi:FM (B Dt))(b:Dt->Sl->ζ Sl)(ft:FM Bool)(fe:Fg):Fg:=λD ch=>(fi D ch).bind λp=>(aF b ft fe (gC src D) p.1 p.2).bind λq=>if q.1.length<=G6 then finL m q.1 q.2 else J
section
variable{G:Gx}{Φ:NE}{F H F' H' F1 H1:Hp}{M Ha Hh:Nat->J4}{ch G0 ch1:CH}{src:B (ζ Nat)}{D:Sl}{Y:St}{δ:J4}{done:B CV}{ys:B V}{m:Md}{Q:VK}
def nV{k:Nat}{c:CV}(h:(gC src D)[k]?=Z (Z c)):∃j c',src[k]?=Z (Z j)/\D[j]?=Z (Z c')/\c=lent c':=by
 unfold gC at h;rw[HZ]at h;cases e:src[k]? with
 |none=>rw[e]at h;cases h
 |some o=>
  rw[e]at h;cases o with
  |none=>cases h
  |some j=>
   rwa[Iy,G8,We]at h;have⟨c',h1,rfl⟩:=mS h;refine⟨j,c',rfl,?_,rfl⟩;cases q:D[j]? with
   |none=>rw[q]at h1;cases h1
   |some u=>rw[q]at h1;rwa[Wc]at h1;rw[h1]
def HX.lent{n:Nat}{c:CV}{v:V}(h:HX G F H M n c v):HX G F H M n (lent c) v:=by cases c<;>exact h
def mz{c:CV}{t:T}:lent c≠.own C t:=λe=>by cases c<;>cases e
def Ge.comp(en:Ge G Φ D ch Y F H M):Ge G ⟨F,H,M,ch⟩ (gC src D) ch (Ka src Y) F H M:=⟨.refl en.gh,by simp[gC,Ka],λk c h=>by have⟨j,O,h1,h2,rfl⟩:=nV h;have⟨v,U,h4⟩:=en.has j O h2;exact⟨v,yl h1 U,h4.lent⟩,λk t a h=>by have⟨_,_,_,_,e⟩:=nV h;exact absurd e.symm mz,λk j t u b a _ h=>by have⟨_,_,_,_,e⟩:=nV h;exact absurd e.symm mz⟩
structure Bd(G:Gx)(F1 H1:Hp)(Hh:Nat->J4)(ch1:CH)(δ:J4)(F H:Hp)(M:Nat->J4)(ch:CH)(done:List CV)(ys:List V):Prop where
 G1:Iv G F1 H1 Hh ch1 F H M ch
 hD:H δ=Z (.e ys)
 fD:F δ=J
 nD:∀i,i<ch.length->M i≠δ
 rel:G9 G F M ch.length done ys
def Bd.step(b:Bd G F1 H1 Hh ch1 δ F H M ch done ys)(a:Iv G F H M ch F' H' Ha G0):Bd G F1 H1 Hh ch1 δ F' H' Ha G0 done ys:=by
 have w:Lq G F H M ch.length (.e []) (.ref δ)->True:=λ_=>trivial
 refine⟨b.G1.trans a,a.Jd δ _ b.hD λi hi=>b.nD i hi,?_,λi hi e=>?_,b.rel.mono a.old a.ext a.len⟩
 .cases q:F' δ with
  |none=>rfl
  |some o=>
   rcases a.nw δ o q with z|z|⟨xs,z⟩|⟨_,xs,z⟩
   .rw[b.fD]at z;cases z
   .rw[b.hD]at z;cases z
   .subst z;have O:=a.gh.fh _ _ q;rw[a.Jd δ _ b.hD λi hi=>b.nD i hi]at O;cases O
   .subst z;have O:=a.gh.fh _ _ q;rw[a.Jd δ _ b.hD λi hi=>b.nD i hi]at O;cases O
 .by_cases h:i<ch.length
  .rw[a.ext i h]at e;exact b.nD i h e
  .have:=a.fr i (Mm.mp h) hi;rw[e,b.hD]at this;cases this
def Bd.more(O:H1 δ=J)(b:Bd G F1 H1 Hh ch1 δ F H M ch done ys){c:CV}{v:V}(r:Hu G F M ch.length c v):Bd G F1 H1 Hh ch1 δ F (upd H δ (.e (ys++[v]))) M ch (done++[c]) (ys++[v]) where
 G1:=⟨⟨λx o e=>by
     rw[aa λz=>by rw[z,b.fD]at e;cases e];exact b.G1.gh.fh x o e,b.G1.gh.inj,b.G1.gh.out,λi o h=>(b.G1.gh.ok i o h).mono (rp.refl _) (λ_ _=>rfl) (nL _) λu U=>by
     rw[aa (b.nD i (af h))];exact U⟩,b.G1.len,b.G1.ext,b.G1.fr,λx o h1 h2=>by
     rw[aa λz=>by rw[z,O]at h1;cases h1];exact b.G1.Jd x o h1 h2,b.G1.old,b.G1.nw,λx h=>by
     by_cases z:x=δ
     .rw[z,ac]at h;cases h
     .rw[aa z]at h;exact b.G1.hs x h⟩
 hD:=ac
 fD:=b.fD
 nD:=b.nD
 rel:=Paired.app b.rel (.cons r .nil)
omit x in
def Bd.fin{c:CV}(W:H1 δ=J)(b:Bd G F1 H1 Hh ch1 δ F H M ch done ys)(U:finL m done ch=Z (c,G0))(k:KM G RV F1 H1 Hh ch1 c G0 Q):Q (.ref δ) H:=by
 have place:KM G RV F1 H1 Hh ch1 (.ref ch.length) (ch++[.e done]) Q->Q (.ref δ) H:=λk=>by
  have lt:∀{i:Nat},i<ch.length->(if i=ch.length then δ else M i)=M i:=λ{i} hi=>if_neg (IS hi)
  have g:=b.G1.gh
  have key:∀i x,(ch++[CO.e done])[i]?=Z x->(i<ch.length/\ch[i]?=Z x)\/(i=ch.length/\x=.e done):=λi x O=>by
   by_cases h1:i<ch.length
   .rw[gL h1]at O;exact .inl ⟨h1,O⟩
   .rw[gR (Mm.mp h1)]at O;have h2:i=ch.length:=by have:=af O;simp at this;lia
    subst h2;simp at O;exact .inr ⟨rfl,O.symm⟩
  refine k.sol (F':=F) (H':=H) (Ha:=λi=>if i=ch.length then δ else M i) ⟨⟨g.fh,λi j hi hj e=>?_,λi x O hl=>?_,λi x O=>?_⟩,by have:=b.G1.len;simp;lia,λi hi=>?_,λi h1 h2=>?_,b.G1.Jd,b.G1.old,b.G1.nw,b.G1.hs⟩ ⟨Ξ,Ξ⟩
  .rwa[Kj,JK,Ny]at hi hj;by_cases h1:i=ch.length<;>by_cases h2:j=ch.length
   .rw[h1,h2]
   .rw[if_pos h1,if_neg h2]at e;exact absurd e.symm (b.nD j Θ)
   .rw[if_neg h1,if_pos h2]at e;exact absurd e (b.nD i Θ)
   .rw[if_neg h1,if_neg h2]at e;exact g.inj i j Θ Θ e
  .rcases key i x O with ⟨h1,h2⟩|⟨h1,h2⟩
   .rw[lt h1];exact g.out i x h2 hl
   .rw[if_pos h1];exact b.fD
  .rwa[Kj,JK,Ny];rcases key i x O with ⟨h1,h2⟩|⟨h1,h2⟩
   .rw[lt h1];exact(g.ok i x h2).mono (rp.refl _) (λj hj=>lt hj) (OC _) λu hu=>hu
   .subst h1;subst h2;rw[if_pos rfl];exact⟨ys,b.hD,b.rel.mono (rp.refl _) (λj hj=>lt hj) (OC _)⟩
  .rw[lt (KG hi b.G1.len)];exact b.G1.ext i hi
  .rwa[Kj,JK,Ny]at h2;by_cases h3:i=ch.length
   .rw[if_pos h3];exact W
   .rw[if_neg h3];exact b.G1.fr i h1 Θ
 unfold finL at U;split at U
 .rename_i ds hd;have rs:=aS hd b.rel;cases m with
  |o=>have e:=cF hd;cases U;rw[<- e]at k;exact place k
  |w=>cases U;exact k _ F H M b.G1 ⟨⟨δ,rfl,rfl,⟨δ,ys,rfl,rfl,b.hD,rs⟩,b.fD,b.nD⟩,λ_ _ a e=>by cases e;exact W⟩
  |v=>
   cases U;have ff:rp F (upd F δ (.e ys)):=λx o e=>by rw[aa λz=>by rw[z,b.fD]at e;cases e];exact e
   refine k.sol (F':=upd F δ (.e ys)) (H':=H) (Ha:=M) ⟨⟨λx o e=>?_,b.G1.gh.inj,λi x O hl=>?_,λi x O=>(b.G1.gh.ok i x O).mono ff (λ_ _=>rfl) (nL _) λ_ h=>h⟩,b.G1.len,b.G1.ext,b.G1.fr,b.G1.Jd,b.G1.old.trans ff,λx o h=>?_,b.G1.hs⟩ ?_
   .by_cases z:x=δ
    .subst z;rw[ac]at e;cases e;exact b.hD
    .rw[aa z]at e;exact b.G1.gh.fh x o e
   .rw[aa (b.nD i (af O))];exact b.G1.gh.out i x O hl
   .by_cases z:x=δ
    .subst z;exact .inr (.inl W)
    .rw[aa z]at h;exact b.G1.nw x o h
   .show G2 G.K _ (.e ds) (.ref δ);rwa[G2];exact⟨δ,ys,rfl,Id.of ac,rs.same ff⟩
 .split at U<;>cases U
  exact place k
end
section
variable{G:Gx}{X:Cx}{elt tg iter:J8}{ifs:B J8}{scope:J9}{pos:Pos}{ρ:B Str}{src:B (ζ Nat)}{fi:FM (B Dt)}{ft:FM Bool}{fe:Fg}{m:Md}{pt:Pt}
omit x in
def pk(UM:(pt.slots.all λk=>decide (src[k]?=Z J))=C)(Y:St)(H:Hp)(Q:VK)(h:tM G RV (Jj m src fi (Hq pt) ft fe) Y H Q):jw src (tI G fi) (tP G (Hq pt) pt.slots) (tM G RB ft) (tM G RV fe) Y H Q:=by
 have⟨Φ,D,ch,F,M,c,G0,en,hf,k0⟩:=h;have⟨⟨ds,ch0⟩,hd,Rp⟩:=bS hf;have⟨⟨all,ch2⟩,ha,Nn⟩:=bS Rp;dsimp only at ha Nn;rcases Nn
 rename_i hz;rw[ui];refine⟨Φ,D,ch,F,M,ds,ch0,en,hd,λψ ok F1 H1 Hh a1 wd ho δ hD=>?_⟩;have Rm:=en.G1 a1;have k:=k0.G1 a1
 have wk:∀{SB:St},Nl pt.slots (Ka src Y) SB->Wk (Ka src Y) SB:=λ{SB} ho=>by
  refine⟨ho.1.symm,λj v hj=>?_⟩;by_cases hm:j∈pt.slots
  .have hn:src[j]?=Z J:=of_decide_eq_true (Kk.mp UM j hm);have⟨i,e,_⟩:=B5 hj;rw[hn]at e;cases e
  .rw[ho.2 j hm];exact hj
 refine rH (n:=ds.length) (λi H=>∃F Ha c' ys done O,Bd G F1 H1 Hh ch0 δ F H Ha c' done ys/\aF (Hq pt) ft fe (gC src D) (ds.drop i) c'=Z (O,ch2)/\done++O=all) ?_ ?_ ?_ ?_
 .refine⟨F1,Hh,ch0,[],[],all,⟨.of Rm.gh (HD.made Rm.gh.fh hD),ac,Rm.gh.fh.free hD,λi hi e=>?_,.nil⟩,‹ha›,rfl⟩;have⟨u,hu⟩:=Rm.gh.at hi;rw[e,hD]at hu;cases hu
 .rintro i H' ⟨F',Ha,c',ys,done,O,b,_⟩;have⟨p1,p2,_⟩:=wd i H' F' (ho H' (b.G1.old.trans b.G1.gh.fh)) b.G1.gh.fh b.G1.old;exact⟨p1,p2⟩
 .rintro i x H0' H' hi ⟨F0',ρ0,c0,ys,done,O,b0,Mx,U⟩ hy0;have⟨_,_,p3⟩:=wd i H0' F0' (ho H0' (b0.G1.old.trans b0.G1.gh.fh)) b0.G1.gh.fh b0.G1.old;have⟨d,F',T4,stw,rd⟩:=p3 x H' hi hy0;have b1:=b0.step (.of b0.G1.gh stw);have Ro:=(Rm.G1 b1.G1).comp (src:=src);rw[o5 T4]at Mx;have⟨OT,h1,Rl⟩:=bS Mx;have⟨p,h2,W⟩:=bS Rl;refine⟨_,_,c0,F',ρ0,d,OT,Ro,rd,h1,λSB en3 on=>⟨wk on,_,OT,c0,F',ρ0,p.1,p.2,en3,h2,λbb F3 H3 Ps a3 r3=>?_⟩⟩;cases r3;have b2:=b1.step a3;cases q:p.1 with
  |false=>rw[q]at W;exact⟨F3,Ps,p.2,ys,done,O,b2,W,U⟩
  |true=>
   rw[q,if_pos rfl]at W;rw[if_pos rfl];have⟨e,h4,Pw⟩:=bS W;rcases Pw
   rename_i hs;have⟨z,h5,hgo4⟩:=mS Pw;cases hgo4;refine⟨_,OT,p.2,F3,Ps,e.1,e.2,en3.G1 a3,h4,λv F4 H4 ρ4 a4 r4=>?_⟩;have b3:=b2.step a4;refine⟨ys,b3.hD,?_,F4,ρ4,e.2,ys++[v],done++[e.1],z.1,b3.more hD (r4.1.s hs),h5,‹U›⟩;have:done.length<all.length:=by rw[<- U];simp
   rw[b3.rel.length];exact KG this hz
 .rintro H' ⟨F',Ha,c',ys,done,O,b,Mx,U⟩;rw[V6]at Mx;cases Mx;rw[LY]at U;subst U;exact b.fin hD Nn k
end
variable{p2:Pos}
section
variable{G:Gx}{X:Cx}{elt tg iter:J8}{ifs:B J8}{scope:J9}{pos Nk py apos G5 p:Pos}{ρ:B Str}{src:B (ζ Nat)}{fi:FM (B Dt)}{ft:FM Bool}{f fa fe fk:Fg}{fs:FM (B CV)}{m:Md}{pt:Pt}{i:Nat}{e o a:J8}{es:B J8}{sc:J9}{x:Str}
noncomputable def IN:FM Bool:=λ_ ch=>Z (C,ch)
def Xc(G:Gx)(X:Cx)(ifs:B J8)(f:FM Bool):Prop:=Qo X ifs (tM G RB f)
def pq:Xc G X [] IN:=λJ0 s Y H Q I h=>ye J0 s Y H Q I (h.ret λ_ _ _=>rfl)
def pw{c:J8}{f:FM Bool}(h:GT G X c f):Xc G X [c] f:=yf h
def yN (S:HB X.N X.env.scope scope ρ src) (hc:X.calm=C) (hi:GI G X tg iter fi) (hg:ρ.Nodup->∀ θ s H ex,GP G (JE X ρ scope θ s H ex) tg pt) (ht:∀ θ s H ex,Xc G (JE X ρ scope θ s H ex) ifs ft)
  (W:∀θ s H ex,GE G (JE X ρ scope θ s H ex) elt fe) (O:(pt.slots.all λk=>decide (src[k]?=Z J))=C) (hs:∀x,Pe iter X.env x=pure x):GE G X (.ListComp elt [⟨tg,iter,ifs,0⟩] scope pos) (Jj m src fi (Hq pt) ft fe):=
 PE.mono (uf S hc hi (λU θ s H ex=>hg U θ s H ex) (λθ s H ex=>ht θ s H ex) (λθ s H ex=>W θ s H ex) hs) (pk O)
omit x in
def yO(h:cc sc N i x=C)(hl:mi sc x=C)(W:N.Nodup)(e1:ba X sc)(e2:X.N=N)(hf:X.fn x=C\/X.env.scope.names.lookup x=Z .local)
 (S:HB X.N X.env.scope scope ρ src) (hc:X.calm=C) (hi:GI G X tg iter fi) (hg:ρ.Nodup->∀θ s H ex,GP G (JE X ρ scope θ s H ex) tg pt) (ht:∀θ s H ex,Xc G (JE X ρ scope θ s H ex) ifs ft)
 (he:∀θ s H ex,GE G (JE X ρ scope θ s H ex) elt fe) (UM:(pt.slots.all λk=>decide (src[k]?=Z J))=C) (hs:∀x,Pe iter X.env x=pure x)
 (U:LD (.ListComp elt [⟨tg,iter,ifs,0⟩] scope pos) (Z (.Name x py)) Nk.line X.env=pure C):KA G X (.Assign [.Name x py] (.ListComp elt [⟨tg,iter,ifs,0⟩] scope pos) Nk) (ja i (Jj m src fi (Hq pt) ft fe)):=by
 subst e2;refine PS.mono (yG W (hZ h) (by rw[e1];exact nI hl) hf S hc hi (λW θ s H ex=>hg W θ s H ex) (λθ s H ex=>ht θ s H ex) (λθ s H ex=>he θ s H ex) hs U) λδ Y H ⟨Φ,D,ch,F,M,o,en,hg,k⟩=>?_
 have⟨p,h1,O⟩:=bS hg;split at O<;>cases O
 rename_i hk;exact pk UM Y H _ ⟨Φ,D,ch,F,M,p.1,p.2,en,h1,λv F' H' Ha a r=>k _ F' H' Ha (en.put a r.1 r.2 hk i)⟩
def L8:ζ Fg->FM (ζ Int)
 |none=>λ_ ch=>Z (J,ch)
 |some f=>λD ch=>(f D ch).bind λp=>(cj p.1).map λi=>(Z i,p.2)
def KN(m:Md)(fa:Fg)(lo hi:ζ Fg):Fg:=λD ch=>(fa D ch).bind λp=>(L8 lo D p.2).bind λq=>(L8 hi D q.2).bind λr=>(vw r.2 p.1).bind λd=>(Ng d q.1 r.1).bind (fin m r.2)
def RO:RL (ζ Int) (ζ Int):=λ_ _ _ _ _ _ a b=>a=b
def yP:PO X J (tM G RO (L8 J)):=λJ0 s Y H Q I h=>xV J0 s Y H Q I (h.ret λ_ _ _=>rfl)
def yQ(h:GE G X e f):PO X (Z e) (tM G RO (L8 (Z f))):=λJ0 s Y H Q I KJ=>by have⟨Φ,D,ch,F,M,c,G0,en,U,k⟩:=KJ;exact xW h J0 s Y H Q I (by have⟨p,h1,O⟩:=bS U;have⟨j,h2,q⟩:=mS O;cases q;exact⟨Φ,D,ch,F,M,p.1,p.2,en,h1,λv F' H' Ha a r=>⟨j,eR h2 r.1,k _ F' H' Ha a rfl⟩⟩)
theorem uY{lo hi:ζ J8}{W U:ζ Fg}(hK:X.K=G.K)(he:GE G X e f)(hl:PO X lo (tM G RO (L8 W)))(hh:PO X hi (tM G RO (L8 U))):GE G X (.Subscript e (.Slice lo hi J p2) pos) (KN m f W U):=PE.mono (tL Ca he hl hh) λY H Q LG=>by have⟨Φ,D,ch,F,M,c,G0,en,hf,k⟩:=LG;have⟨p,h1,Nn⟩:=bS hf;have⟨q,h2,UN⟩:=bS Nn;have⟨r,h3,UO⟩:=bS UN;have⟨d,h4,hf5⟩:=bS UO;have⟨t,h5,hf6⟩:=bS hf5;refine⟨Φ,D,ch,F,M,_,_,en,h1,λv F1 H1 Hh a1 r1=>⟨Φ,D,_,F1,Hh,_,_,en.G1 a1,h2,λl F2 H2 IF a2 r2=>⟨Φ,D,_,F2,IF,_,_,(en.G1 a1).G1 a2,h3,λu F3 H3 Ps O r3=>?_⟩⟩⟩;cases r2;cases r3;rw[hK];exact r_sl O.gh.fh (aJ O.gh ((r1.1.G1 a2).G1 O) h4) h5 (bP O.gh hf6 (((k.G1 a1).G1 a2).G1 O))
def kB(m:Md)(g:B Dt->ζ T):B CV->Fg:=λcs _ ch=>(vws ch cs).bind λds=>(g ds).bind (fin m ch)
def eB(m:Md)(g:B Dt->ζ T)(fs:FM (B CV)):Fg:=λD ch=>(fs D ch).bind λp=>kB m g p.1 D p.2
def Aq{r:B V->Hp->VK->Prop}{g:B Dt->ζ T}(U:OP G.K r g){Q:VK}(h:tK G RV (kB m g) Y vs H Q):r vs H Q:=by have⟨Φ,D,ch,F,M,cs,c,G0,en,W,O,k⟩:=h;have⟨ds,h1,O⟩:=bS O;have⟨t,h2,O⟩:=bS O;exact U F H ds vs Q t en.gh.fh (fR en.gh W h1) h2 (bP en.gh O k)
theorem uZ{id:String}{r:B V->Hp->VK->Prop}{g:B Dt->ζ T}(h:aI sc x=C)(hc:Hx X (.builtin id) r)(hr:OP G.K r g)(hm:X.mg x=J)(hv:LZ x=Z (.builtin id))(W:GA G X (e::es) fs)(U:ba X sc)(he:Hn (e::es) X.env=(ξ,eval e X.env)::Hn es X.env)(O:(IK pos (Hn es X.env)).any (·.1)=ξ):GE G X (.Call (.Name x p) (e::es) [] pos) (eB m g fs):=PE.mono (jz h hc hm hv W U he O) λY H Q h=>(tK.args (k:=kB m g) h).imp λ_ _=>Aq hr
theorem vb{Ty:String}{r:B V->Hp->VK->Prop}{g:B Dt->ζ T}(h:aI sc x=C)(hc:Hx X (.type Ty) r)(hr:OP G.K r g)(hm:X.mg x=J)(hv:LZ x=Z (.type Ty))(W:GA G X (e::es) fs)(U:ba X sc)(he:Hn (e::es) X.env=(ξ,eval e X.env)::Hn es X.env)(O:(IK pos (Hn es X.env)).any (·.1)=ξ):GE G X (.Call (.Name x p) (e::es) [] pos) (eB m g fs):=PE.mono (dM h hc hm hv W U he O) λY H Q h=>(tK.args (k:=kB m g) h).imp λ_ _=>Aq hr
def UP(c:String)(f:Fg):Fg:=λD ch=>(f D ch).bind λp=>(vw p.2 p.1).bind λd=>Z (.g (.bl (c9 c d)),p.2)
def rV{cn:Str}{cs:String}{p1:Pos}(hK:X.K=G.K)(h:aI sc "isinstance"=C)(W:aI sc cn=C)(hm:X.mg "isinstance"=J)(U:X.mg cn=J)(hv:LZ cn=Z (.type cs))(hk:kG X.K cs)(ha:GE G X a fa)(e1:ba X sc)
 (he:Hn [a,.Name cn p2] X.env=(ξ,eval a X.env)::Hn [.Name cn p2] X.env) (Nj:Hn [.Name cn p2] X.env=(ξ,eval (.Name cn p2) X.env)::Hn [] X.env) (T8:(IK pos (Hn [.Name cn p2] X.env)).any (·.1)=ξ) :
  GE G X (.Call (.Name "isinstance" p1) [a,.Name cn p2] [] pos) (UP cs fa):=
 PE.mono (jz h nR hm i7 (bo ha (bo (uq (v:=.ty cs) W U hv rfl e1) cC Nj) he) e1 he T8) λY H Q O=>by have⟨Φ,D,ch,F,M,c,G0,en,hf,k⟩:=O;have⟨p,hp,Rp⟩:=bS hf;have⟨d,hd,Nn⟩:=bS Rp;cases Nn;exact⟨Φ,D,ch,F,M,p.1,p.2,en,hp,λv F' H' Ha a r=>⟨v,cs,d,_,rfl,by rw[hK];exact(aJ a.gh r.1 hd).rep a.gh.fh,rfl,hk d rfl,k.sol a (by show G2 G.K F' _ _;exact kz)⟩⟩
def Rq(m:Md)(g:Dt->B Dt->ζ T)(fa:Fg)(fs:FM (B CV)):Fg:=λD ch=>(fa D ch).bind λp=>match p.1 with
 |.g (.str z)=>(fs D p.2).bind λq=>(vws q.2 q.1).bind λds=>(g (.str z) ds).bind (fin m q.2)
 |_=>J
omit x in
def CM {name:Str} {id:String} {r:V->B V->Hp->VK->Prop} {g:Dt->B Dt->ζ T} (slot:Slot "str" name id) (Ug:typeOf (.builtin id)=pure (.type "method_descriptor")) (hm:Sr X id r) (hr:MRD G.K r g) (ho:GE G X o fa) (ha:GA G X (e::es) fs)
  (Of:NQ o name X.env (eval o X.env)=eval o X.env)
  (Q3:((IK G5 (Hn (e::es) X.env)).all (λx=>!x.1)&&(MO G5 (MN [] X.env)).all (λx=>x.1.isSome)
   && decide ((e::es).length+([]:B NV).length+(if([]:B NV).isEmpty then 0 else 1)<30))=C)
  (W:(apos.endLine==G5.line)=C) (hs:Hn (e::es) X.env=(ξ,eval e X.env)::Hn es X.env) (U:(IK G5 (Hn es X.env)).any (·.1)=ξ) :
  GE G X (.Call (.Attribute o name apos) (e::es) [] G5) (Rq m g fa fs):=PE.mono (ma PySem.F.plainAttrs_str slot Ug hm ho ha Of Q3 W hs U) λY H Q hq5=>by
 have⟨Φ,D,ch,F,M,c,G0,en,hf,k⟩:=hq5;have⟨⟨c1,ch1⟩,h1,O⟩:=bS hf;dsimp only at O;rcases O
 rename_i z;have⟨q,h2,UN⟩:=bS O;have⟨ds,h3,UO⟩:=bS UN;have⟨t,h4,hf5⟩:=bS UO;refine⟨Φ,D,ch,F,M,_,_,en,h1,λv F1 H1 Hh a1 r1=>?_⟩;have r1:=r1.1;have rv:v=.str z:=by simpa only[HX,Hu,G2] using r1
 subst rv;exact⟨rfl,Φ,D,_,F1,Hh,_,_,en.G1 a1,h2,λus F2 H2 IF a2 r2=>hr F2 H2 (.str z) _ ds us Q t a2.gh.fh (HK.of a2.gh.fh eM) (fR a2.gh r2 h3) h4 (bP a2.gh hf5 ((k.G1 a1).G1 a2))⟩
def Xd(m:Md)(t:Bool):Fg:=λ_ ch=>fin m ch (if t then .HJ []else .HC [])
def yR{t:Bool}:GE G X (.Dict [] [] pos) (Xd m t):=by
 cases t with
 |false=>exact PE.mono tX λY H Q W p hp=>by have⟨Φ,D,ch,F,M,c,G0,en,U,k⟩:=W;exact bP (t:=.HC []) en.gh U k _ _ F (λb=>b=p) (HD.made en.gh.fh hp) ⟨p,[],rfl,rfl,ac,rfl,by simp[ag]⟩ λb z=>by subst z;exact⟨en.gh.fh.free hp,hp,_,ac,nofun⟩
 |true=>exact PE.mono tY λY H Q O p hp=>by have⟨Φ,D,ch,F,M,c,G0,en,U,k⟩:=O;exact bP (t:=.HJ []) en.gh U k _ _ F (λb=>b=p) (HD.made en.gh.fh hp) ⟨p,[],rfl,rfl,ac,rfl,by simp[ag]⟩ λb z=>by subst z;exact⟨en.gh.fh.free hp,hp,_,ac,nofun⟩
def getV(ch:CH)(x:CV)(k:Dt)(z:CV):ζ CV:=match x with
 |.ref i=>match ch[i]? with
  |some (.dK l)=>(ci k).map λk=>(Jy l k).getD z
  |some (.dT l)=>(Qp k).map λk=>(Jy l k).getD z
  |_=>J
 |x=>(vw ch x).bind λx=>(bG x k).map λr=>(r.map .g).getD z
def im(ch:CH)(x:CV):Bool:=match x with
 |.ref i=>match ch[i]? with
  |some (.dK _)|some (.dT _)=>C
  |_=>ξ
 |x=>match vw ch x with
  |some (.HC _ _)|some (.HJ _ _)=>C
  |_=>ξ
def UQ(fa fk fe:Fg):Fg:=λD ch=>(fa D ch).bind λp=>if im p.2 p.1 then(fk D p.2).bind λq=>(fe D q.2).bind λr=>(vw r.2 q.1).bind λk=>if r.1.sol then(getV r.2 p.1 k r.1).map λc=>(c,r.2)else J else J
def yS{F:Hp}{c:CV}{v:V}(g:Gh G F H M ch)(r:HX G F H M ch.length c v)(h:im ch c=C):∃a,v=.ref a/\WW H a:=by
 have O:∀d,vw ch c=Z d->(match (Z d:ζ Dt)with|some (.HC _ _)|some (.HJ _ _)=>C|_=>ξ)=C->∃a,v=.ref a/\WW H a:=λd hd h=>by
  have W:=aJ g r hd;cases d with
  |HC ks l=>have⟨a,J1,e,q,_⟩:=W;exact⟨a,e,.inl ⟨J1,q⟩⟩
  |HJ ks l=>have⟨a,J1,e,q,_⟩:=W;exact⟨a,e,.inr ⟨J1,.of q⟩⟩
  |_=>cases h
 cases c with
 |ref i=>
  have⟨hi,rfl⟩:=r;cases q:ch[i]? with
  |none=>simp[im,q]at h
  |some o=>
   have U:=g.ok i o q;cases o with
   |dK l=>have⟨_,J1,e,_⟩:=U;exact⟨_,rfl,.inl ⟨J1,.of e⟩⟩
   |dT l=>have⟨_,J1,e,_⟩:=U;exact⟨_,rfl,.inr ⟨J1,.of e⟩⟩
   |_=>simp[im,q]at h
 |g d=>exact O d rfl h
 |own b t=>
  cases q:vw ch (.own b t)with
  |none=>simp[im,q]at h
  |some d=>exact O d q (by rwa[im]at h;rw[q]at h;exact h)
def yT{F:Hp}{x z c:CV}{k:Dt}{vz:V}(hI:dN G.K=C)(g:Gh G F H M ch)(rx:HX G F H M ch.length x vx)(rk:HK G.K F H k vk)(rz:Hu G F M ch.length z vz)(h:getV ch x k z=Z c):∃a o,vx=.ref a/\IM H a vk o/\Hu G F M ch.length c (o.getD vz):=by
 have U:(vw ch x).bind (λx=>(bG x k).map λr=>(r.map .g).getD z)=Z c->∃a o,vx=.ref a/\IM H a vk o/\Hu G F M ch.length c (o.getD vz):=λh=>by
  have⟨d,h1,h2⟩:=bS h;have⟨r,O,rfl⟩:=mS h2;have⟨a,o,e,hg,hm⟩:=ie hI g.fh (aJ g rx h1) rk O;refine⟨a,o,e,hg,?_⟩;cases r with
  |none=>rw[hm.2 rfl];exact rz
  |some y=>have⟨v,rfl,rv⟩:=hm.1 y rfl;exact rv
 have obj:∀{κ:Type}[DecidableEq κ]{n:Nat}{l:B (κ×CV)}{J1:B (κ×V)}{k:κ},J1.map (·.1)=l.map (·.1)->G9 G F M ch.length (l.map (·.2)) (J1.map (·.2))->Hu G F M ch.length ((Jy l k).getD z) ((bC J1 k).getD vz):=λ{κ _ n l J1 k} h2 O=>by
  have lk:=eS (k:=k) h2 O;cases q:Jy l k with
  |none=>rw[q]at lk;rw[lk];exact rz
  |some c=>rw[q]at lk;have⟨v,e,r⟩:=lk;rw[e];exact r
 cases x with
 |ref i=>
  have⟨hi,rfl⟩:=rx;cases q:ch[i]? with
  |none=>simp[getV,q]at h
  |some o=>
   have W:=g.ok i o q;cases o with
   |dK l=>rwa[getV,q]at h;have⟨j,hj,rfl⟩:=mS h;have⟨nd,J1,h1,h2,O⟩:=W;rw[cG rk hj];exact⟨_,_,rfl,IM.k h1,obj (n:=0) h2 O⟩
   |dT l=>rwa[getV,q]at h;have⟨j,hj,rfl⟩:=mS h;have⟨nd,J1,h1,h2,O⟩:=W;have⟨b,rfl,hb⟩:=fU hI hj rk;exact⟨_,_,rfl,IM.t h1 (g.fh _ _ hb),obj (n:=0) h2 O⟩
   |_=>simp[getV,q]at h
 |g d=>exact U h
 |own b t=>exact U h
omit x in
def yU{k:Nat}{ke:J8}(hI:dN G.K=C)(hr:Hg k X.A)(ho:GE G X o fa)(hk:GE G X ke fk)(he:GE G X e fe)(mm:M2 X o "get" apos ke e G5):GE G X (.Call (.Attribute o "get" apos) [ke,e] [] G5) (UQ fa fk fe):=PE.mono (ua (jt hr) ho hk he mm) λY H Q hq8=>by
 have⟨Φ,D,ch,F,M,c,G0,en,hf,k⟩:=hq8;have⟨p,h1,O⟩:=bS hf;rcases O
 rename_i hd;have⟨q,h2,UN⟩:=bS O;have⟨r,h3,UO⟩:=bS UN;have⟨d,h4,U⟩:=bS UO;rcases U
 rename_i hs;have⟨c',h5,e5⟩:=mS U;cases e5;refine⟨Φ,D,ch,F,M,_,_,en,h1,λv F1 H1 Hh a1 r1=>?_⟩;have⟨a,ea,da⟩:=yS a1.gh r1.1 hd;refine⟨a,ea,da,Φ,D,_,F1,Hh,_,_,en.G1 a1,h2,λw F2 H2 IF a2 r2=>⟨Φ,D,_,F2,IF,_,_,(en.G1 a1).G1 a2,h3,λu F3 H3 Ps W r3=>?_⟩⟩;have⟨b,o,eb,hg,rc⟩:=yT hI W.gh ((r1.1.G1 a2).G1 W) (aJ W.gh (r2.1.G1 W) h4) (r3.1.s hs) h5;rw[ea]at eb;cases eb;exact⟨o,hg,((k.G1 a1).G1 a2).sol W rc⟩
end
noncomputable def aV{κ:Type}[DecidableEq κ]:B (κ×CV)->κ->CV->B (κ×CV)
 |[],k,c=>[(k,c)]
 |p::l,k,c=>if p.1=k then(p.1,c)::l else p::aV l k c
section
variable{κ:Type}[DecidableEq κ]{k:κ}{c:CV}{v:V}
theorem mC{j:κ}:∀{l:B (κ×CV)},j∈(aV l k c).map (·.1)->j=k\/j∈l.map (·.1)
 |[],h=>by simp[aV]at h;exact .inl h
 |p::l,h=>by
  unfold aV at h;split at h
  .exact .inr ‹h›
  .rcases IE.mp h with e|h
   .exact .inr (by simp[e])
   .exact(mC h).imp_right (Oz _)
omit x in
theorem kR:∀{l:B (κ×CV)},(l.map (·.1)).Nodup->((aV l k c).map (·.1)).Nodup
 |[],_=>by simp[aV]
 |p::l,h=>by
  have h':=Jr.mp h;unfold aV;split
  .exact h
  .rename_i O;refine Jr.mpr ⟨λz=>?_,kR h'.2⟩;rcases mC z with e|e
   .exact O e
   .exact h'.1 e
theorem io {F:Hp} {n:Nat} (r:Hu G F M n c v):∀ {l:B (κ×CV)} {J1:B (κ×V)},(l.map (·.1)).Nodup->J1.map (·.1)=l.map (·.1)->G9 G F M n (l.map (·.2)) (J1.map (·.2))→
  (ar J1 k v).map (·.1)=(aV l k c).map (·.1)/\G9 G F M n ((aV l k c).map (·.2)) ((ar J1 k v).map (·.2))
 |[],[],_,_,_=>⟨rfl,.cons r .nil⟩
 |[],q::J1,_,h,_=>by cases h
 |p::l,[],_,h,_=>by cases h
 |p::l,q::J1,nd,h,rs=>by
  rwa[Hz,OA]at h;have⟨h1,h2⟩:=h;obtain _|⟨r1,r2⟩:=rs;have W:=Jr.mp nd;by_cases hk:p.1=k
  .have U:q.1=k:=h1.trans hk
   have O:∀x∈J1,¬ x.1=k:=λx hx e=>W.1 (by have:x.1∈J1.map (·.1):=List.mem_map_of_mem hx;rw[h2]at this;rw[e,<- hk]at this;exact this)
   have e2:ar (q::J1) k v=(q.1,v)::J1:=by
    unfold ar;rw[if_pos (by simp[U])];rwa[Hz,if_pos U,OA,true_and];have:∀x∈J1,(if x.1=k then(x.1,v)else x)=id x:=λx hx=>if_neg (O x hx)
    rw[M3 this,List.map_id]
   have e1:aV (p::l) k c=(p.1,c)::l:=by rwa[aV,if_pos hk]
   rw[e1,e2];exact⟨by simp[h1,h2],.cons r r2⟩
  .have U:¬ q.1=k:=λz=>hk (h1.symm.trans z)
   have e2:ar (q::J1) k v=q::ar J1 k v:=by
    unfold ar;by_cases ha:(J1.any λkv=>decide (kv.1=k))=C
    .rw[if_pos ha,if_pos (by rwa[Pb,ha,Bool.or_true])];rwa[Hz,if_neg U]
    .rw[if_neg ha,if_neg (by rwa[Pb,decide_eq_false U,Zh];exact ha)];rfl
   have e1:aV (p::l) k c=p::aV l k c:=by rwa[aV,if_neg hk]
   have⟨i1,i2⟩:=io r W.2 h2 r2;rw[e1,e2];exact⟨by simp[h1,i1],.cons r1 i2⟩
end
def bR(o:CO)(d:Dt)(c:CV):ζ CO:=match o with
 |.e l=>(QU d).bind λj=>(KI l.length j).map λm=>.e (l.set m c)
 |.dK l=>(ci d).bind λk=>if l.length<G6 then Z (.dK (aV l k c))else J
 |.dT l=>(Qp d).bind λk=>if l.length<G6 then Z (.dT (aV l k c))else J
 |_=>J
section
variable{G:Gx}{X:Cx}{st:J6}{e c o ik:J8}{es:B J8}{pos pos' apos G5:Pos}{f fa fe fk:Fg}{fs:FM (B CV)}{i:Nat}{Φ:NE}{F H F' H' F1 H1:Hp}{M Ha Hh:Nat->J4}{D:Sl}{Y:St}{ch G0 ch1:CH}{δ:Kx}
def yV{κ:Type}{l:B (κ×CV)}{J1:B (κ×V)}(h:J1.map (·.1)=l.map (·.1)):J1.length=l.length:=by have:=congrArg ML h;simpa using this
omit x in
def yW {o:CO} {w:CO} {d:Dt} {x:CV} {v:V} {P:Hp->Prop} (hI:dN G.K=C) (g:Gh G F H M ch) (ho:ch[i]?=Z o) (rk:HK G.K F H d vk) (r:Hu G F M ch.length x v) (h:bR o d x=Z w) (k:∀ H',Iv G F H M ch F H' M (ch.set i w)->P H') :
  tN (.ref (M i)) vk v H P\/uI (.ref (M i)) vk v H P:=by
 have O:=g.ok i o ho;cases o with
 |e l=>have⟨j,U,h⟩:=bS h;have⟨m,hm,rfl⟩:=mS h;have⟨vs,q1,q2⟩:=O;exact .inl ⟨_,vs,j,m,rfl,eU U rk,q1,by rw[G9.length q2];exact hm,k _ (.put (o:=.e (l.set m x)) g ho trivial ⟨_,ac,Paired.set r m q2⟩)⟩
 |dK l=>
  have⟨j,U,h⟩:=bS h;split at h<;>cases h
  rename_i hz;have⟨W,J1,q1,q2,q3⟩:=O;have⟨z1,z2⟩:=io (k:=j) r W q2 q3;rw[cG rk U];exact .inr ⟨_,_,rfl,K1.k q1 (by rw[yV q2];exact hz),k _ (.put (o:=.dK (aV l j x)) g ho trivial ⟨kR W,_,ac,z1,z2⟩)⟩
 |dT l=>
  have⟨j,U,h⟩:=bS h;split at h<;>cases h
  rename_i hz;have⟨W,J1,q1,q2,q3⟩:=O;have⟨z1,z2⟩:=io (k:=j) r W q2 q3;have⟨b,rfl,hb⟩:=fU hI U rk;exact .inr ⟨_,_,rfl,K1.t q1 (g.fh _ _ hb) (by rw[yV q2];exact hz),k _ (.put (o:=.dT (aV l j x)) g ho trivial ⟨kR W,_,ac,z1,z2⟩)⟩
 |_=>cases h
def UR(fa fk fe:Fg):Fs:=λD ch=>(fe D ch).bind λp=>(fa D p.2).bind λq=>(fk D q.2).bind λr=>match q.1 with
 |.ref i=>if p.1.sol then(vw r.2 r.1).bind λd=>((r.2[i]?).bind λo=>bR o d p.1).map λo'=>.nx D (r.2.set i o')else J
 |_=>J
structure AsS(X:Cx)(o ik e:J8)(pos pos':Pos):Prop where
 hs:QK [.Subscript o ik pos'] e pos.line X.env=pure ξ
 hw:Ws [.Subscript o ik pos'] e X.env=pure J
 h1:(Lg [.Subscript o ik pos'] X.env).map (·.2)=[MP (.Subscript o ik pos') X.env]
 ha:∀ v,MP (.Subscript o ik pos') X.env v=(do
     let ov <- LE [v] (eval o X.env);let iv <- LE [v,ov] (eval ik X.env)
     NU pos'
     LE [v,ov,iv] (setItem ov iv v)
     release [v,ov,iv] [])
omit x in
def CN{k:Nat}(hI:dN G.K=C)(hr:Hg k X.A)(hx:GE G X o fa)(hk:GE G X ik fk)(he:GE G X e fe)(A:AsS X o ik e pos pos'):KA G X (.Assign [.Subscript o ik pos'] e pos) (UR fa fk fe):=
 PS.mono (j4 he (sW hx hk (Lm.or l9 (mn (jt hr))) A.ha) A.hs A.hw A.h1) λδ Y H Km=>by
  have⟨Φ,D,ch,F,M,og,en,hg,kk⟩:=Km;have⟨p,h1,JN⟩:=bS hg;have⟨⟨c2,ch2⟩,h2,Pq⟩:=bS JN;have⟨r,h3,O⟩:=bS Pq;dsimp only at h3 O;cases c2 with
  |ref i=>
   dsimp only at O;rcases O
   rename_i hs;have⟨d,h4,Px⟩:=bS O;have⟨w,h5,e5⟩:=mS Px;cases e5;have⟨o,ho,h6⟩:=bS h5;refine⟨Φ,D,ch,F,M,_,_,en,h1,λv F1 H1 Hh W r1=>⟨Φ,D,_,F1,Hh,_,_,en.G1 W,h2,λx F2 H2 IF a2 r2=>⟨Φ,D,_,F2,IF,_,_,(en.G1 W).G1 a2,h3,λy F3 H3 Ps U r3=>?_⟩⟩⟩;have⟨hi,rfl⟩:=(r2.1.G1 U);exact yW hI U.gh ho (aJ U.gh r3.1 h4) (((r1.1.G1 a2).G1 U).s hs) h6 λH' a4=>kk Y F3 H' Ps ((((en.G1 W).G1 a2).G1 U).G1 a4)
  |_=>cases O
def yX(t:T)(d x:Dt):ζ T:=match t with
 |.e l=>(QU d).bind λj=>(KI l.length j).map λm=>.e (l.set m x)
 |.HC l=>(ci d).bind λk=>if l.length<G6/\(l.map (·.1)).Nodup then Z (.HC (az l k x))else J
 |.HJ l=>(Qp d).bind λk=>if l.length<G6/\(l.map (·.1)).Nodup then Z (.HJ (az l k x))else J
 |_=>J
noncomputable def US:CV->ζ T
 |.own C t=>Z t
 |_=>J
noncomputable def cN(D:Sl)(i:Nat):ζ T:=(D[i]?).join.bind US
def mD{t:T}(h:cN D i=Z t):D[i]?=Z (Z (.own C t)):=by
 unfold cN at h;have⟨c,h1,h2⟩:=bS h;cases q:D[i]? with
 |none=>rw[q]at h1;cases h1
 |some u=>
  rw[q]at h1;rwa[Wc]at h1;subst h1;cases c with
  |own b t'=>cases b<;>cases h2;rfl
  |_=>cases h2
def UT(i:Nat)(fk fe:Fg):Fs:=λD ch=>(fe D ch).bind λp=>(fk D p.2).bind λr=>match p.1 with
 |.g x=>(vw r.2 r.1).bind λd=>(cN D i).bind λt=>(yX t d x).map λt'=>.nx (D.set i (Z (.own C t'))) r.2
 |_=>J
theorem ag.set{x:Dt}{v:V}(r:G2 K F x v):∀{l:B Dt}{vs:B V}(m:Nat),ag K F l vs->ag K F (l.set m x) (vs.set m v)
 |[],vs,m,h=>by rwa[ag]at h;subst h;simp[ag]
 |d::l,vs,0,h=>by rwa[ag]at h;have⟨u,ws,rfl,h1,h2⟩:=h;rwa[List.set_cons_zero,ag];exact⟨v,ws,rfl,r,h2⟩
 |d::l,vs,m+1,h=>by rwa[ag]at h;have⟨u,ws,rfl,h1,h2⟩:=h;rwa[List.set_cons_succ,ag];exact⟨u,_,rfl,h1,ag.set r m h2⟩
omit x in
def yY {t t':T} {d x:Dt} {v:V} {P:Hp->Prop} (hI:dN G.K=C) (fh:rp F H) (U:LO G.K F H t (.ref a) (· = a)) (rk:HK G.K F H d vk) (r:G2 G.K F x v) (h:yX t d x=Z t') (k:∀ o,t'.own=C->LO G.K F (upd H a o) t' (.ref a) (· = a)->P (upd H a o)) :
  tN (.ref a) vk v H P\/uI (.ref a) vk v H P:=by
 cases t with
 |e l=>have⟨j,O,h⟩:=bS h;have⟨m,hm,rfl⟩:=mS h;have⟨b,vs,e,rfl,q1,q2⟩:=U;exact .inl ⟨_,vs,j,m,rfl,eU O rk,q1,by rw[q2.length];exact hm,k _ rfl ⟨_,_,rfl,rfl,ac,ag.set r m q2⟩⟩
 |HC l=>
  have⟨j,O,h⟩:=bS h;split at h<;>cases h
  rename_i hz;have⟨b,J1,e,rfl,q1,q2,q3⟩:=U;have hl:J1.length=l.length:=by have:=congrArg ML q2;simpa using this
  have⟨W,z2⟩:=pf j v J1 l x (by rw[q2];exact hz.2) q2;rw[cG rk O];exact .inr ⟨_,_,rfl,K1.k q1 (by rw[hl];exact hz.1),k _ rfl ⟨_,_,rfl,rfl,ac,W,z2 _ _ r q3⟩⟩
 |HJ l=>
  have⟨j,O,h⟩:=bS h;split at h<;>cases h
  rename_i hz;have⟨b,J1,e,rfl,q1,q2,q3⟩:=U;have hl:J1.length=l.length:=by have:=congrArg ML q2;simpa using this
  have⟨W,z2⟩:=pf j v J1 l x (by rw[q2];exact hz.2) q2;have⟨b,rfl,hb⟩:=fU hI O rk;exact .inr ⟨_,_,rfl,K1.t q1 (fh _ _ hb) (by rw[hl];exact hz.1),k _ rfl ⟨_,_,rfl,rfl,ac,W,z2 _ _ r q3⟩⟩
 |_=>cases h
def yZ{k:Nat}(hI:dN G.K=C)(hr:Hg k X.A)(hx:PE X o (qH i))(hk:GE G X ik fk)(he:GE G X e fe)(A:AsS X o ik e pos pos'):KA G X (.Assign [.Subscript o ik pos'] e pos) (UT i fk fe):=
 PS.mono (j4 he (sW hx hk (Lm.or l9 (mn (jt hr))) A.ha) A.hs A.hw A.h1) λδ Y H KJ=>by
  have⟨Φ,D,ch,F,M,og,en,hg,kk⟩:=KJ;have⟨⟨c1,ch1⟩,h1,JN⟩:=bS hg;have⟨r,h3,O⟩:=bS JN;dsimp only at h3 O;cases c1 with
  |g x=>have⟨d,h4,Px⟩:=bS O;have⟨t,h5,SD⟩:=bS Px;have⟨t',h6,e6⟩:=mS SD;cases e6;have hs:=mD h5;have⟨w,q1,q2⟩:=en.has i _ hs;have⟨a,rfl,_⟩:=id q2;refine⟨Φ,D,ch,F,M,_,_,en,h1,λv F1 H1 Hh a1 r1=>⟨_,q1,Φ,D,_,F1,Hh,_,_,en.G1 a1,h3,λy F3 H3 Ps W r3=>?_⟩⟩;have U:=(en.G1 a1).G1 W;have⟨w,q3,q4⟩:=U.has i _ hs;rw[q1]at q3;cases q3;have⟨a',e',_,ho,_⟩:=id q4;cases e';exact yY hI W.gh.fh ho (aJ W.gh r3.1 h4) (show G2 G.K F3 x v from r1.1.G1 W) h6 λo ht ho'=>kk Y F3 _ Ps (U.UJ hs q1 ht ho')
  |_=>cases O
def ip(c f:Nat)(o:CO)(x:CV):ζ CO:=match o with
 |.ins O l=>if O=c/\x.sol=C/\l.length<1000 then(if f<l.length then Z (.ins c (l.set f x))else if f=l.length then Z (.ins c (l++[x]))else J)else J
 |_=>J
theorem px{fn:Str}{v:V}:∀{fs:B (Str×V)}{f:Nat},(fs.map (·.1)).Nodup->(fs.map (·.1))[f]?=Z fn->(bp fn v fs).map (·.1)=fs.map (·.1)/\(bp fn v fs).map (·.2)=(fs.map (·.2)).set f v
 |[],f,_,h=>by simp at h
 |(g,x)::fs,0,_,h=>by simp at h;subst h;simp[bp]
 |(g,x)::fs,f+1,O,h=>by
  rwa[Hz,Jr]at O;rwa[Hz,KU]at h;have U:g≠fn:=λe=>O.1 (by rw[e];exact Il h)
  have⟨i1,W⟩:=px (v:=v) O.2 h;simp[bp,U,i1,W]
theorem mE{fn:Str}{v:V}:∀{fs:B (Str×V)},fn∉fs.map (·.1)->(bp fn v fs).map (·.1)=fs.map (·.1)++[fn]/\(bp fn v fs).map (·.2)=fs.map (·.2)++[v]
 |[],_=>by simp[bp]
 |(g,x)::fs,h=>by rwa[Hz,IE,not_or]at h;have⟨U,O⟩:=mE (v:=v) h.2;simp[bp,JQ h.1,U,O]
omit x in
def pA {c f:Nat} {o w:CO} {x:CV} {v:V} {pn:Str×B Str} {fn:Str} (hc:jC G c) (hp:G.ct[c]?=Z pn) (U:pn.2[f]?=Z fn) (g:Gh G F H M ch) (ho:ch[i]?=Z o) (r:Hu G F M ch.length x v) (h:ip c f o x=Z w) :
  ∃θ dx fs,IU G.K pn.1 θ/\H (M i)=Z (.ins θ dx fs)/\Mq G.K θ/\IL G.K θ fn/\fs.length<1000/\Iv G F H M ch F (upd H (M i) (.ins θ dx (bp fn v fs))) M (ch.set i w):=by
 cases o with
 |ins c' l=>
  have h:(if c'=c/\x.sol=C/\l.length<1000 then(if f<l.length then Z (CO.ins c (l.set f x))else if f=l.length then Z (CO.ins c (l++[x]))else J)else J)=Z w:=h;rcases h
  rename_i hz;have⟨rfl,_,hz⟩:=hz;have⟨p',C',dx,fs,O,h0,ha,h2,h3⟩:=g.ok i _ ho;rw[hp]at O;cases O
  have⟨θ,W,Sw,nd,hna⟩:=hc pn hp;have:=W.inj h0;subst this;have hl:fs.length=l.length:=by have:=G9.length h3;simpa using this
  have nd':(fs.map (·.1)).Nodup:=by rw[h2];exact nd.sublist (S8 _ _)
  refine⟨θ,dx,fs,W,ha,Sw,hna _ (Il U),Θ,?_⟩;split at h
  .rename_i hf;cases h;have hx:(fs.map (·.1))[f]?=Z fn:=by rw[h2,Zk hf];exact U
   have⟨i1,i2⟩:=px (v:=v) nd' hx;exact .put g ho trivial ⟨pn,θ,dx,_,hp,W,ac,by rw[i1,h2];simp,by rw[i2];exact Paired.set r f h3⟩
  .split at h<;>cases h
   rename_i hf
   have hx:fn∉fs.map (·.1):=by
    rw[h2];intro z;have⟨j,hj,e⟩:=List.mem_iff_getElem.mp z;rw[List.getElem_take]at e;have hj':j<l.length:=by rw[V5]at hj;lia
    have e1:pn.2[j]?=Z fn:=by rw[<- e];simp
    have:=gZ nd e1 U;lia
   have⟨i1,i2⟩:=mE (v:=v) hx;refine .put g ho trivial ⟨pn,θ,dx,_,hp,W,ac,?_,by rw[i2];exact Paired.app h3 (.cons r .nil)⟩;rw[i1,h2,Kj,JK,Ny,List.take_add_one,<- hf,U];rfl
 |_=>cases h
def NF(c f:Nat)(fa fe:Fg):Fs:=λD ch=>(fe D ch).bind λp=>(fa D p.2).bind λq=>match q.1 with
 |.ref i=>((q.2[i]?).bind λo=>ip c f o p.1).map λo'=>.nx D (q.2.set i o')
 |_=>J
omit x in
def nW{c f:Nat}{o w:CO}{x:CV}(h:ip c f o x=Z w):x.sol=C:=by
 unfold ip at h;split at h
 .rcases h
  rename_i hz;exact hz.2.1
 .cases h
def CP{c f:Nat}{pn:Str×B Str}{fn:Str}(hK:X.K=G.K)(hc:jC G c)(hp:G.ct[c]?=Z pn)(hn:pn.2[f]?=Z fn)(h:GE G X o fa)(he:GE G X e fe)(hs:LD e (Z (.Attribute o fn pos')) pos.line X.env=pure ξ):KA G X (.Assign [.Attribute o fn pos'] e pos) (NF c f fa fe):=
 PS.mono (BK h he hs) λδ Y H LG=>by
  have⟨Φ,D,ch,F,M,og,en,hg,kk⟩:=LG;have⟨p,h1,U⟩:=bS hg;have⟨⟨c2,ch2⟩,h2,O⟩:=bS U;cases c2 with
  |ref i=>have⟨w,h5,e5⟩:=mS O;cases e5;have⟨o,ho,h6⟩:=bS h5;refine⟨Φ,D,ch,F,M,_,_,en,h1,λv F1 H1 Hh a1 r1=>⟨Φ,D,_,F1,Hh,_,_,en.G1 a1,h2,λx F2 H2 IF W r2=>?_⟩⟩;have⟨hi,rfl⟩:=r2.1;have⟨θ,dx,fs,_,q1,q2,q3,q4,a3⟩:=pA hc hp hn W.gh ho ((r1.1.G1 W).s (nW h6)) h6;rw[hK];exact⟨_,θ,dx,fs,rfl,q1,q2,q3,q4,kk Y F2 _ IF (((en.G1 a1).G1 W).G1 a3)⟩
  |_=>cases O
def UU(c f:Nat)(op:Int->Int->Int)(fa fe:Fg):Fs:=λD ch=>(fa D ch).bind λp=>match p.1 with
 |.ref i=>match p.2[i]? with
  |some (.ins O l)=>if O=c then(l[f]?).bind λx=>(cj x).bind λn=>(fe D p.2).bind λq=>(cj q.1).bind λm=>((q.2[i]?).bind λo=>ip c f o (.g (.int (op n m)))).map λo'=>.nx D (q.2.set i o')else J
  |_=>J
 |_=>J
omit x in
def rW{c f:Nat}{pn:Str×B Str}{fn:Str}{U:NB}{op:Int->Int->Int}{LL:Pos}(hK:X.K=G.K)(hc:jC G c)(hp:G.ct[c]?=Z pn)(hn:pn.2[f]?=Z fn)(ho:T6 X U (ipI op))(h:GE G X o fa)(he:GE G X e fe):KA G X (.AugAssign (.Attribute o fn LL) U e pos) (UU c f op fa fe):=
 PS.mono (qR h he ho) λδ Y H Ut=>by
  have⟨Φ,D,ch,F,M,og,en,hg,kk⟩:=Ut;have⟨⟨c1,ch1⟩,h1,JN⟩:=bS hg;clear hg;cases c1 with
  |ref i=>
   dsimp only at JN;rcases JN
   rename_i c' l Xe;rcases JN
   rename_i Qj;subst Qj;have⟨x,h2,Pq⟩:=bS JN;have⟨n,h3,Pp⟩:=bS Pq;have⟨q,h4,Px⟩:=bS Pp;have⟨m,h5,SD⟩:=bS Px;have⟨w,h6,e6⟩:=mS SD;cases e6;have⟨o2,LF,h7⟩:=bS h6;refine⟨Φ,D,ch,F,M,_,_,en,h1,λv F1 H1 Hh a1 r1=>?_⟩;have⟨hi,rfl⟩:=r1.1;have⟨p',C',dx,fs,O,h0,ha,z2,z3⟩:=a1.gh.ok i _ Xe;rw[hp]at O;cases O
   have⟨θ,hC,Sw,nd,hna⟩:=hc pn hp;have:=hC.inj h0;subst this;have⟨u,hu,ru⟩:=Paired.get z3 h2;have hu2:=eR h3 ru.toC (H:=H1);subst hu2;rw[hK];refine⟨_,θ,dx,fs,_,rfl,ha,Sw,hna _ (Il hn),dO (by rw[z2];exact nd.sublist (S8 _ _)) (mq z2 h2 hn) hu,Φ,D,_,F1,Hh,_,_,en.G1 a1,h4,λy F2 H2 IF a2 r2=>?_⟩;have hy:=eR h5 r2.1;subst hy;refine⟨n,m,rfl,rfl,?_⟩;have hz:IF i=Hh i:=a2.ext i hi;have⟨C2,dx2,W,q0,q1,q2,q3,q4,a3⟩:=pA hc hp hn a2.gh LF (show Hu G F2 IF _ (.g (.int (op n m))) (.int (op n m))from bI (K:=G.K) (F:=F2)) h7;have:=hC.inj q0;subst this;rw[hz]at q1 a3;exact⟨dx2,W,q1,q4,kk Y F2 _ IF (((en.G1 a1).G1 a2).G1 a3)⟩
  |_=>cases JN
def sAu(i:Nat)(op:Int->Int->Int)(fe:Fg):Fs:=λD ch=>((D[i]?).join.bind cj).bind λn=>(fe D ch).bind λq=>(cj q.1).map λm=>.nx (D.set i (Z (.g (.int (op n m))))) q.2
def Xf(pt:Pt)(fe:Fg):Fs:=λD ch=>(fe D ch).bind λp=>match p.1 with
 |.g d=>(Hq pt d D).map λHi=>.nx Hi p.2
 |_=>J
def CQ{pt:Pt}(he:GE G X e fe)(hg:GP G X tg pt)(hs:QK [tg] e pos.line X.env=pure ξ)(hw:Ws [tg] e X.env=pure J)(h1:(Lg [tg] X.env).map (·.2)=[MP tg X.env]):KA G X (.Assign [tg] e pos) (Xf pt fe):=PS.mono (j4 he hg hs hw h1) λδ Y H W=>by
 have⟨Φ,D,ch,F,M,og,en,Mx,kk⟩:=W;have⟨⟨c,ch1⟩,h1,O⟩:=bS Mx;cases c with
 |g d=>have⟨Hi,h2,e2⟩:=mS O;cases e2;exact⟨Φ,D,ch,F,M,_,_,en,h1,λv F1 H1 Hh a1 r1=>⟨Φ,D,_,F1,Hh,d,Hi,en.G1 a1,r1.1,h2,λU SE _=>kk U F1 H1 Hh SE⟩⟩
 |_=>cases O
structure UV(X:Cx)(o:J8)(m:Str)(apos:Pos)(es:List J8)(G5:Pos):Prop where
 base:NQ o m X.env (eval o X.env)=eval o X.env
 Ss:((IK G5 (Hn es X.env)).all (λx=>!x.1)&&(MO G5 (MN [] X.env)).all (λx=>x.1.isSome)
     && decide (es.length+([]:List NV).length+(if([]:List NV).isEmpty then 0 else 1)<30))=C
 line:(apos.endLine==G5.line)=C
 star:∀e r,es=e::r->Hn (e::r) X.env=(ξ,eval e X.env)::Hn r X.env/\(IK G5 (Hn r X.env)).any (·.1)=ξ
noncomputable def cO(ch:CH)(i:Nat):ζ (B CV):=match ch[i]? with
 |some (.e l)=>Z l
 |_=>J
def cq{l:B CV}(h:cO ch i=Z l):ch[i]?=Z (.e l):=by
 unfold cO at h;split at h<;>cases h
 assumption
def UW(fa fe:Fg):Fs:=λD ch=>(fa D ch).bind λp=>(fe D p.2).bind λq=>match p.1 with
 |.ref i=>(cO p.2 i).bind λ_=>(cO q.2 i).bind λl=>if l.length<G6/\q.1.sol=C then Z (.nx D (q.2.set i (.e (l++[q.1]))))else J
 |_=>J
omit x in
def rX(hx:GE G X o fa)(he:GE G X e fe)(A:UV X o "append" apos [e] G5)(OS:LD (.Call (.Attribute o "append" apos) [e] [] G5) J pos.line X.env=pure ξ):KA G X (.Expr (.Call (.Attribute o "append" apos) [e] [] G5) pos) (UW fa fe):=
 PS.mono (dw (ma PySem.F.plainAttrs_list PySem.F.slot_list_append PySem.F.type_list_append fJ hx (bo he cC (A.star _ _ rfl).1) A.base A.Ss A.line (A.star _ _ rfl).1 (A.star _ _ rfl).2) OS) λδ Y H Uv=>by
  have⟨Φ,D,ch,F,M,og,en,hg,k⟩:=Uv;have⟨⟨c1,ch1⟩,h1,JN⟩:=bS hg;have⟨q,h2,O⟩:=bS JN;cases c1 with
  |ref i=>
   have⟨l0,h3,Pp⟩:=bS O;have⟨l,h4,U⟩:=bS Pp;split at U<;>cases U
   rename_i hz;refine⟨Φ,D,ch,F,M,_,_,en,h1,λv F1 H1 Hh a1 r1=>?_⟩;have⟨Xg,q0,_⟩:=a1.gh.ok i _ (cq h3);have⟨hi,rfl⟩:=r1.1;refine⟨.inl ⟨rfl,Xg,.inl (.inl q0)⟩,Φ,D,_,F1,Hh,_,_,en.G1 a1,h2,λw F2 H2 IF W r2=>?_⟩;have⟨vs,q1,q2⟩:=W.gh.ok i _ (cq h4);have UX:IF i=Hh i:=W.ext i hi;have a3:Iv G F2 H2 IF q.2 F2 _ IF _:=.put (o:=.e (l++[q.1])) (u:=.e (vs++[w])) W.gh (cq h4) trivial ⟨_,ac,Paired.app q2 (.cons (r2.1.s hz.2) .nil)⟩;rw[UX]at q1 a3;exact⟨_,vs,w,rfl,rfl,q1,by rw[G9.length q2];exact hz.1,k Y F2 _ IF (((en.G1 a1).G1 W).G1 a3)⟩
  |_=>cases O
noncomputable def Py(i:Nat)(fe:Fg):Fs:=λD ch=>(fe D ch).bind λq=>match q.1,cN D i with
 |.g d,Z (.e l)=>if l.length<G6 then Z (.nx (D.set i (Z (.own C (.e (l++[d]))))) q.2)else J
 |_,_=>J
omit x in
def nX(hx:PE X o (qH i))(he:GE G X e fe)(A:UV X o "append" apos [e] G5)(OS:LD (.Call (.Attribute o "append" apos) [e] [] G5) J pos.line X.env=pure ξ):KA G X (.Expr (.Call (.Attribute o "append" apos) [e] [] G5) pos) (Py i fe):=
 PS.mono (dw (ma PySem.F.plainAttrs_list PySem.F.slot_list_append PySem.F.type_list_append fJ hx (bo he cC (A.star _ _ rfl).1) A.base A.Ss A.line (A.star _ _ rfl).1 (A.star _ _ rfl).2) OS) λδ Y H W=>by
  have⟨Φ,D,ch,F,M,og,en,hg,k⟩:=W;have⟨⟨c1,ch1⟩,h1,JN⟩:=bS hg;clear hg;cases c1 with
  |g d=>
   dsimp only at JN;rcases JN
   rename_i d' l ed ht;cases ed;split at JN<;>cases JN
   rename_i hz;have hs:=mD ht;have⟨w,q1,q2⟩:=en.has i _ hs;have⟨a,rfl,_,⟨_,U,e0,rfl,z1,z2⟩,_⟩:=id q2;refine⟨_,q1,.inl ⟨rfl,U,Id.of z1⟩,Φ,D,ch,F,M,_,_,en,h1,λv F1 H1 Hh a1 r1=>?_⟩;have O:=en.G1 a1;have⟨w,q3,q4⟩:=O.has i _ hs;rw[q1]at q3;cases q3
   have⟨a',e',_,⟨_,vs,e1,rfl,y1,y2⟩,_⟩:=id q4;cases e';refine⟨_,vs,v,rfl,rfl,y1,by rw[y2.length];exact hz,k Y F1 _ Hh (O.UJ hs q1 rfl ⟨_,_,rfl,rfl,ac,y2.append (ag.one r1.1)⟩)⟩
  |_=>cases JN
end
def Jt(h:Heap)(d:J4)(kv:B (Value×Value))(ep:Nat):Prop:=∃o es,h.get? d=Z o/\o.ExactDict/\o.data=.dict es ep/\es.toList.map (λe=>(e.key,e.val))=kv
variable{kv:B (Value×Value)}{ep:Nat}
def Jt.upTo{h:Heap}{d:J4}(q:Jt h d kv ep)(k:∀o,h.get? d=Z o->h'.get? d=Z o):Jt h' d kv ep:=let ⟨o,es,h1,r⟩:=q;⟨o,es,k o h1,r⟩
def Jt.ty{s:pv}{d:J4}(q:Jt s.heap d kv ep):s.TypeIs (.ref d) "dict":=let ⟨o,_,h1,h2,_⟩:=q;⟨o,h1,h2.1⟩
def Jt.lt{h:Heap}{d:J4}(q:Jt h d kv ep):d<h.objs.size:=let ⟨_,_,h1,_⟩:=q;Ii h1
abbrev jb(h:Heap)(it d:J4)(i n ep:Nat)(x0:Value)(f:Bool)(ok ov:Value):Prop:=h.get? it=Z {cls:=.type "dict_itemiterator",dict:=J,data:=.fields #[x0,.bool f,.ref d,.int i 0,.int n 0,.int ep 0,ok,ov],slots:=#[]}
def Lr(h:Heap)(it d:J4)(i n ep:Nat):Prop:=∃O f ok U,jb h it d i n ep O f ok U/\((O=.none/\f=ξ)\/∃a:J4,O=La a/\a≠it/\∃oa,h.get? a=Z oa)
variable{key:Value}
section
variable{prog:Iz}{w:J5}{A:Jo}{E:Value->pv->Prop}{s:pv}{v d it:J4}{kv:B (Value×Value)}{i ep:Nat}
theorem rY(lo:(d==LC)=ξ)(q:Jt s.heap d kv ep)(k:Q (.ref s.heap.objs.size) {s with heap:=s.heap.push {cls:=.type "dict_items",data:=.fields #[.ref d]}}):wpAny (model prog w) A (call (.builtin "dict.items") [.ref d]) Q E s:=by refine NP F.slot_dict_items q.ty F.entry_dict_items ?_ (F.args_dict_items_1 _);unfold JV.«dict.items»;refine wB ?_;unfold JV.Dict.noArgs;refine wB (Tj q.ty ?_);show wpAny _ _ (pure d) _ _ s;refine Hf ?_;show wpAny _ _ (Tt d >>= _) _ _ s;unfold Tt;rw[if_neg (by rw[lo];exact Ju)];refine wB (Hf ?_);exact wB (OE (Hf ⟨_,rfl,k⟩))
def rZ(W:s.heap.IsItemsView v d)(q:Jt s.heap d kv ep)
 (k:∀h',Lr h' s.heap.objs.size d 0 kv.length ep->(∀b o,s.heap.get? b=Z o->h'.get? b=Z o)->s.heap.objs.size<h'.objs.size->Q (.ref s.heap.objs.size) {s with heap:=h'}):wpAny (model prog w) A (pyIter (.ref v)) Q E s:=by
 have⟨ov,O,hcv,U⟩:=id W;have⟨o,es,e1,e2,e3,e4⟩:=id q;refine wpAny_pyIter_slot W.typeIs zb4 (NP zb4 W.typeIs F.entry_dict_items_iter ?_ (F.args_dict_items_iter_1 _));unfold JV.«dict_items.__iter__»;refine wB (Hf (wB ?_));unfold JV.Dict_items.dictOf;refine wB (OG O U (x:=.ref d) rfl (Hf (wB ?_)));unfold JV.Dict_items.newIterator;refine wB (NO e1 e3 (wB (Qc e1 e3 ?_)));have ez:es.size=kv.length:=by rw[<- e4];simp
 have ow:Tu "dict_itemiterator"=C:=by decide
 rwa[ow,if_true]
 refine OE (Hf ⟨_,rfl,"dict_itemiterator",_,⟨_,JW _ rfl,rfl⟩,Tv.lookup,?_⟩)
  (by rwa[sizeOk,qq7,JB,Kj,JK,Ny,Ih];lia)
 refine k _ ⟨.none,ξ,.none,.none,?_,.inl ⟨rfl,rfl⟩⟩ (λb o e=>gP _ e) (by rw[QS];exact V9 _);show(s.heap.push _).get? s.heap.objs.size=_;rw[JW _ rfl];simp[La,ez,qq7]
def r0{val:Value}{Q:ζ Value->pv->Prop}(st:Lr s.heap it d i kv.length ep)(q:Jt s.heap d kv ep)(hx:kv[i]?=Z (key,val))
 (k:∀h',Lr h' it d (i+1) kv.length ep->h'.get? s.heap.objs.size=Z {cls:=.type "tuple",data:=.seq #[key,val]}->h'.objs.size=s.heap.objs.size+1→
 (∀b o,b≠it->s.heap.get? b=Z o->h'.get? b=Z o)->Q (Z (.ref s.heap.objs.size)) {s with heap:=h'}):wpAny (model prog w) A (LI (.ref it)) Q E s:=by
 have⟨hp,g,dr,tk,os⟩:=s;have⟨x0,f,ok,ov,hit,ho⟩:=st;have⟨od,es,e1,e2,e3,e4⟩:=id q;have hT:pv.TypeIs ⟨hp,g,dr,tk,os⟩ (.ref it) "dict_itemiterator":=⟨_,hit,rfl⟩;unfold LI;refine wB (Wu (R7 (name:=Jv "__next__") hT Tv (NP Tv hT qu3 ?_ (qt6 _))));refine wB (Hf (wB (wB ?_)))
 first|refine wB (Wf hT (Hf ?_))|refine wB (Wh hT (Hf ?_))
 refine wB (Wr hit rfl ?_);have ow:Tu "dict_itemiterator"=C:=by decide
 rwa[ow,if_true];show wpAny _ _ (if(HH d==Kl)=C then _ else _) _ _ _;rw[if_neg (show ¬ ((HH d==Kl)=C)from Ju)];refine wB (Hf (wB (NO e1 e3 ?_)));have ez:es.size=kv.length:=by rw[<- e4];simp
 rw[if_neg (by rw[ez];simp)];refine wB (Hf (wB (Qc e1 e3 ?_)));rw[if_neg Ξ];refine Hf ?_;have li:i<es.size:=by rw[ez];exact(gX hx).1
 have hkv:es[i].key=key/\es[i].val=val:=by rw[<- e4,HZ,Zd,VY li]at hx;have:=JU hx;exact⟨congrArg NN this,congrArg Prod.snd this⟩
 rwa[show ¬ ((i:Int)<0)from by lia,if_false,Ow,VY li];refine wB ?_
 first|refine wB (Wf hT (Hf ?_))|refine wB (Wh hT (Hf ?_))
 refine wB (ZC hT ?_);show wpAny _ _ (setField (.ref it) 3 (La ((i:Int)+1)) >>= _) _ _ ⟨hp,g,dr,tk,os⟩;refine L0 (Sa hit Ξ λh1 UY MC=>?_)
 replace MC:L3 it hp h1:=MC
 replace UY:jb h1 it d (i+1) kv.length ep x0 f ok ov:=by
  have e:((i+1:Nat):Int)=(i:Int)+1:=by lia
  unfold jb;rw[e];simpa[La] using UY
 have hT1:pv.TypeIs ⟨h1,g,dr,tk,os⟩ (.ref it) "dict_itemiterator":=⟨_,UY,rfl⟩;refine wB (OF (wB (ZC hT1 (wB (ZC hT1 ?_)))));show wpAny _ _ (qs8 (.ref it) 6 es[i].key es[i].val) _ _ ⟨h1,g,dr,tk,os⟩;rw[hkv.1,hkv.2];unfold qs8;refine wB (wpAny_newTuple ?_);have Nj:jb (h1.push {cls:=.type "tuple",data:=.seq #[key,val]}) it d (i+1) kv.length ep x0 f ok ov:=gP _ UY;generalize Xh:h1.push {cls:=.type "tuple",data:=.seq #[key,val]}=h2 at Nj;have Xi:h1.objs.size=hp.objs.size:=MC.1;have SF:it<hp.objs.size:=Ii hit;have ht2:h2.get? hp.objs.size=Z {cls:=.type "tuple",data:=.seq #[key,val]}:=by rw[<- Xh,<- Xi];exact JW _ rfl
 have UX:h2.objs.size=hp.objs.size+1:=by rw[<- Xh,QS,Xi]
 have SG:∀b o,b≠it->hp.get? b=Z o->h2.get? b=Z o:=λb o hb e=>by rw[<- Xh];exact gP _ (MC.extBut b o hb e)
 show wpAny _ _ (qq8 (.ref it) >>= _) _ _ ⟨h2,g,dr,tk,os⟩;rw[Xi];clear Xh UY MC hT1 Xi h1
 have fin:∀(h3:Heap)(y0:Value)(f':Bool)(ok' ov':Value),jb h3 it d (i+1) kv.length ep y0 f' ok' ov'->(∃a:J4,y0=La a/\a≠it/\∃oa,h2.get? a=Z oa)->L3 it h2 h3->Q (Z (.ref hp.objs.size)) ⟨h3,g,dr,tk,os⟩:=λh3 y0 f' ok' ov' U ha O=>by have⟨a,rfl,SH,oa,hoa⟩:=ha;exact k h3 ⟨_,f',ok',ov',U,.inr ⟨a,rfl,SH,oa,O.extBut a oa SH hoa⟩⟩ (O.extBut _ _ (NA SF) ht2) (by show h3.objs.size=hp.objs.size+1;rw[O.1,UX]) λb o hb e=>O.extBut b o hb (SG b o hb e)
 refine wB ?_;unfold qq8;rcases ho with ⟨rfl,rfl⟩|⟨a,rfl,SH,oa,hoa⟩
 .refine wB (OG Nj rfl (x:=.none) rfl (Hf ?_));rwa[if_true];refine wB (OG Nj rfl (x:=ok) rfl (wB (OG Nj rfl (x:=ov) rfl ?_)));refine L0 (Sa Nj Ξ λh3 U O=>?_)
  replace O:L3 it h2 h3:=O
  replace U:jb h3 it d (i+1) kv.length ep .none ξ key ov:=U
  refine L0 (Sa U Ξ λh4 he4 Su=>?_)
  replace Su:L3 it h3 h4:=Su
  replace he4:jb h4 it d (i+1) kv.length ep .none ξ key val:=he4
  refine L0 (Sa he4 Ξ λh5 he5 hs5=>?_)
  replace hs5:L3 it h4 h5:=hs5
  replace he5:jb h5 it d (i+1) kv.length ep (La hp.objs.size) ξ key val:=he5
  refine L0 (Sa he5 Ξ λh6 he6 hs6=>?_)
  replace hs6:L3 it h5 h6:=hs6
  replace he6:jb h6 it d (i+1) kv.length ep (La hp.objs.size) ξ key val:=he6
  exact wB (wpAny_letGo (Hf (Hf ⟨_,rfl,Hf (fin h6 _ _ _ _ he6 ⟨hp.objs.size,rfl,NA SF,_,ht2⟩ (O.trans (Su.trans (hs5.trans hs6))))⟩)))
 .have ha2:h2.get? a=Z oa:=SG a oa SH hoa;refine wB (OG Nj rfl (x:=La a) rfl ?_);show wpAny _ _ (loadIfAlive ((a:Int).toNat) >>= _) _ _ _;rw[Ow];refine wB (PySem.W.kdx_alive ha2 ?_);rwa[Option.isNone_some,Ou,if_false];refine wB (OG Nj rfl (x:=.bool f) rfl ?_);cases f with
  |true=>rw[if_neg (show ¬ ((Qf C != Qf C)=C)from Ju)];refine Hf ?_;rwa[Ou,if_false];exact Hf (Hf ⟨_,rfl,Hf (fin h2 _ _ _ _ Nj ⟨a,rfl,SH,oa,ha2⟩ (L3.refl _ _))⟩)
  |false=>
   rw[if_pos (show(Qf ξ != Qf C)=C from rfl)];refine L0 (Sa Nj Ξ λh3 U O=>?_)
   replace O:L3 it h2 h3:=O
   replace U:jb h3 it d (i+1) kv.length ep (La a) C ok ov:=U
   refine Hf ?_;rwa[Ou,if_false];exact Hf (Hf ⟨_,rfl,Hf (fin h3 _ _ _ _ U ⟨a,rfl,SH,oa,ha2⟩ O)⟩)
def vc {Q:ζ Value->pv->Prop} (nh:A.handled=J) (st:Lr s.heap it d i kv.length ep) (q:Jt s.heap d kv ep) (hi:i=kv.length)
  (k:∀h',WF it s.heap h'->Q J {s with heap:=h'}):wpAny (model prog w) A (LI (.ref it)) Q E s:=by
 have⟨x0,f,ok,ov,O,ho⟩:=st;have⟨od,es,e1,e2,e3,e4⟩:=id q;have U:s.TypeIs (.ref it) "dict_itemiterator":=⟨_,O,rfl⟩;unfold LI;refine wB (Wu (R7 (name:=Jv "__next__") U Tv (NP Tv U qu3 ?_ (qt6 _))));refine wB (Hf (wB (wB ?_)))
 first|refine wB (Wf U (Hf ?_))|refine wB (Wh U (Hf ?_))
 refine wB (Wr O rfl ?_);have ow:Tu "dict_itemiterator"=C:=by decide
 rwa[ow,if_true];show wpAny _ _ (if(HH d==Kl)=C then _ else _) _ _ s;rw[if_neg (show ¬ ((HH d==Kl)=C)from Ju)];refine wB (Hf (wB (NO e1 e3 ?_)));have W:es.size=kv.length:=by rw[<- e4];simp
 rw[if_neg (by rw[W];simp)];refine wB (Hf (wB (Qc e1 e3 ?_)));rw[if_neg Ξ];refine Hf ?_;have ge:es.size<=i:=by rw[W];lia
 rwa[show ¬ ((i:Int)<0)from by lia,if_false,Ow,zb5 ge];refine wB ?_
 first|refine wB (Wf U (Hf ?_))|refine wB (Wh U (Hf ?_))
 show wpAny _ _ (setField (.ref it) 2 .none >>= _) _ _ s;refine L0 (Tm O rfl Ξ ?_);show wpAny _ _ (newExc (.type "StopIteration") [] >>= _) _ _ _;refine wB ?_;rwa[newExc,newTuple];refine wB (OE ?_ (by size_fits));refine L0 (m:=Sd _ _) (wpAny_of_eq (a:=Kl) (by first|rfl|(rwa[Sd];rfl)) (OE ?_ (by size_fits)));rwa[raiseNew];refine wB (ZK ?_);rw[show A.in1.handled=J from nh];refine wB (Hf (wpAny_throw ?_));refine wB (ZF (b:=true) (T:="StopIteration") ⟨_,JW _ rfl,rfl⟩ isSubtype_stop ?_);exact Hf (k _ (((Sg ..).extBut.push _).push _))
end
theorem pF:∀a b:B Nat,ltCps a b=ξ->ltCps b a=ξ->a=b
 |[],[],_,_=>rfl
 |[],_::_,h,_=>by simp[ltCps]at h
 |_::_,[],_,h=>by simp[ltCps]at h
 |x::r,y::t,h,h'=>by
  rwa[ltCps,Zf,decide_eq_false_iff_not,Ze,beq_iff_eq]at h h';have e:x=y:=by lia
  subst e;rw[pF r t (h.2 rfl) (h'.2 rfl)]
theorem pG:∀a b:B Nat,ltCps a b=C->ltCps b a=ξ
 |[],[],h=>by simp[ltCps]at h
 |[],_::_,_=>rfl
 |_::_,[],h=>by simp[ltCps]at h
 |x::r,y::t,h=>by
  rwa[ltCps,NL,decide_eq_true_eq,Hm,beq_iff_eq]at h;rwa[ltCps,Zf,decide_eq_false_iff_not,Ze,beq_iff_eq];rcases h with h|⟨rfl,h⟩
  .exact⟨Θ,λe=>Θ⟩
  .exact⟨Θ,λ_=>pG r t h⟩
theorem jG:∀a b c:B Nat,ltCps b a=ξ->ltCps c b=ξ->ltCps c a=ξ
 |[],b,c,h1,h2=>by
  cases b with
  |nil=>exact h2
  |cons y t=>
   cases c with
   |nil=>simp[ltCps]at h2
   |cons z u=>rfl
 |x::r,[],c,h1,h2=>by simp[ltCps]at h1
 |x::r,y::t,[],h1,h2=>by simp[ltCps]at h2
 |x::r,y::t,z::u,h1,h2=>by
  rwa[ltCps,Zf,decide_eq_false_iff_not,Ze,beq_iff_eq]at h1 h2 ⊢;refine⟨Θ,λe=>?_⟩;subst e;have e:y=z:=by lia
  subst e;exact jG r t u (h1.2 rfl) (h2.2 rfl)
noncomputable def Ls(a b:Str):Bool:=!ltCps b.cps.toList a.cps.toList
def Jk{a b:Str}:Ls a b=C↔ltCps b.cps.toList a.cps.toList=ξ:=by simp[Ls]
def jH(a b c:Str)(h:Ls a b=C)(h':Ls b c=C):Ls a c=C:=Jk.mpr (jG _ _ _ (Jk.mp h) (Jk.mp h'))
def r8(a b:Str):(Ls a b||Ls b a)=C:=by
 cases h:Ls a b with
 |true=>rfl
 |false=>
  have h1:ltCps b.cps.toList a.cps.toList=C:=by simpa[Ls] using h
  simp[Jk.mpr (pG _ _ h1)]
def vd{a b:Str}(h:Ls a b=C)(h':Ls b a=C):a=b:=by
 have e:=pF _ _ (Jk.mp h') (Jk.mp h);cases a with
 |mk a=>cases b with
  |mk b=>simp only at e;rw[Array.toList_inj.mp e]
noncomputable def dH(ss:B Str):B Str:=ss.mergeSort Ls
def bV(ss:B Str):(dH ss).Perm ss:=List.mergeSort_perm ss Ls
def ve(ss:B Str):(dH ss).Pairwise λa b=>Ls a b=C:=List.pairwise_mergeSort jH r8 ss
theorem jI:∀(p:Str)(l:B Str),risingS p l=C->(p::l).Pairwise λa b=>Ls a b=C
 |p,[],_=>by simp
 |p,x::r,h=>by
  rwa[risingS,Hm]at h;have U:=jI x r h.2;have h1:Ls p x=C:=h.1;refine R4.mpr ⟨λy O=>?_,U⟩;rcases IE.mp O with rfl|O
  .exact h1
  .exact jH _ _ _ h1 ((R4.mp U).1 y O)
def r9:∀l:B Str,sortedS l=C->l.Pairwise λa b=>Ls a b=C
 |[],_=>Zu
 |x::r,h=>jI x r h
theorem jJ:∀{a b:B Str},a.Perm b->(a.Pairwise λa b=>Ls a b=C)->(b.Pairwise λa b=>Ls a b=C)->a=b
 |[],_,p,_,_=>p.nil_eq
 |x::r,b,p,O,hb=>by
  cases b with
  |nil=>exact absurd p.length_eq Ξ
  |cons y t=>
   have U:x∈y::t:=p.mem_iff.mp (.head _);have W:y∈x::r:=p.mem_iff.mpr (.head _)
   have e:x=y:=by
    rcases IE.mp U with h|h
    .exact h
    .rcases IE.mp W with h'|h'
     .exact h'.symm
     .exact vd ((R4.mp O).1 y h') ((R4.mp hb).1 x h)
   subst e;rw[jJ (List.Perm.cons_inv p) (R4.mp O).2 (R4.mp hb).2]
theorem iq:∀{ss:B Str}{J3:B Value},E3 (ss.map V.str) J3->StrsAre J3 ss
 |[],_,h=>by cases h;exact .nil
 |x::ss,_,h=>by
  cases h with
  |cons h1 h2=>have⟨t,rfl⟩:=h1;exact .cons x t (iq h2)
theorem jK:∀{J3:B Value}{ss:B Str},StrsAre J3 ss->E3 (ss.map V.str) J3
 |_,_,.nil=>.nil
 |_,_,.cons x t h=>.cons ⟨t,rfl⟩ (jK h)
section
variable{X:Cx}
def kU:Hx X (.builtin "sorted") (λxs H Q=>∃p ss,xs=[.ref p]/\Id X.K H p (ss.map V.str)/\ss.length<64/\∀l,H l=J->Q (.ref l) (upd H l (.e ((dH ss).map V.str)))):=by
 intro J0 s Y H xs us Q I r h;have⟨p,ss,rfl,hq,hz,q⟩:=h;have⟨u,rfl,rx⟩:=dF r;cases rx;have⟨J3,W,pl,hz'⟩:=I.list hq;have hS:=iq W;have hlen:J3.length=ss.length:=by have:=W.length;simpa using this.symm
 refine sorted_strs pl.isList hS Θ λU O a1 a2 a3=>?_
 have e:O=dH ss:=jJ (a2.trans (bV ss).symm) (r9 O a3) (ve ss);subst e;have⟨c,hc⟩:=sortedAll_at s.heap J3 U;refine⟨.ref (s.heap.objs.size+1),_,I.laid (t':=s.toks) (λ_ _=>sortedAll_old) (OC _) (show Hc X.prog X.w _ _ _ (.e ((dH ss).map V.str))from⟨?_,U.toList,c,jK a1,hc⟩),rfl,q _ (I.Hb.fresh (OC _))⟩;rw[HN,(bV ss).length_eq];exact JS (QJ hz) Ω
def gH:B Dt->ζ T
 |[.e ds]=>(db ds).bind λss=>if ss.length<64 then Z (.e ((dH ss).map .str))else J
 |_=>J
theorem jL{F:Hp}:∀ss:B Str,ag K F (ss.map .str) (ss.map V.str)
 |[]=>by rwa[Mi,ag]
 |x::ss=>by rwa[Hz,ag];exact⟨_,_,rfl,by rwa[G2],jL ss⟩
omit x in
def vf:OP K (λxs H Q=>∃p ss,xs=[.ref p]/\Id K H p (ss.map V.str)/\ss.length<64/\∀l,H l=J->Q (.ref l) (upd H l (.e ((dH ss).map V.str)))) gH:=by
 intro F H ds vs Q t W r O k;unfold gH at O;rcases O
 have⟨ss,U,O⟩:=Ti.mp O;split at O<;>cases O
 rename_i hz;have⟨v,rfl,rv⟩:=bE r;have⟨a,vs,rfl,h1,h2⟩:=rv;have:=fL h2 U;subst this;exact⟨a,ss,rfl,h1,hz,λp hp=>b9 k W (jL _) hp⟩
end
def No(h:Heap)(d:J4)(ks:B Value)(ep:Nat):Prop:=∃o es,h.get? d=Z o/\o.ExactDict/\o.data=.dict es ep/\es.toList.map (·.key)=ks
def No.ty{s:pv}{d:J4}{ks:B Value}(q:No s.heap d ks ep):s.TypeIs (.ref d) "dict":=let ⟨o,_,h1,h2,_⟩:=q;⟨o,h1,h2.1⟩
section
variable{prog:Iz}{w:J5}{A:Jo}{E:Value->pv->Prop}{s:pv}{d it:J4}{ks:B Value}{i ep:Nat}
def vg(lo:(d==LC)=ξ)(q:No s.heap d ks ep)
 (k:Q (.ref s.heap.objs.size) {s with heap:=s.heap.push {cls:=.type "dict_keyiterator",data:=.fields #[.ref d,.int 0 0,.int ks.length 0,.int ep 0]}}):wpAny (model prog w) A (pyIter (.ref d)) Q E s:=by
 have⟨o,es,O,e2,U,W⟩:=id q;refine wpAny_pyIter_slot q.ty F.slot_dict_iter (NP F.slot_dict_iter q.ty F.entry_dict_iter ?_ (F.args_dict_iter_1 _));unfold JV.«dict.__iter__»;refine wB ?_;unfold JV.Dict.dictSlotNone;refine wB (Tj q.ty ?_);show wpAny _ _ (pure (HH d)) _ _ s;refine Hf ?_;show wpAny _ _ (Tt d >>= _) _ _ s;unfold Tt;rw[if_neg (by rw[lo];exact Ju)];refine wB (Hf ?_);refine wB (NO O U (wB (Qc O U ?_)));have ez:es.size=ks.length:=by rw[<- W];simp
 refine wB (OE (Hf ⟨_,rfl,"dict_keyiterator",_,⟨_,JW _ rfl,rfl⟩,Tw.lookup,?_⟩));simpa[La,ez] using k
def vh{Q:ζ Value->pv->Prop}(st:s.heap.IsKeyIter it d i ks.length ep)(q:No s.heap d ks ep)(hk:ks[i]?=Z key)
 (k:∀h',h'.IsKeyIter it d (i+1) ks.length ep->L3 it s.heap h'->Q (Z key) {s with heap:=h'}):wpAny (model prog w) A (LI (.ref it)) Q E s:=by
 have⟨oi,i1,i2,W⟩:=id st;have⟨o,es,e1,e2,e3,e4⟩:=id q;unfold LI;refine wB (Wu (R7 (name:=Jv "__next__") st.typeIs Tw (NP Tw st.typeIs qv2 ?_ (qu5 _))));refine wB (Hf (wB (wB ?_)))
 first|refine wB (Wg st.typeIs (Hf ?_))|refine wB (Wi st.typeIs (Hf ?_))
 refine wB (Wr i1 W ?_);have ow:Tu "dict_keyiterator"=ξ:=by decide
 rwa[ow,Ou,if_false];show wpAny _ _ (if(HH d==Kl)=C then _ else _) _ _ s;rw[if_neg (show ¬ ((HH d==Kl)=C)from Ju)];refine wB (Hf (wB (NO e1 e3 ?_)));have ez:es.size=ks.length:=by rw[<- e4];simp
 rw[if_neg (by rw[ez];simp)];refine wB (Hf (wB (Qc e1 e3 ?_)));rw[if_neg Ξ];refine Hf ?_;have li:i<es.size:=by rw[ez];exact(gX hk).1
 have O:es[i].key=key:=by rw[<- e4,HZ,Zd,VY li]at hk;exact JU hk
 rwa[show ¬ ((i:Int)<0)from by lia,if_false,Ow,VY li];refine wB ?_
 first|refine wB (Wg st.typeIs (Hf ?_))|refine wB (Wi st.typeIs (Hf ?_))
 refine wB (zd0 st.typeIs ?_);show wpAny _ _ (setField (.ref it) 1 (La ((i:Int)+1)) >>= _) _ _ s;refine L0 (Tm i1 W Ξ ?_)
 have U:(s.heap.update it (Obj.mapFields (·.setIfInBounds 1 (La ((i:Int)+1))))).IsKeyIter it d (i+1) ks.length ep:=⟨_,Ph _ i1 (zc9 (WG W _)),(Obj.cls_mapFields ..).trans i2,by rw[WG W];simp[La]⟩
 refine wB (OF (wB (zd0 (s:={s with heap:=s.heap.update it (Obj.mapFields (·.setIfInBounds 1 (La ((i:Int)+1))))}) U.typeIs ?_)));show wpAny _ _ (pure es[i].key) _ _ _;rw[O];exact Hf (Hf ⟨_,rfl,Hf (k _ U (Sg ..))⟩)
def y8 {Q:ζ Value->pv->Prop} (nh:A.handled=J) (st:s.heap.IsKeyIter it d i ks.length ep) (q:No s.heap d ks ep) (hi:i=ks.length)
  (k:∀h',WF it s.heap h'->Q J {s with heap:=h'}):wpAny (model prog w) A (LI (.ref it)) Q E s:=by
 have⟨oi,U,i2,O⟩:=id st;have⟨o,es,e1,e2,e3,e4⟩:=id q;unfold LI;refine wB (Wu (R7 (name:=Jv "__next__") st.typeIs Tw (NP Tw st.typeIs qv2 ?_ (qu5 _))));refine wB (Hf (wB (wB ?_)))
 first|refine wB (Wg st.typeIs (Hf ?_))|refine wB (Wi st.typeIs (Hf ?_))
 refine wB (Wr U O ?_);have ow:Tu "dict_keyiterator"=ξ:=by decide
 rwa[ow,Ou,if_false];show wpAny _ _ (if(HH d==Kl)=C then _ else _) _ _ s;rw[if_neg (show ¬ ((HH d==Kl)=C)from Ju)];refine wB (Hf (wB (NO e1 e3 ?_)));have W:es.size=ks.length:=by rw[<- e4];simp
 rw[if_neg (by rw[W];simp)];refine wB (Hf (wB (Qc e1 e3 ?_)));rw[if_neg Ξ];refine Hf ?_;have ge:es.size<=i:=by rw[W];lia
 rwa[show ¬ ((i:Int)<0)from by lia,if_false,Ow,zb5 ge];refine wB ?_
 first|refine wB (Wg st.typeIs (Hf ?_))|refine wB (Wi st.typeIs (Hf ?_))
 show wpAny _ _ (setField (.ref it) 0 .none >>= _) _ _ s;refine L0 (Tm U O Ξ ?_);show wpAny _ _ (newExc (.type "StopIteration") [] >>= _) _ _ _;refine wB ?_;rwa[newExc,newTuple];refine wB (OE ?_ (by size_fits));refine L0 (m:=Sd _ _) (wpAny_of_eq (a:=Kl) (by first|rfl|(rwa[Sd];rfl)) (OE ?_ (by size_fits)));rwa[raiseNew];refine wB (ZK ?_);rw[show A.in1.handled=J from nh];refine wB (Hf (wpAny_throw ?_));refine wB (ZF (b:=true) (T:="StopIteration") ⟨_,JW _ rfl,rfl⟩ isSubtype_stop ?_);exact Hf (k _ (((Sg ..).extBut.push _).push _))
end
def CS:B Dt->ζ T
 |[.int i,.int j]=>Z (.f (.int (if i<j then j else i)))
 |_=>J
def UZ:B V->Hp->VK->Prop:=λxs H Q=>∃i j,xs=[.int i,.int j]/\Q (.int (if i<j then j else i)) H
def sd(hc:X.calm=C):Hx X (.builtin "max") UZ:=qM hc
omit x in
def EY:OP K UZ CS:=by
 intro F H ds vs Q t U r O k;unfold CS at O;rcases O
 cases O;rename_i i j;rwa[jA,HK,G2]at r;have⟨v,ws,rfl,rfl,w,us,rfl,rfl,rfl⟩:=r;exact⟨i,j,rfl,k.int U⟩
noncomputable def dP(ks:B rb):Dt:=.t (ks.map av)
theorem jM{F:Hp}:∀ks:B rb,ag K F (ks.map av) (ks.map kV)
 |[]=>by rwa[Mi,ag]
 |k::ks=>by rwa[Hz,ag];exact⟨_,_,rfl,yJ k,jM ks⟩
def mF{F:Hp}{b:J4}(h:F b=Z (.t (ks.map kV))):G2 K F (dP ks) (.ref b):=by unfold dP;rwa[G2];exact⟨b,_,rfl,Im.of h,jM ks⟩
theorem fV{α β:Type}{R:α->β->Prop}:∀{l:B α}{m:B β},Paired R l m->∀{i:Nat}{a:α},l[i]?=Z a->∃b,m[i]?=Z b/\R a b
 |_,_,.nil,i,a,h=>by simp at h
 |_,_,.cons r t,0,a,h=>by simp at h;subst h;exact⟨_,rfl,r⟩
 |_,_,.cons r t,i+1,a,h=>by simpa using fV t ‹h›
theorem bW{α β:Type}{R:α->β->Prop}:∀{l:B α}{m:B β},Paired R l m->l.length=m.length
 |_,_,.nil=>rfl
 |_,_,.cons r t=>by simp[bW t]
variable{J1:B (B rb×V)}
def CT {w:J5} {h:Heap} (x:Hc P w H h a (.dT J1)):J1.length<=G6/\(a==LC)=ξ/\∃ (bs:B J4) (ob:Obj) (es:Array Wz) (ep:Nat),h.get? a=Z ob/\ob.data=.dict es ep/\No h a (bs.map .ref) ep/\bs.length=J1.length∧
  ∀(j:Nat)(p:B rb×V),J1[j]?=Z p->∃b,bs[j]?=Z b/\H b=Z (.t (p.1.map kV)):=by
 have⟨z,y,xs,r,o,es,ep,h1,h2,O,h4,W⟩:=x;refine⟨z,y,xs.map (·.2.1),o,es,ep,h1,O,⟨o,es,h1,h2,O,?_⟩,by rw[HN,<- bW r],λj p hp=>?_⟩
 .rw[h4,IV,IV];rfl
 .have⟨q,U,_,hb,_⟩:=fV r hp;exact⟨q.2.1,by rw[HZ,U];rfl,hb⟩
section
variable{X:Cx}{tg:J8}
def Ar{s:pv}(I:b7 X J0 Y H s)(h:Rd H a u):Hc X.prog X.w H s.heap a u:=by
 rcases h with h|⟨o,h⟩
 .exact I.Hb a _ h
 .exact(I.Hb a _ h).2
end
def kW:typeLookup (.type "list") "keys"=pure J:=by rw[typeLookup_type,zd1];kernel_rfl
def jc:typeLookup (.type "tuple") "keys"=pure J:=by rw[typeLookup_type,zd1];kernel_rfl
def aW:plainId "dict.update.loop"=C:=χ
def de:entryFor table "dict.update.loop"=Z JV.«dict.update.loop»:=entryFor_of_fast (by kernel_rfl)
noncomputable def U0(b:Bool):String:=if b then "list" else "tuple"
section
variable{prog:Iz}{w:J5}{A:Jo}{E:Value->pv->Prop}{s:pv}{a it:J4}{J3:Array Value}{c:Nat}{sl:Array (ζ Value)}{b:Bool}{i:Nat}
def se {Q:ζ Value->pv->Prop} (W:s.heap.get? a=Z {cls:=.type (U0 b),dict:=J,data:=.seq J3 c,slots:=sl}) (hh:A.handled=J)
  (hQ:∀h' tk,(∀b ob,s.heap.get? b=Z ob->h'.get? b=Z ob)->Q J {s with heap:=h',toks:=tk}) :
  wpAny (model prog w) A (getAttr? (.ref a) "keys") Q E s:=by
 have⟨h,g,d,t,os⟩:=s;have f1:=sub_AttributeError;cases b with
 |true=>
  replace W:h.get? a=Z {cls:=.type "list",dict:=J,data:=.seq J3 c,slots:=sl}:=W
  have hT:∀U,(⟨h,g,d,U,os⟩:pv).TypeIs (.ref a) "list":=λ_=>⟨_,W,rfl⟩
  have f3:=ZX.lookup;have f4:=ZX.bind (.ref a);have f5:=am_list_getattr_none;unfold getAttr? getAttrBy? getAttrBy
  repeat (any_goals (first|assumption|exact hT _|((with_reducible show wpAny _ _ (call (Value.builtin "list.__getattribute__") _ _) _ _ _);refine QN ZX (hT _) am_entry_list_getattribute (F.args_list_getattribute_2 _ _) (meets_getattribute_miss_list a J3 c sl "keys" _ kW χ) ⟨W,hh,λh' U e O=>?_⟩)|wp_step))
  have⟨t',u',he⟩:=O.there;show wpAny _ _ (Wl _ _ _ _ _ _ _) _ _ _;unfold Wl
  repeat (any_goals (first|assumption|wp_step))
  exact hQ _ _ O.keeps
 |false=>
  replace W:h.get? a=Z {cls:=.type "tuple",dict:=J,data:=.seq J3 c,slots:=sl}:=W
  have hT:∀U,(⟨h,g,d,U,os⟩:pv).TypeIs (.ref a) "tuple":=λ_=>⟨_,W,rfl⟩
  have f3:=ZW.lookup;have f4:=ZW.bind (.ref a);have f5:=am_tuple_getattr_none;unfold getAttr? getAttrBy? getAttrBy
  repeat (any_goals (first|assumption|exact hT _|((with_reducible show wpAny _ _ (call (Value.builtin "tuple.__getattribute__") _ _) _ _ _);refine QN ZW (hT _) am_entry_tuple_getattribute (F.args_tuple_getattribute_2 _ _) (meets_getattribute_miss_tuple a J3 c sl "keys" _ jc χ) ⟨W,hh,λh' U e O=>?_⟩)|wp_step))
  have⟨t',u',he⟩:=O.there;show wpAny _ _ (Wl _ _ _ _ _ _ _) _ _ _;unfold Wl
  repeat (any_goals (first|assumption|wp_step))
  exact hQ _ _ O.keeps
def sf{l:J4}{Q:ζ Value->pv->Prop}(hh:A.handled=J)(O:L7 b s.heap it l i)(hl:Ni b s.heap l J3)(U:J3[i]?=J)(W:∀h',WF it s.heap h'->Q J {s with heap:=h'}):wpAny (model prog w) A (LI (.ref it)) Q E s:=by
 cases b with
 |true=>exact zc0 hh O hl U W
 |false=>exact zb2 hh O hl U W
def EZ{l:J4}{x:Value}{Q:ζ Value->pv->Prop}(O:L7 b s.heap it l i)(hl:Ni b s.heap l J3)(U:J3[i]?=Z x)(W:∀h',L7 b h' it l (i+1)->L3 it s.heap h'->Q (Z x) {s with heap:=h'}):wpAny (model prog w) A (LI (.ref it)) Q E s:=by
 cases b with
 |true=>exact zb1 O hl U W
 |false=>exact qz5 O hl U W
def E4{l:J4}(hl:Ni b s.heap l J3)(O:∀h',L7 b h' s.heap.objs.size l 0->(∀b o,s.heap.get? b=Z o->h'.get? b=Z o)->Q (.ref s.heap.objs.size) {s with heap:=h'}):wpAny (model prog w) A (pyIter (.ref l)) Q E s:=by
 cases b with
 |true=>exact wpAny_pyIter_list hl (O _ ⟨_,JW _ rfl,rfl,rfl⟩ λ_ _ e=>gP _ e)
 |false=>exact Wj hl (O _ ⟨_,JW _ rfl,rfl,rfl⟩ λ_ _ e=>gP _ e)
end
variable{items:Array Value}{ps:B (rb×Value)}
section
variable{prog:Iz}{w:J5}{A:Jo}
noncomputable def cr(J1:B (rb×Value)):B (rb×Value)->B (rb×Value)
 |[]=>J1
 |p::ps=>cr (stored J1 p.1 p.2) ps
structure Ko(prog:Iz)(w:J5)(h:Heap)(it δ:J4)(items:Array Value)(ps:List (rb×Value)):Prop where
 len:items.size=ps.length
 at_:∀(j:Nat)(p:rb×Value),ps[j]?=Z p->∃t key o n,items[j]?=Z (.ref t)/\t≠it/\t≠δ/\(am prog w).is p.1 key=C/\h.get? t=Z o/\o.cls=.type "tuple"/\o.data=.seq #[key,p.2] n
def Ko.keep{h:Heap}{it:J4}(P:Ko prog w h it δ items ps)(k:∀b o,b≠it->b≠δ->h.get? b=Z o->h'.get? b=Z o):Ko prog w h' it δ items ps:=⟨P.len,λj p hp=>by have⟨t,key,o,n,h1,h2,O,h4,h5,U,W⟩:=P.at_ j p hp;exact⟨t,key,o,n,h1,h2,O,h4,k t o h2 O h5,U,W⟩⟩
def vi {b:Bool} {l it:J4} {O:Value} (hlD:l≠δ) (hli:l≠it) (hiD:it≠δ) :
  ∀(k i:Nat)(A:Jo)(s:pv)(J1:B (rb×Value))(R:Result->pv->Prop),A.handled=J->ps.length-i=k->i<=ps.length->L7 b s.heap it l i->Ni b s.heap l items->Ko prog w s.heap it δ items ps->s.heap.DictOf (am prog w) δ J1→
   J1.length+(ps.length-i)<=G6→
   (∀h' tk,h'.DictOf (am prog w) δ (cr J1 (ps.drop i))->(∀b o,b≠it->b≠δ->s.heap.get? b=Z o->h'.get? b=Z o)->R (.ok (.ret O)) {s with heap:=h',toks:=tk})→
   NC (model prog w) A (.builtin "dict.update.loop" ⟨[.ref δ,.ref it,La i,O],[]⟩) R s:=by
 intro k;induction k with
 |zero=>
  intro i A s J1 R hh hk hi hit hl hP hD hz hR;have Np:i=ps.length:=by lia
  subst Np;refine Wo de ?_;rw[WB aW _];unfold JV.«dict.update.loop»;show wpAny _ _ (LI (.ref _) >>= _) _ _ _;refine L0 (sf hh hit hl (by rw[<- hP.len];simp) λh' eb=>?_);refine wB (Hf (Hf (hR h' s.toks ?_ λb o hb _ e=>eb b o hb e)));rw[V6];exact hD.extBut eb (JQ hiD)
 |succ k ih=>
  intro i A s J1 R hh hk hi hit hl hP hD hz hR;have L5:i<ps.length:=by lia
  have⟨t,key,o,n,h1,h2,h3,h4,h5,h6,h7⟩:=hP.at_ i ps[i] (by simp[L5]);refine Wo de ?_;rw[WB aW _];unfold JV.«dict.update.loop»;show wpAny _ _ (LI (.ref _) >>= _) _ _ _;refine wB (EZ hit hl h1 λh' hit' sb=>?_);have h5':h'.get? t=Z o:=(sb.2 t h2).trans h5;have hD':h'.DictOf (am prog w) δ J1:=hD.sameBut sb (JQ hiD);show wpAny _ _ (LE [HH t] _ >>= _) _ _ _;refine wB (OF (wB (wpAny_tryCatch ?_)));unfold JV.Dict.pairItems;refine wB (ZM (T:="tuple") ⟨o,h5',h6⟩ ?_);rw[if_pos Ω];refine wB (Wq h5' h7 ?_);refine Hf ?_;show wpAny _ _ (LE [key,ps[i].2] (dictSet δ key ps[i].2)) _ _ _;refine OF (wpAny_dictSet_pairs (hsz:=by lia) h4 hD' λW hD'' sb'=>?_);refine Hf ⟨Tp aW _,?_⟩
  have kp:∀b o,b≠it->b≠δ->s.heap.get? b=Z o->W.get? b=Z o:=λb o hb U e=>by rw[sb'.2 b U,sb.2 b hb];exact e
  have hl':Ni b W l items:=by cases b<;>(have⟨ol,e1,e2⟩:=hl;exact⟨ol,kp l ol hli hlD e1,e2⟩)
  have U1:L7 b W it l (i+1):=hit'.at λo e=>by rw[sb'.2 it hiD];exact e
  refine ih (i+1) _ _ (stored J1 ps[i].1 ps[i].2) R hh Θ Θ U1 hl' (hP.keep kp) hD'' ?_ λh3 tk hD3 Pz=>hR h3 tk ?_ λb o hb U e=>Pz b o hb U (kp b o hb U e)
  .have:=stored_length_le J1 ps[i].1 ps[i].2;lia
  .have:ps.drop i=ps[i]::ps.drop (i+1):=Zj L5;rw[this];exact hD3
variable{E:Value->pv->Prop}{s:pv}{a:J4}{J3:Array Value}{c:Nat}{sl:Array (ζ Value)}
def jd{b:Bool}{ps:B (rb×Value)}(hx:s.heap.get? a=Z {cls:=.type (U0 b),dict:=J,data:=.seq J3 c,slots:=sl})(hh:A.handled=J)(hl:J3.size=ps.length)(hz:ps.length<=G6)
 (hp:∀(j:Nat)(p:rb×Value),ps[j]?=Z p->∃t key o n,J3[j]?=Z (.ref t)/\(am prog w).is p.1 key=C/\s.heap.get? t=Z o/\o.cls=.type "tuple"/\o.data=.seq #[key,p.2] n)
 (hQ:∀h' tk,h'.DictOf (am prog w) s.heap.objs.size (cr [] ps)->(∀b ob,s.heap.get? b=Z ob->h'.get? b=Z ob)->Q (.ref s.heap.objs.size) {s with heap:=h',toks:=tk}) :
  wpAny (model prog w) A (call (.type "dict") [.ref a]) Q E s:=by
 refine callType_codes (Q₁:=λobj s₁=>obj=.ref s.heap.objs.size/\s₁={s with heap:=s.heap.push {cls:=.type "dict",data:=.dict #[]}}) F.kt_called_dict (F.kt_typeCall_dict_1 _) F.entry_dict_init (kt_code_dict_new _ ⟨rfl,rfl⟩) ?_;rintro obj s₁ ⟨rfl,rfl⟩;have O:(s.heap.push {cls:=.type "dict",data:=.dict #[]}).DictOf (am prog w) s.heap.objs.size []:=Heap.DictOf.new s.heap;have Qq:(s.heap.push {cls:=.type "dict",data:=.dict #[]}).get? a=Z {cls:=.type (U0 b),dict:=J,data:=.seq J3 c,slots:=sl}:=gP _ hx;refine⟨O.typeIs,F.args_dict_init_2 _ _,?_⟩;unfold JV.«dict.__init__»;refine wB ?_;unfold JV.Dict.selfAndRest;refine wB (Tj O.typeIs ?_);show wpAny _ _ (pure (s.heap.objs.size,[HH a])) _ _ _;refine Hf ?_;show wpAny _ _ (qz8 "dict.__init__" s.heap.objs.size (.ref a) [] .none) _ _ _;unfold qz8;refine wB (ZM (T:=U0 b) ⟨_,Qq,rfl⟩ ?_);rw[if_pos (by cases b<;>decide)];refine wB (se Qq hh λh' tk kp=>?_);rw[if_pos (by rfl)];refine wB (wpAny_rule ?_);have SI:=kp _ _ Qq;have hc2:Ni b h' a J3:=by cases b<;>exact⟨_,SI,rfl,_,rfl⟩
 refine wB (E4 hc2 λh'' hit W=>?_);refine Hf ⟨Tp aW _,?_⟩;have ha:a<s.heap.objs.size:=Ii hx;have⟨oD,esD,epD,eD,U2⟩:=O;have U:s.heap.objs.size<h'.objs.size:=Ii (kp _ _ eD);refine vi (b:=b) (l:=a) (it:=h'.objs.size) (δ:=s.heap.objs.size) (items:=J3) (ps:=ps) (IS ha) (IS (OB ha U)) (JQ (IS U)) ps.length 0 _ _ [] _ hh Ξ (Ml _) hit (by cases b<;>exact⟨_,W _ _ SI,rfl,_,rfl⟩) ⟨hl,λj p hj=>?_⟩ ⟨oD,esD,epD,W _ _ (kp _ _ eD),U2⟩ ‹hz› λh3 tk3 hD3 Pz=>⟨rfl,?_⟩
 .have⟨t,key,o,n,h1,h2,h3,h4,h5⟩:=hp j p hj;have ht:=Ii h3;exact⟨t,key,o,n,h1,IS (OB ht U),IS ht,h2,W _ _ (kp _ _ (gP _ h3)),h4,h5⟩
 .refine hQ h3 tk3 ‹hD3› λb ob e=>Pz b ob (IS (OB (Ii e) U)) (IS (Ii e)) (W _ _ (kp _ _ (zb0 _ e)))
end
def aO(J1:B (rb×V)):B (rb×V)->B (rb×V)
 |[]=>J1
 |p::ps=>aO (ar J1 p.1 p.2) ps
theorem KV.all:∀{ps:B (rb×V)}{O:B (rb×Value)}{J1:B (rb×V)}{vs:B (rb×Value)},KV ps O->KV J1 vs->KV (aO J1 ps) (cr vs O)
 |[],[],_,_,_,r=>r
 |[],_::_,_,_,h,_=>by cases h
 |_::_,[],_,_,h,_=>by cases h
 |p::ps,q::O,J1,vs,h,r=>by
  cases h with
  |cons hp W=>have⟨e,U⟩:=hp;have:=KV.all W (r.put p.1 U);show KV (aO (ar J1 p.1 p.2) ps) (cr (stored vs q.1 q.2) O);rw[<- e];exact this
theorem dQ:∀(ps J1:B (rb×V)),(aO J1 ps).length<=J1.length+ps.length
 |[],J1=>by simp[aO]
 |p::ps,J1=>by have h1:=dQ ps (ar J1 p.1 p.2);have h2:=cT J1 p.1 p.2;rwa[aO,JK];lia
section
variable{X:Cx}
def E5(K:xA9):B V->Hp->VK->Prop:=λxs H Q=>∃(a:J4)(vs:B V)(ps:B (rb×V)),xs=[.ref a]/\(∃b,OR b K H a vs)/\vs.length=ps.length∧(∀(j:Nat)(p:rb×V),ps[j]?=Z p->∃t,vs[j]?=Z (.ref t)/\Im K H t [kV p.1,p.2])/\∀p,H p=J->Q (.ref p) (upd H p (.dK (aO [] ps)))
def nY(hc:X.calm=C):Hx X (.type "dict") (E5 X.K):=by
 intro J0 s Y H xs us Q I r h;have⟨a,vs,ps,rfl,⟨b,hq⟩,hl,hp,q⟩:=h;have⟨u,rfl,rx⟩:=dF r;cases rx
 have hs:∃J3:B Value,E3 vs J3/\(∃n sl,s.heap.get? a=Z {cls:=.type (U0 b),dict:=J,data:=.seq J3.toArray n,slots:=sl})/\vs.length<=G6:=by
  cases b with
  |true=>have⟨J3,rv,⟨⟨cls,dd,data,sl⟩,n,ho,h1,h2,h3⟩,hz⟩:=I.list hq;simp only at h1 h2 h3;subst h1 h2 h3;exact⟨J3,rv,⟨n,sl,ho⟩,hz⟩
  |false=>have⟨J3,rv,⟨⟨⟨cls,dd,data,sl⟩,ho,h1,n,h2⟩,h3⟩,hz⟩:=I.tup hq;have h3:=h3 _ ho;simp only at h1 h2 h3;subst h1 h2 h3;exact⟨J3,rv,⟨n,sl,ho⟩,hz⟩
 have⟨J3,rv,⟨n,sl,ho⟩,hz⟩:=hs
 -- MU values of MU pairs
 have ex:∀(j:Nat)(p:rb×V),ps[j]?=Z p->∃t key u n o,J3[j]?=Z (.ref t)/\Da (kV p.1) key/\Da p.2 u/\s.heap.get? t=Z o/\o.cls=.type "tuple"/\o.data=.seq #[key,u] n:=λj p U=>by have⟨t,ht,hT⟩:=hp j p U;have⟨u0,hu0,ru0⟩:=rv.get ht;obtain rfl:u0=HH t:=ru0;have⟨ws,rws,⟨o,eo,ec,n,ed⟩,_⟩:=I.tuple hT;have⟨x,y,rfl,rx,ry⟩:=tj rws;exact⟨t,x,y,n,o,hu0,rx,ry,eo,ec,ed⟩
 have exq:∃O:B (rb×Value),KV ps O/\∀(j:Nat)(p:rb×Value),O[j]?=Z p->∃t key o n,J3[j]?=Z (.ref t)/\(am X.prog X.w).is p.1 key=C/\s.heap.get? t=Z o/\o.cls=.type "tuple"/\o.data=.seq #[key,p.2] n:=by
  have key:∀ (ps:B (rb×V)) (J3:B Value),(∀ (j:Nat) (p:rb×V),ps[j]?=Z p->∃ t key u n o,J3[j]?=Z (.ref t)/\Da (kV p.1) key/\Da p.2 u/\s.heap.get? t=Z o/\o.cls=.type "tuple"/\o.data=.seq #[key,u] n)→
      ∃O:B (rb×Value),KV ps O/\∀(j:Nat)(p:rb×Value),O[j]?=Z p->∃t key o n,J3[j]?=Z (.ref t)/\(am X.prog X.w).is p.1 key=C/\s.heap.get? t=Z o/\o.cls=.type "tuple"/\o.data=.seq #[key,p.2] n:=λps=>by
   induction ps with
   |nil=>exact λJ3 _=>⟨[],.nil,λj p h=>by simp at h⟩
   |cons p ps ih=>
    intro J3 h;have⟨t,k,u,n,o,e1,e2,e3,e4,e5,e6⟩:=h 0 p rfl;cases J3 with
    |nil=>simp at e1
    |cons v J3=>
     have⟨O,r1,r2⟩:=ih J3 λj p U=>h (j+1) p ‹U›
     refine⟨(p.1,u)::O,.cons ⟨rfl,e3⟩ r1,λj q U=>?_⟩;cases j with
     |zero=>simp at U;subst U;exact⟨t,k,o,n,‹e1›,hW e2,e4,e5,e6⟩
     |succ j=>simpa using r2 j q ‹U›
  exact key ps J3 ex
 have⟨O,rq,KJ⟩:=exq;have W:J3.length=O.length:=by rw[<- rv.length,hl];exact rq.length
 have hzz:O.length<=G6:=by rw[<- W,<- rv.length];exact hz
 refine jd (b:=b) ho (I.ok.hd hc) ‹W› hzz (λj p U=>by have⟨t,key,o,n,e1,e2⟩:=KJ j p U;exact⟨t,key,o,n,‹e1›,e2⟩) λh' tk hD kp=>⟨.ref s.heap.objs.size,_,I.laid (a:=s.heap.objs.size) (o:=.dK (aO [] ps)) (t':=tk) kp (Tf _) ?_,rfl,q _ (I.Hb.fresh (Tf _))⟩
 refine nB ?_ (beq_eq_false_iff_ne.mpr (JQ (IS I.big))) (KV.all rq .nil) hD;have:=dQ ps [];have:=rq.length;simp at*
 lia
end
structure Oh(kv:List (Value×Value))(lo:J4)(h:Heap)(as:List J4):Prop where
 rise:as.Pairwise (· < ·)
 above:∀a∈as,lo<a
 pairs:∀(j:Nat)(a:J4),as[j]?=Z a->∃p,kv[j]?=Z p/\h.get? a=Z {cls:=.type "tuple",data:=.seq #[p.1,p.2]}
def Oh.there{lo:J4}{h:Heap}{as:B J4}(g:Oh kv lo h as)(U:a∈as):a<h.objs.size:=by have⟨j,O⟩:=R1.mp U;have⟨_,_,e⟩:=g.pairs j a O;exact Ii e
def Lr.keep{h:Heap}{it d S:J4}{i n:Nat}(x:Lr h it d i n ep)(U:∀b o,b≠S->h.get? b=Z o->h'.get? b=Z o)(hS:∃o,h'.get? S=Z o)(hI:it≠S):Lr h' it d i n ep:=by
 have⟨x0,f,ok,ov,O,ho⟩:=x;refine⟨x0,f,ok,ov,U _ _ hI O,ho.imp_right λ⟨a,e,W,oa,h1⟩=>⟨a,e,W,?_⟩⟩;by_cases hz:a=S
 .subst hz;exact hS
 .exact⟨oa,U a oa hz h1⟩
section
variable{prog:Iz}{w:J5}{A:Jo}{E:Value->pv->Prop}{s:pv}{R:Result->pv->Prop}{kv:B (Value×Value)}{ep:Nat}
def si {S I d:J4} (nh:A.handled=J) (hSI:S<I) (U3:d≠S) (hId:d≠I) (hn:kv.length<=G6) (res:Value) {h1:Heap}
  (hR:∀h' tk O c as,(∀b o,b≠S->b≠I->h1.get? b=Z o->h'.get? b=Z o)->h'.get? S=Z {cls:=.type "list",dict:=J,data:=.seq O c,slots:=#[]}->as.length=kv.length->Oh kv I h' as→
   O.toList=as.map HH->R (.ok (.ret res)) {s with heap:=h',toks:=tk}) :
  ∀(k i:Nat)(h:Heap)(tk c:Nat)(O:Array Value)(as:B J4),kv.length-i=k->i<=kv.length->Lr h I d i kv.length ep->Jt h d kv ep->(∀b o,b≠S->b≠I->h1.get? b=Z o->h.get? b=Z o)→
   h.get? S=Z {cls:=.type "list",dict:=J,data:=.seq O c,slots:=#[]}->O.toList=as.map HH->as.length=i->Oh kv I h as->I<h.objs.size→
   NC (model prog w) A (.builtin "list.extend.loop" ⟨[.ref S,.ref I,res],[]⟩) R {s with heap:=h,toks:=tk}:=by
 have Nh:S≠I:=IS hSI;intro k;induction k with
 |zero=>
  intro i h tk c O as hk hi Rr hD U hS W Xj hG hIs;have Np:i=kv.length:=by lia
  refine Wo PySem.F.entry_extend_loop ?_;rw[WB PySem.F.plain_extend_loop _];show wpAny _ A.in1 (LI (.ref I) >>= _) _ _ _;refine wB (vc (s:={s with heap:=h,toks:=tk}) (A:=A.in1) nh Rr hD Np λh' he=>?_);refine Hf (hR h' tk O c as (λb o h1 h2 e=>he b o h2 (U b o h1 h2 e)) (he S _ Nh hS) Θ ⟨hG.rise,hG.above,λj a hj=>?_⟩ W);have⟨p,e1,e2⟩:=hG.pairs j a hj;exact⟨p,e1,he a _ (NA (hG.above a (Il hj))) e2⟩
 |succ k ih=>
  intro i h tk c O as hk hi Rr hD U hS W Xj hG hIs;have L5:i<kv.length:=by lia
  obtain⟨⟨ky,x⟩,hx⟩:∃p,kv[i]?=Z p:=⟨kv[i],gQ L5⟩;have hsz:O.size=i:=by rw[<- S7,W,HN,Xj]
  refine Wo PySem.F.entry_extend_loop ?_;rw[WB PySem.F.plain_extend_loop _];show wpAny _ A.in1 (LI (.ref I) >>= _) _ _ _;refine wB (r0 (s:={s with heap:=h,toks:=tk}) Rr hD hx λh' hst' ht hz U4=>?_);dsimp only at ht hz U4 ⊢;have U5:=U4 S _ Nh hS;have up:∀b o,b≠S->h'.get? b=Z o->(h'.update S (MQ (·.push (HH h.objs.size)))).get? b=Z o:=λb o hb e=>(Sf _ _ (JQ hb)).trans e
  have hSl:S<h.objs.size:=Ii hS;show wpAny _ A.in1 (WA S (·.push (HH h.objs.size)) >>= _) _ _ _
  refine wB (Wp U5 rfl (Hf ⟨Tp PySem.F.plain_extend_loop _,ih (i+1) _ tk _ (O.push (HH h.objs.size)) (as++[h.objs.size]) Θ L5 (hst'.keep up ⟨_,Ph _ U5 rfl⟩ (JQ Nh)) (hD.upTo λo e=>up d o U3 (U4 d o hId e))
   (λb o h1 h2 e=>up b o h1 (U4 b o h2 (U b o h1 h2 e))) (Ph _ U5 rfl) (by rw[Array.toList_push,W,KW];rfl) (by rw[Kj,Xj];rfl) ⟨?_,?_,?_⟩ ?_⟩) (by rw[hsz];lia) (by show(O.push (HH h.objs.size)).size<=G6+1;rw[Array.size_push,hsz];lia))
  .refine List.pairwise_append.mpr ⟨hG.rise,Zm _ _,λa ha b hb=>?_⟩;rw[R3.mp hb];exact hG.there ha
  .intro a ha;rcases JC.mp ha with ha|ha
   .exact hG.above a ha
   .rw[R3.mp ha];exact hIs
  .intro j b hj;rcases Nat.lt_trichotomy j as.length with h1|h1|h1
   .rw[gL h1]at hj;have⟨p,e1,e2⟩:=hG.pairs j b hj;have hb:=hG.above b (Il hj);exact⟨p,e1,up b _ (NA (OB hSI hb)) (U4 b _ (NA hb) e2)⟩
   .subst h1;have hb:h.objs.size=b:=‹hj›
    subst hb;exact⟨_,by rw[Xj];exact hx,up _ _ (NA hSl) ht⟩
   .have U6:(as++[h.objs.size])[j]?=J:=Oy (by rw[Kj,V2];lia);rw[U6]at hj;cases hj
  .have e:(h'.update S (MQ (·.push (HH h.objs.size)))).get? h.objs.size=_:=up _ _ (NA hSl) ht;exact OB hIs (Ii e)
variable{r d:J4}
def sj(nh:A.handled=J)(hv:s.heap.IsItemsView r d)(hm:Jt s.heap d kv ep)(hn:kv.length<=G6)
 (hQ:∀h' tk acc c as,(∀b o,s.heap.get? b=Z o->h'.get? b=Z o)->h'.get? s.heap.objs.size=Z {cls:=.type "list",dict:=J,data:=.seq acc c,slots:=#[]}->as.length=kv.length->Oh kv s.heap.objs.size h' as→
 acc.toList=as.map HH->Q (.ref s.heap.objs.size) {s with heap:=h',toks:=tk}) :
  wpAny (model prog w) A (call (.type "list") [.ref r]) Q E s:=by
 refine callType_codes (Q₁:=λobj s₁=>obj=.ref s.heap.objs.size/\s₁={s with heap:=s.heap.push {cls:=.type "list",data:=.seq #[]}}) PySem.F.called_list (PySem.F.typeCall_list_1 _) PySem.F.entry_list_init
  (code_list_new _ ⟨rfl,rfl⟩) λobj s₁ Mu=>?_
 have⟨rfl,rfl⟩:=Mu;have hS:(s.heap.push {cls:=.type "list",data:=.seq #[]}).get? s.heap.objs.size=Z {cls:=.type "list",data:=.seq #[]}:=JW _ rfl;have hr:r<s.heap.objs.size:=let ⟨_,ho,_⟩:=hv;Ii ho;have hd:d<s.heap.objs.size:=hm.lt;have hSr:=NA hr;have U3:d≠s.heap.objs.size:=IS hd;refine⟨⟨_,hS,rfl⟩,PySem.F.args_list_init_2 _ _,?_⟩;generalize hh:s.heap.push {cls:=.type "list",data:=.seq #[]}=h0 at hS;have kp:∀b o,s.heap.get? b=Z o->h0.get? b=Z o:=λb o e=>by rw[<- hh];exact gP _ e
 have hsz:h0.objs.size=s.heap.objs.size+1:=by rw[<- hh,QS]
 generalize hSe:s.heap.objs.size=S at*
 show wpAny _ _ (do let old <- zb6 (.ref S);JV.List.listUpdate (.ref S) (λ_=>#[]);letGo old.toList.reverse;ZQ (.ref S) (.ref r) .none) _ _ _;refine wB ?_;unfold zb6;refine wB (Wq hS rfl (Hf ?_));show wpAny _ _ (WA S (λ_=>#[]) >>= λ_=>letGo (#[]:Array Value).toList.reverse >>= λ_=>ZQ (.ref S) (.ref r) .none) _ _ _;refine wB (Wp hS rfl ?_);have hS2:=Ph (MQ (λ_=>(#[]:Array Value))) hS rfl;have SJ:∀b o,b≠S->h0.get? b=Z o->(h0.update S (MQ (λ_=>(#[]:Array Value)))).get? b=Z o:=λb o hb e=>(Sf _ _ (JQ hb)).trans e
 generalize h0.update S (MQ (λ_=>(#[]:Array Value)))=h2 at hS2 SJ;refine wB (wpAny_letGo ?_);have PB:h2.IsItemsView r d:=let ⟨o,ho,x⟩:=hv;⟨o,SJ r o (JQ hSr) (kp r o ho),x⟩;have hm2:Jt h2 d kv ep:=hm.upTo λo e=>SJ d o U3 (kp d o e)
 have kp2:∀b o,s.heap.get? b=Z o->b≠S->h2.get? b=Z o:=λb o e hb=>SJ b o hb (kp b o e)
 unfold ZQ;refine wB (ZM (T:="dict_items") (let ⟨o,ho,hc,_⟩:=PB;⟨o,ho,hc⟩) ?_);have q1:qz1 (.ref S) (.ref r)=ξ:=by simp[qz1,hSr]
 have q2:(OH "dict_items"==OH "list")=ξ:=by decide
 have q3:(OH "dict_items"==OH "tuple")=ξ:=by decide
 rwa[q1,q2,q3,Bool.or_false,Ou,if_false];refine wB (rZ PB hm2 λh3 Xk Pz lt3=>?_);dsimp only at Xk Pz lt3 ⊢;have O:S<h2.objs.size:=Ii hS2;have hS3:=Pz _ _ hS2
 have key:∀ (h:Heap) (c1 tk:Nat),(∀ b o,b≠S->h3.get? b=Z o->h.get? b=Z o)->h.get? S=Z {cls:=.type "list",data:=.seq #[] c1}->Lr h h2.objs.size d 0 kv.length ep->h2.objs.size<h.objs.size→
     NC (model prog w) A.in1 (.builtin "list.extend.loop" ⟨[.ref S,.ref h2.objs.size,.none],[]⟩) (wants (λr U=>r=Kl/\Q (HH S) U) E) {s with heap:=h,toks:=tk}:=by
  intro h c1 tk hk Xl hit L5
  refine si (A:=A.in1) (R:=wants (λr U=>r=Kl/\Q (HH S) U) E) (kv:=kv) (ep:=ep) (s:=s) (h1:=s.heap) nh O U3 (IS (OB Θ O)) hn .none (λh' tk' acc c as hk' U5 hl hG hacc=>⟨rfl,hQ h' tk' acc c as (λb o e=>hk' b o (IS (by rw[<- hSe];exact Ii e)) (IS (OB (by rw[<- hSe];exact Ii e) O)) e) U5 hl ⟨hG.rise,λa ha=>OB O (hG.above a ha),hG.pairs⟩ hacc⟩)
   kv.length 0 h tk c1 #[] [] (Wa _) (Ml _) hit (hm2.upTo λo e=>hk d o U3 (Pz d o e)) (λb o hb _ e=>hk b o hb (Pz b o (kp2 b o e hb))) Xl rfl rfl ⟨Zu,(λ_ ha=>nomatch ha),(λj a hj=>by simp at hj)⟩ L5
 refine wB (OF (PySem.W.kdx_hint (let ⟨o,ho,hc,_⟩:=PB;⟨o,Pz r o ho,hc⟩) ?_));refine wpAny_ite_split (λ_=>?_) (λ_=>Hf ⟨Tp PySem.F.plain_extend_loop _,key _ _ _ (λb o _ e=>e) hS3 Xk lt3⟩);refine wB (wpAny_rule (wB ?_));show wpAny _ _ (WA S (·.push .none) >>= λ_=>WA S (·.pop)) _ _ _;refine wB (Wp hS3 rfl ?_);have hS4:=Ph (MQ (·.push Kl)) hS3 rfl;refine Wp (hz:=by seq_fits) hS4 rfl ?_;have hS5:=Ph (MQ (·.pop)) hS4 rfl;have hk5:∀b o,b≠S->h3.get? b=Z o->((h3.update S (MQ (·.push Kl))).update S (MQ (·.pop))).get? b=Z o:=λb o hb e=>(Sf _ _ (JQ hb)).trans ((Sf _ _ (JQ hb)).trans e)
 refine Hf ⟨Tp PySem.F.plain_extend_loop _,key _ _ _ hk5 hS5 (Xk.keep hk5 ⟨_,hS5⟩ (NA O)) ?_⟩;have:∃o,h3.get? h2.objs.size=Z o:=let ⟨_,_,_,_,e,_⟩:=Xk;⟨_,e⟩;have⟨o,ho⟩:=this;exact Ii (hk5 _ o (NA O) ho)
end
section
variable{X:Cx}{J0:B (J4×Obj)}{Y:St}{H H':Hp}{s:pv}{h':Heap}
def b7.more (I:b7 X J0 Y H s) (k:∀ b u,s.heap.get? b=Z u->h'.get? b=Z u) (hs:rp H H') (O:∀ b,b<s.heap.objs.size->H b=J->H' b=J) (new:∀ b o,H' b=Z o->H b=J->Hc X.prog X.w H' h' b o) :
  b7 X J0 Y H' {s with heap:=h',toks:=t'}:=
 I.un ⟨λb u q _ _ _=>k b u q,λb u q _ _ _=>⟨u.slots,k b u q⟩,λb u q n _=>O b (Ii q) n,λb u q _=>⟨u,k b u q⟩,λb xs q=>hs _ _ q,λb u xs q=>hs _ _ q,λb ps q=>⟨#[],by rw[hs _ _ q];simp⟩,λb U q=>hs _ _ q⟩ λb o e=>by
  cases q:H b with
  |none=>exact new b o e q
  |some u=>have:=hs b u q;rw[e]at this;cases this;exact(I.Hb b o q).Kv (λc v _ q=>k c v q) (λc q=>hs _ _ q) (λc xs q=>hs _ _ q) λc ob xs q=>hs _ _ q
def eY(H:Hp):B J4->B (B V)->Hp
 |t::ts,p::ps=>upd (eY H ts ps) t (.t p)
 |_,_=>H
theorem kX:∀{ts:B J4}{ps:B (B V)}{j:Nat}{t:J4}{p:B V},ts.Nodup->ts[j]?=Z t->ps[j]?=Z p->eY H ts ps t=Z (.t p)
 |[],_,j,t,p,_,h,_=>by simp at h
 |t::ts,[],j,_,p,_,_,h=>by simp at h
 |t::ts,q::ps,0,_,_,_,h,h'=>by simp at h h';subst h h';exact ac
 |t::ts,q::ps,j+1,x,p,O,h,h'=>by rwa[KU]at h h';have O:=Jr.mp O;rwa[eY];rw[aa λe=>O.1 (by rw[<- e];exact Il h)];exact kX O.2 h h'
theorem cH{b:J4}:∀{ts:B J4}{ps:B (B V)},b∉ts->eY H ts ps b=H b
 |[],_,_=>rfl
 |t::ts,[],_=>rfl
 |t::ts,q::ps,h=>by rwa[IE,not_or]at h;rwa[eY];rw[aa h.1];exact cH h.2
def jN:∀{ts:B J4}{ps:B (B V)},(∀t∈ts,H t=J)->rp H (eY H ts ps):=λ{ts ps} h b o e=>by rw[cH λz=>by rw[h b z]at e;cases e];exact e
end
noncomputable def Rs(v d:J4):HO:=.ext λh=>h.IsItemsView v d
section
variable{X:Cx}
def rItm:V->B V->Hp->VK->Prop:=λx vs H Q=>∃d J1,x=.ref d/\vs=[]/\Rd H d (.dT J1)/\∀v,H v=J->Q (.ref v) (upd H v (Rs v d))
def pH {w:J5} {h:Heap} (x:Hc P w H h a (.dT J1)):J1.length<=G6/\(a==LC)=ξ/\∃ (bs:B J4) (us:B Value) (ep:Nat),Jt h a (List.zip (bs.map .ref) us) ep/\bs.length=J1.length/\us.length=J1.length∧
  (∀(j:Nat)(p:B rb×V),J1[j]?=Z p->∃b u,bs[j]?=Z b/\us[j]?=Z u/\H b=Z (.t (p.1.map kV))/\Da p.2 u):=by
 have⟨z,y,xs,r,o,es,ep,h1,h2,U,h4,h5⟩:=x;refine⟨z,y,xs.map (·.2.1),xs.map (·.2.2),ep,⟨o,es,h1,h2,U,?_⟩,by rw[HN,<- bW r],by rw[HN,<- bW r],λj p hp=>?_⟩
 .rw[h4,IV,IV,List.zip_map',];rfl
 .have⟨q,O,_,hb,W⟩:=fV r hp;exact⟨q.2.1,q.2.2,by rw[HZ,O];rfl,by rw[HZ,O];rfl,hb,W⟩
theorem vj:Sr X "dict.items" rItm:=by intro J0 s Y H x vs v us Q I U W h;have⟨d,J1,rfl,rfl,hd,q⟩:=h;cases U;cases W;have⟨z,y,bs,ws,ep,en,_⟩:=pH (Ar I hd);refine rY y en ?_;refine⟨.ref s.heap.objs.size,_,I.laid (a:=s.heap.objs.size) (o:=Rs s.heap.objs.size d) (t':=s.toks) (λb o e=>gP _ e) (nL _) ?_,rfl,q _ (I.Hb.fresh (nL _))⟩;exact⟨⟨_,JW _ rfl,rfl,rfl⟩,⟨_,JW _ rfl⟩,λh1 h2 KJ k=>by have⟨o,O,x⟩:=KJ;exact⟨o,k o O,x⟩⟩
def rIls:B V->Hp->VK->Prop:=λxs H Q=>∃v d J1,xs=[.ref v]/\H v=Z (Rs v d)/\Rd H d (.dT J1)/\∀(bs ts:B J4)(l:J4),bs.length=J1.length->ts.length=J1.length->(∀(j:Nat)(b:J4)(p:B rb×V),bs[j]?=Z b->J1[j]?=Z p->H b=Z (.t (p.1.map kV)))→
 ts.Nodup->(∀t∈ts,H t=J)->H l=J->l∉ts->Q (.ref l) (upd (eY H ts (R6 (λb p=>[V.ref b,p.2]) bs J1)) l (.e (ts.map V.ref)))
def vm(hc:X.calm=C):Hx X (.type "list") rIls:=by
 intro J0 s Y H xs us Q I r h;have⟨v,d,J1,rfl,hv,hd,q⟩:=h;have⟨u,rfl,rx⟩:=dF r;cases rx;have⟨z,y,bs,ws,ep,en,Xm,Xn,hp⟩:=pH (Ar I hd);have hV:s.heap.IsItemsView v d:=(show Hc X.prog X.w H s.heap v (Rs v d)from I.Hb v _ hv).1;have hkl:(List.zip (bs.map HH) ws).length=J1.length:=by rw[List.length_zip,HN,Xm,Xn,Nat.min_self]
 refine sj (I.ok.hd hc) hV en (by rw[hkl];exact z) λh' tk acc c as kp hD O hG W=>?_
 rw[hkl]at O;have hsz:=hG.above;have Xo:as.Nodup:=hG.rise.imp λh=>IS h
 have Us:∀t∈as,H t=J:=λt ht=>I.Hb.fresh (QJ (hG.above t ht))
 have hl0:H s.heap.objs.size=J:=I.Hb.fresh (nL _);have hln:s.heap.objs.size∉as:=λz=>Qa _ (hG.above _ z)
 have Xl:rp H (eY H as (R6 (λb p=>[V.ref b,p.2]) bs J1)):=jN Us;have U:eY H as (R6 (λb p=>[V.ref b,p.2]) bs J1) s.heap.objs.size=J:=by rw[cH hln];exact hl0
 refine⟨.ref s.heap.objs.size,_,I.more (t':=tk) (H':=upd (eY H as (R6 (λb p=>[V.ref b,p.2]) bs J1)) s.heap.objs.size (.e (as.map V.ref))) kp (Xl.trans (rp.upd U)) (λb hb n=>?_) (λb o e n=>?_),rfl,q bs as _ Xm O (λj b p h1 h2=>?_) Xo Us hl0 hln⟩
 .rw[aa (IS hb),cH λz=>absurd (hG.above b z) (Mm.mpr (QJ hb))];exact n
 .by_cases hb:b=s.heap.objs.size
  .subst hb;rw[ac]at e;cases e;refine⟨by rw[HN,O];exact z,acc.toList,c,?_,by rw[Array.toArray_toList];exact hD⟩;rw[W];clear W hG O hsz Xo Us hln Xl U;induction as with
   |nil=>exact .nil
   |cons b bs ih=>exact .cons rfl ih
  .rw[aa hb]at e;by_cases hm:b∈as
   .have⟨j,hj⟩:=R1.mp hm;have⟨p,U7,hp2⟩:=hG.pairs j b hj;have U8:j<J1.length:=by rw[<- O];exact(gX hj).1
    have⟨b',u',e1,e2,e3,e4⟩:=hp j J1[j] (by simp[U8])
    have hzw:(R6 (λb p=>[V.ref b,p.2]) bs J1)[j]?=Z [V.ref b',J1[j].2]:=by rw[zd2,e1];simp[U8]
    rw[kX Xo hj hzw]at e;cases e
    have hzp:(List.zip (bs.map HH) ws)[j]?=Z (.ref b',u'):=by rw[qx9];exact⟨by rw[HZ,e1];rfl,e2⟩
    rw[hzp]at U7;cases U7;exact⟨by show 2<=G6;rw[Ih];lia,[.ref b',u'],.cons rfl (.cons e4 .nil),.of (n:=0) hp2 rfl rfl rfl⟩
   .rw[cH hm,n]at e;cases e
 .have⟨b',u',e1,_,e3,_⟩:=hp j p h2;rw[h1]at e1;cases e1;exact e3
def E6:V->B V->Hp->VK->Prop:=λx vs H Q=>∃d,x=.ref d/\vs=[]/\((∃J1,H d=Z (.dT J1))/\Q .ek (upd H d (.dT []))\/(∃J1,H d=Z (.dK J1))/\Q .ek (upd H d (.dK [])))
def y9:Uh X "dict.clear" E6:=by
 intro J0 s Y H x vs v us Q I rx rv h;have⟨d,rfl,rfl,h⟩:=h;cases rx;cases rv;rcases h with ⟨⟨J1,U⟩,q⟩|⟨⟨J1,U⟩,q⟩
 .have⟨z,y,xs,r,o,es,ep,h1,h2,O,h4,h5⟩:=I.Hb d _ U
  have W:es.size<=G6:=by have e1:=congrArg ML h4;have e2:=bW r;simp at e1;lia
  have hT:s.TypeIs (.ref d) "dict":=⟨o,h1,h2.1⟩;refine NP F.slot_dict_clear hT F.entry_dict_clear ?_ (F.args_dict_clear_1 _);unfold JV.«dict.clear»;refine wB ?_;unfold JV.Dict.noArgs;refine wB (Tj hT ?_);show wpAny _ _ (pure d) _ _ s;refine Hf (wB (NO h1 O (wB ?_)));unfold bearsInstanceDictMark;refine wB (wpAny_load h1 (Hf (wB (wpAny_updateDictKeys (hz:=W) h1 O ?_))));have hg:=Ph (Obj.mapDictKeys λ_=>#[]) h1 (Obj.isFreed_of_dict (Obj.data_mapDictKeys O _))
  have fin:EP X J0 Y Q .none {s with heap:=s.heap.update d (Obj.mapDictKeys λ_=>#[])}:=by refine⟨.ek,_,gz (t':=s.toks) I (by rw[U];exact M5) (Sg ..) ⟨_,hg⟩ ?_,rfl,q⟩;exact⟨Ml _,y,[],.nil,_,_,_,hg,h2.mapDictKeys _,Obj.data_mapDictKeys O _,rfl,Tc⟩
  split
  .exact wB (wpAny_letGo (Hf ⟨.none,rfl,fin⟩))
  .exact wB (Hf (Hf ⟨.none,rfl,fin⟩))
 .exact yc I U λs' I'=>⟨.ek,_,I',rfl,q⟩
end
section
variable{G:Gx}{X:Cx}{e o a:J8}{es:B J8}{pos Nk apos G5 p LL:Pos}{f fa fe fk:Fg}{m:Md}{i:Nat}{sc:J9}{x:Str}{F H:Hp}{M:Nat->J4}{ch:CH}{c:CV}{v:V}
def nZ(ch:CH):CV->ζ (B (B rb×Dt))
 |.ref i=>match ch[i]? with
  |some (.dT l)=>(dats (l.map (·.2))).map λds=>(l.map (·.1)).zip ds
  |_=>J
 |.own _ (.HJ l)=>Z l
 |_=>J
omit x in
def za{l:B (B rb×Dt)}(g:Gh G F H M ch)(r:HX G F H M ch.length c v)(h:nZ ch c=Z l):∃a J1,v=.ref a/\H a=Z (.dT J1)/\J1.map (·.1)=l.map (·.1)/\ag G.K F (l.map (·.2)) (J1.map (·.2)):=by
 unfold nZ at h;split at h
 .rename_i i;rcases h
  rename_i l' hl;have⟨ds,U,rfl⟩:=mS h;have⟨_,J1,h1,h2,O⟩:=g.ok i _ hl
  have W:(l'.map (·.1)).length=ds.length:=by have:=congrArg ML (cF U);simpa using this
  refine⟨_,J1,r.2,h1,?_,?_⟩
  .rw[h2,Zq Θ]
  .rw[List.map_snd_zip Θ];exact aS U O
 .cases h;have⟨a,rfl,_,⟨b,J1,e,rfl,h1,h2,O⟩,_⟩:=r;exact⟨_,J1,rfl,h1,h2,O⟩
 .cases h
noncomputable def dR(l:B (B rb×Dt)):B Dt:=l.map λq=>.t [dP q.1,q.2]
def Rt(m:Md)(fa:Fg):Fg:=λD ch=>(fa D ch).bind λp=>(nZ p.2 p.1).bind λl=>fin m p.2 (.e (dR l))
theorem mG:∀{ds:B Dt}{vs:B V},ds.length=vs.length->(∀(j:Nat)(d:Dt)(v:V),ds[j]?=Z d->vs[j]?=Z v->G2 K F d v)->ag K F ds vs
 |[],[],_,_=>by simp[ag]
 |[],_::_,h,_=>by cases h
 |_::_,[],h,_=>by cases h
 |d::ds,v::vs,h,q=>by rwa[ag];exact⟨v,vs,rfl,q 0 d v rfl rfl,mG ‹h› λj d v h1 h2=>q (j+1) d v ‹h1› ‹h2›⟩
def CU (hK:X.K=G.K) (h:aI sc "list"=C) (hc:X.calm=C) (hm:X.mg "list"=J) (ha:GE G X o fa) (e1:ba X sc) (Of:NQ o "items" X.env (eval o X.env)=eval o X.env) (U9:(apos.endLine==G5.line)=C) :
  GE G X (.Call (.Name "list" p) [.Call (.Attribute o "items" apos) [] [] G5] [] pos) (Rt m fa):=
 PE.mono (dM h (vm hc) hm rfl (bo (nA PySem.F.plainAttrs_dict PySem.F.slot_dict_items PySem.F.type_dict_items vj ha Of U9) cC rfl) e1 rfl rfl) λY H Q Km=>by
  have⟨Φ,D,ch,F,M,c,G0,en,hf,k⟩:=Km;have⟨q,h1,Rp⟩:=bS hf;have⟨l,h2,Nn⟩:=bS Rp;refine⟨Φ,D,ch,F,M,_,_,en,h1,λv F1 H1 Hh a1 r1=>?_⟩;have⟨d,J1,rfl,hH,hk,hr⟩:=za a1.gh r1.1 h2;have hlen:J1.length=l.length:=by have:=congrArg ML hk;simpa using this
  refine⟨.inr (.inr (.inl ⟨rfl,.inr ⟨_,hH⟩⟩)),d,J1,rfl,rfl,.inl hH,λx hx=>⟨x,d,J1,rfl,ac,.inl ?_,λbs ts ls hb ht W nd fr hl U=>?_⟩⟩
  .rw[aa (aE hH hx)];exact hH
  have k1:=(bP a1.gh Nn (k.G1 a1)).step (HD.made (o:=Rs x d) a1.gh.fh hx);have fh1:rp F1 (upd H1 x (Rs x d)):=a1.gh.fh.trans (rp.upd hx);generalize upd H1 x (Rs x d)=H2 at W fr hl k1 fh1 ⊢
  have hbn:∀b∈bs,∃vs,H2 b=Z (.t vs):=λb hm=>by
   have⟨j,hj⟩:=List.getElem?_of_mem hm;have U:j<J1.length:=by rw[<- hb];exact(gX hj).1
   exact⟨_,W j b _ hj (gQ U)⟩
  have Xp:∀{b:J4},b∈bs->b∉ts:=λ{b} h1 h2=>by have⟨vs,e⟩:=hbn b h1;rw[fr b h2]at e;cases e
  let ps:=R6 (λb (p:B rb×V)=>[V.ref b,p.2]) bs J1;have T8:ps.length=ts.length:=by simp[ps,hb,ht]
  let F':Hp:=λb=>if b∈ts\/b∈bs then eY H2 ts ps b else F1 b
  have fin:∀{b:J4},b∈ts\/b∈bs->F' b=eY H2 ts ps b:=λh=>if_pos h
  have O:∀{b:J4},¬ (b∈ts\/b∈bs)->F' b=F1 b:=λh=>if_neg h
  have hs:=jN (ps:=ps) fr
  have ff:rp F1 F':=λb o e=>by
   by_cases h:b∈ts\/b∈bs
   .rw[fin h];exact hs _ _ (fh1 _ _ e)
   .rw[O h];exact e
  have fh':rp F' (eY H2 ts ps):=λb o e=>by
   by_cases h:b∈ts\/b∈bs
   .rw[fin h]at e;exact e
   .rw[O h]at e;exact hs _ _ (fh1 _ _ e)
  have st:HD F1 H2 F' (eY H2 ts ps):=⟨hs,ff,fh',λb o e=>by
   by_cases h:b∈ts\/b∈bs
   .rcases h with h|h
    .exact .inr (.inl (fr b h))
    .exact .inr (.inr (hbn b h))
   .rw[O h]at e;exact .inl e⟩
  refine b9 (k1.step st) fh' (mG (by simp[dR,ht,hlen]) λj y z h3 h4=>?_) (by rw[cH U];exact hl);unfold dR at h3;rw[HZ]at h3 h4;have⟨q,hq,rfl⟩:=mS h3;have⟨t,htt,rfl⟩:=mS h4;have hj:j<l.length:=(gX hq).1;obtain⟨p,hp⟩:∃p,J1[j]?=Z p:=⟨J1[j],gQ Θ⟩;obtain⟨b,SK⟩:∃b,bs[j]?=Z b:=⟨bs[j],gQ Θ⟩
  have hpk:p.1=q.1:=by
   have e1:(J1.map (·.1))[j]?=Z p.1:=by rw[HZ,hp];rfl
   have e2:(l.map (·.1))[j]?=Z q.1:=by rw[HZ,hq];rfl
   rw[hk,e2]at e1;exact(JU e1).symm
  have⟨w,hw,rw'⟩:=hr.get (i:=j) (d:=q.2) (by rw[HZ,hq];rfl);have hwp:w=p.2:=by rw[HZ,hp]at hw;exact(JU hw).symm
  subst hwp;have hpj:ps[j]?=Z [V.ref b,p.2]:=by rwa[ps];rw[zd2,SK,hp]
  rwa[G2];refine⟨t,[V.ref b,p.2],rfl,Im.of (by rw[fin (.inl (Il htt))];exact kX nd htt hpj),?_⟩;rwa[ag];refine⟨_,_,rfl,mF ?_,_,_,rfl,rw'.same ff,rfl⟩;have hbm:=Il SK;rw[fin (.inr hbm),cH (Xp hbm),W j b p SK hp,hpk]
def sn(fa fe:Fg):Fg:=λD ch=>(fa D ch).bind λp=>(fe D p.2).bind λq=>match p.1 with
 |.ref i=>(cO p.2 i).bind λ_=>(cO q.2 i).bind λl=>(cj q.1).bind λj=>if 0<=j/\j<l.length/\l.length<=1000000 then(l[j.toNat]?).map λc=>(c,q.2.set i (.e (l.eraseIdx j.toNat)))else J
 |_=>J
theorem Paired.erase{α β:Type}{R:α->β->Prop}:∀{l:B α}{m:B β}(i:Nat),Paired R l m->Paired R (l.eraseIdx i) (m.eraseIdx i)
 |_,_,_,.nil=>.nil
 |_,_,0,.cons _ t=>t
 |_,_,i+1,.cons r t=>.cons r (Paired.erase i t)
def so{n:Nat}(h0:0<=j)(h1:j<n):Tq j n=Z j.toNat:=by unfold Tq;have e:(if j<0 then j+(n:Int)else j)=j:=if_neg Θ;rwa[e];rw[if_pos (by simp[h0,h1])]
omit x in
def CW(hx:GE G X o fa)(he:GE G X e fe)(A:UV X o "pop" apos [e] G5):GE G X (.Call (.Attribute o "pop" apos) [e] [] G5) (sn fa fe):=
 PE.mono (ma PySem.F.plainAttrs_list PySem.F.slot_list_pop PySem.F.type_list_pop tS hx (bo he cC (A.star _ _ rfl).1) A.base A.Ss A.line (A.star _ _ rfl).1 (A.star _ _ rfl).2) λY H Q KJ=>by
  have⟨Φ,D,ch,F,M,c,G0,en,hg,k⟩:=KJ;have⟨⟨c1,ch1⟩,h1,JN⟩:=bS hg;have⟨q,h2,U⟩:=bS JN;cases c1 with
  |ref i=>
   have⟨l0,h3,Pp⟩:=bS U;have⟨l,h4,Px⟩:=bS Pp;have⟨j,h5,O⟩:=bS Px;rcases O
   rename_i hz;have⟨c',h6,e6⟩:=mS O;cases e6;refine⟨Φ,D,ch,F,M,_,_,en,h1,λv F1 H1 Hh a1 r1=>?_⟩;have⟨Xg,q0,_⟩:=a1.gh.ok i _ (cq h3);have⟨hi,rfl⟩:=r1.1;refine⟨.inl ⟨rfl,Xg,.inl (.inl q0)⟩,Φ,D,_,F1,Hh,_,_,en.G1 a1,h2,λw F2 H2 IF W r2=>?_⟩;have⟨vs,q1,q2⟩:=W.gh.ok i _ (cq h4);have UX:IF i=Hh i:=W.ext i hi;have hw:=eR h5 r2.1;subst hw;have⟨y,hy,ry⟩:=Paired.get q2 h6;have a3:Iv G F2 H2 IF q.2 F2 _ IF _:=.put (o:=.e (l.eraseIdx j.toNat)) (u:=.e (vs.eraseIdx j.toNat)) W.gh (cq h4) trivial ⟨_,ac,Paired.erase _ q2⟩;rw[UX]at q1 a3;exact⟨_,vs,j,j.toNat,y,rfl,rfl,q1,Θ,Θ,by rw[G9.length q2];exact so hz.1 hz.2.1,hy,((k.G1 a1).G1 W).sol a3 (ry.G1 a3)⟩
  |_=>cases U
noncomputable def CY(t:Bool):CO->ζ CO
 |.e _=>if t then J else Z (.e [])
 |.dK _=>if t then Z (.dK [])else J
 |.dT _=>if t then Z (.dT [])else J
 |_=>J
noncomputable def Ru(t:Bool)(fa:Fg):Fs:=λD ch=>(fa D ch).bind λp=>match p.1 with
 |.ref i=>((p.2[i]?).bind (CY t)).map λo=>.nx D (p.2.set i o)
 |_=>J
def vn {t:Bool} (hx:GE G X o fa) (U:NQ o "clear" X.env (eval o X.env)=eval o X.env) (O:(apos.endLine==G5.line)=C) (OS:LD (.Call (.Attribute o "clear" apos) [] [] G5) J pos.line X.env=pure ξ) :
  KA G X (.Expr (.Call (.Attribute o "clear" apos) [] [] G5) pos) (Ru t fa):=by
 cases t with
 |false=>
  refine PS.mono (dw (nA PySem.F.plainAttrs_list PySem.F.slot_list_clear PySem.F.type_list_clear tT hx U O) OS) λδ Y H LG=>?_
  have⟨Φ,D,ch,F,M,og,en,hg,k⟩:=LG;have⟨⟨c1,ch1⟩,h1,JN⟩:=bS hg;cases c1 with
  |ref i=>
   have⟨w,h2,e2⟩:=mS JN;cases e2;have⟨o,ho,h3⟩:=bS h2;refine⟨Φ,D,ch,F,M,_,_,en,h1,λv F1 H1 Hh W r1=>?_⟩;have⟨hi,rfl⟩:=r1.1;have Hb:=W.gh.ok i o ho;cases o with
   |e l=>cases h3;have⟨vs,q1,_⟩:=Hb;exact⟨.inl ⟨rfl,vs,.inl (.inl q1)⟩,_,vs,rfl,rfl,q1,k Y F1 _ Hh ((en.G1 W).G1 (.put (o:=.e []) W.gh ho trivial ⟨_,ac,.nil⟩))⟩
   |_=>cases h3
  |_=>cases JN
 |true=>
  refine PS.mono (dw (nA PySem.F.plainAttrs_dict PySem.F.slot_dict_clear PySem.F.type_dict_clear y9 hx U O) OS) λδ Y H Ut=>?_
  have⟨Φ,D,ch,F,M,og,en,hg,k⟩:=Ut;have⟨⟨c1,ch1⟩,h1,JN⟩:=bS hg;cases c1 with
  |ref i=>
   have⟨w,h2,e2⟩:=mS JN;cases e2;have⟨o,ho,h3⟩:=bS h2;refine⟨Φ,D,ch,F,M,_,_,en,h1,λv F1 H1 Hh W r1=>?_⟩;have⟨hi,rfl⟩:=r1.1;have Hb:=W.gh.ok i o ho;cases o with
   |dK l=>cases h3;have⟨_,J1,q1,_⟩:=Hb;exact⟨.inr (.inr (.inl ⟨rfl,.inl ⟨_,q1⟩⟩)),_,rfl,rfl,.inr ⟨⟨_,q1⟩,k Y F1 _ Hh ((en.G1 W).G1 (.put (o:=.dK []) W.gh ho trivial ⟨Tc,_,ac,rfl,.nil⟩))⟩⟩
   |dT l=>cases h3;have⟨_,J1,q1,_⟩:=Hb;exact⟨.inr (.inr (.inl ⟨rfl,.inr ⟨_,q1⟩⟩)),_,rfl,rfl,.inl ⟨⟨_,q1⟩,k Y F1 _ Hh ((en.G1 W).G1 (.put (o:=.dT []) W.gh ho trivial ⟨Tc,_,ac,rfl,.nil⟩))⟩⟩
   |_=>cases h3
  |_=>cases JN
noncomputable def sCs(i:Nat):Fs:=λD ch=>match cN D i with
 |some (.e _)=>Z (.nx (D.set i (Z (.own C (.e [])))) ch)
 |_=>J
def cu(ch:CH):CV->ζ (rb×CV)
 |.g (.t [k,d])=>(ci k).map λk=>(k,.g d)
 |.ref j=>match ch[j]? with
  |some (.t [.g k,c])=>(ci k).map λk=>(k,c)
  |_=>J
 |_=>J
def aP(ch:CH):B CV->ζ (B (rb×CV))
 |[]=>Z []
 |c::l=>(cu ch c).bind λp=>(aP ch l).map (p::·)
omit x in
def vq(g:Gh G F H M ch){p:rb×CV}(h:cu ch c=Z p)(r:Hu G F M ch.length c v):∃t u,v=.ref t/\Im G.K H t [kV p.1,u]/\Hu G F M ch.length p.2 u:=by
 unfold cu at h;split at h
 .rename_i k d;have⟨kk,U,rfl⟩:=mS h;have r:G2 G.K F (.t [k,d]) v:=r;rwa[G2,ag]at r;have⟨t,vs,rfl,h1,x,ws,rfl,W,y,ws',rfl,O,rfl⟩:=r;have:=cG (HK.of g.fh (show G2 G.K F _ _ from W)) U;subst this;exact⟨t,y,rfl,g.fh.tup h1,O⟩
 .rename_i j;rcases h
  rename_i k c' hj;have⟨kk,U,rfl⟩:=mS h;have⟨vs,h1,h2⟩:=g.ok j _ hj;obtain _|⟨W,_|⟨O,_|_⟩⟩:=h2;have:=cG (HK.of g.fh (show G2 G.K F _ _ from W)) U;subst this;exact⟨_,_,r.2,Im.of h1,O⟩
 .cases h
theorem jO(g:Gh G F H M ch):∀{l:B CV}{vs:B V}{ps:B (rb×CV)},aP ch l=Z ps->G9 G F M ch.length l vs->∃O:B (rb×V),vs.length=O.length/\O.map (·.1)=ps.map (·.1)/\G9 G F M ch.length (ps.map (·.2)) (O.map (·.2))/\∀(j:Nat)(q:rb×V),O[j]?=Z q->∃t,vs[j]?=Z (.ref t)/\Im G.K H t [kV q.1,q.2]
 |[],_,ps,h,.nil=>by cases h;exact⟨[],rfl,rfl,.nil,λj q U=>by simp at U⟩
 |c::l,_,ps,h,.cons r1 r2=>by
  have⟨p,hp,h⟩:=bS h;have⟨ps',W,rfl⟩:=mS h;have⟨t,u,rfl,h1,h2⟩:=vq g hp r1;have⟨O,q1,q2,q3,q4⟩:=jO g W r2;refine⟨(p.1,u)::O,by simp[q1],by simp[q2],.cons h2 q3,λj q U=>?_⟩;cases j with
  |zero=>simp at U;subst U;exact⟨t,rfl,h1⟩
  |succ j=>simpa using q4 j q ‹U›
noncomputable def mH(ch:CH):CV->ζ (B CV)
 |.ref i=>match ch[i]? with
  |some (.e l)=>Z l
  |some (.t l)=>Z l
  |_=>J
 |.g (.e l)=>Z (l.map .g)
 |.g (.t l)=>Z (l.map .g)
 |.own _ (.e l)=>Z (l.map .g)
 |_=>J
omit x in
def zb{l:B CV}(g:Gh G F H M ch)(r:HX G F H M ch.length c v)(h:mH ch c=Z l):∃a vs b,v=.ref a/\OR b G.K H a vs/\G9 G F M ch.length l vs:=by
 unfold mH at h;split at h
 .split at h<;>cases h
  .rename_i i _ hl;have⟨vs,h1,h2⟩:=g.ok i _ hl;exact⟨_,vs,C,r.2,Id.of h1,h2⟩
  .rename_i i _ hl;have⟨vs,h1,h2⟩:=g.ok i _ hl;exact⟨_,vs,ξ,r.2,Im.of h1,h2⟩
 .cases h;rwa[HX,Hu,G2]at r;have⟨a,vs,rfl,h1,h2⟩:=r;exact⟨a,vs,C,rfl,g.fh.seq h1,G9.dats h2⟩
 .cases h;rwa[HX,Hu,G2]at r;have⟨a,vs,rfl,h1,h2⟩:=r;exact⟨a,vs,ξ,rfl,g.fh.tup h1,G9.dats h2⟩
 .cases h;have⟨a,rfl,_,⟨b,vs,e,rfl,h1,h2⟩,_⟩:=r;exact⟨_,vs,C,rfl,Id.of h1,G9.dats h2⟩
 .cases h
def kY{J1:B (rb×V)}{k:rb}(h:k∉J1.map (·.1)):bC J1 k=J:=by
 cases q:bC J1 k with
 |none=>rfl
 |some v=>exact absurd (yd q) h
theorem dS:∀{ps J1:B (rb×V)},((J1++ps).map (·.1)).Nodup->aO J1 ps=J1++ps
 |[],J1,_=>by simp[aO]
 |p::ps,J1,h=>by
  have O:p.1∉J1.map (·.1):=λz=>by rw[KW]at h;exact(Le.mp h).2.2 p.1 z p.1 Ξ rfl
  rwa[aO];rw[tU _ (kY O),dS ‹h›];simp
def kZ(m:Md)(ps:B (rb×CV))(ch:CH):ζ (CV×CH):=match dats (ps.map (·.2))with
 |some ds=>fin m ch (.HC ((ps.map (·.1)).zip ds))
 |none=>if(ps.map (·.2)).all CV.sol then Z (.ref ch.length,ch++[.dK ps])else J
def L9(m:Md)(fa:Fg):Fg:=λD ch=>(fa D ch).bind λp=>(mH p.2 p.1).bind λl=>(aP p.2 l).bind λps=>if(ps.map (·.1)).Nodup then kZ m ps p.2 else J
def zc{l:B (rb×Dt)}{J1:B (rb×V)}{p:J4}{Q:VK}(k:KO K F H (.HC l) Q)(O:rp F H)(U:J1.map (·.1)=l.map (·.1))(r:ag K F (l.map (·.2)) (J1.map (·.2)))(hp:H p=J):Q (.ref p) (upd H p (.dK J1)):=k _ _ F (λb=>b=p) (HD.made O hp) ⟨p,J1,rfl,rfl,ac,U,r⟩ λb z=>by subst z;exact⟨O.free hp,hp,_,ac,nofun⟩
omit x in
def zd(h:aI sc "dict"=C)(hK:X.K=G.K)(hc:X.calm=C)(hm:X.mg "dict"=J)(ha:GE G X a fa)(e1:ba X sc)(he:Hn [a] X.env=(ξ,eval a X.env)::Hn [] X.env):GE G X (.Call (.Name "dict" p) [a] [] pos) (L9 m fa):=
 PE.mono (dM h (nY hc) hm rfl (bo ha cC he) e1 he rfl) λY H Q W=>by
  have⟨Φ,D,ch,F,M,c,G0,en,hf,k⟩:=W;have⟨q,h1,Rp⟩:=bS hf;have⟨l,h2,Nn⟩:=bS Rp;have⟨ps,h3,O⟩:=bS Nn;rcases O
  rename_i nd;refine⟨Φ,D,ch,F,M,_,_,en,h1,λv F1 H1 Hh U r1=>?_⟩;have⟨x,vs,b,rfl,hq,hr⟩:=zb U.gh r1.1 h2;have⟨qs,q1,q2,q3,q4⟩:=jO U.gh h3 hr;rw[hK];refine⟨x,vs,qs,rfl,⟨b,hq⟩,q1,q4,λy hy=>?_⟩;have e:aO [] qs=qs:=by rw[dS (by simpa[q2] using nd)];simp
  rw[e];unfold kZ at O;split at O
  .rename_i ds hd;have hlen:(ps.map (·.1)).length=ds.length:=by have:=congrArg ML (cF hd);simpa using this
   exact zc (bP U.gh O (k.G1 U)) U.gh.fh (by rw[q2,Zq Θ]) (by rw[List.map_snd_zip Θ];exact aS hd q3) hy
  .split at O<;>cases O
   exact kL (o:=.dK ps) U.gh hy ⟨nd,qs,ac,q2,q3⟩ (k.G1 U)
def rUpd:V->B V->Hp->VK->Prop:=λx vs H Q=>∃d o J1 more,x=.ref d/\vs=[.ref o]/\d≠o/\H d=Z (.dK J1)/\H o=Z (.dK more)/\J1.length+more.length<=G6/\Q .ek (upd H d (.dK (aO J1 more)))
theorem ir:∀(ps J1:B (rb×Value)),merged J1 ps=cr J1 ps
 |[],J1=>rfl
 |p::ps,J1=>ir ps _
def CZ:Uh X "dict.update" rUpd:=by
 intro J0 s Y H x vs v us Q I rx rv h;have⟨d,o,J1,more,rfl,rfl,W,hd,ho,hz,q⟩:=h;cases rx;have⟨u,rfl,ru⟩:=rv.one;cases ru;have⟨z1,y1,O,k1,D1⟩:=I.Hb d _ hd;have⟨z2,y2,vs2,k2,D2⟩:=I.Hb o _ ho;have l1:=k1.length;have l2:=k2.length
 refine Wx PySem.F.slot_dict_update (show Heap.DictOf (am X.prog X.w) s.heap d O from D1).typeIs PySem.F.entry_dict_update (PySem.F.args_dict_update_2 _ _) (meets_dict_update (am X.prog X.w) d o W y2)
  ⟨O,vs2,D1,D2,Θ,λh' hm _ hs=>?_⟩
 have U:=KV.all k2 k1;have⟨od,es,ep,e1,HF⟩:=id hm;refine⟨.ek,_,I.write (x:=d) (e:=d) (o:=.dK (aO J1 more)) (h':=h') (t':=s.toks) (by rw[hd];trivial) (.inl rfl) (λb u hb hu=>(hs.2 b hb).trans hu) ⟨od,e1⟩ ⟨?_,y1,_,U,?_⟩,rfl,q⟩
 .have:=dQ more J1;lia
 .rw[<- ir];exact hm
noncomputable def iu(ch:CH)(i:Nat):ζ (B (rb×CV)):=match ch[i]? with
 |some (.dK l)=>Z l
 |_=>J
def eZ{l:B (rb×CV)}(h:iu ch i=Z l):ch[i]?=Z (.dK l):=by
 unfold iu at h;split at h<;>cases h
 assumption
def SL(fa fe:Fg):Fs:=λD ch=>(fa D ch).bind λp=>(fe D p.2).bind λq=>match p.1,q.1 with
 |.ref i,.ref j=>(iu p.2 i).bind λ_=>(iu q.2 i).bind λl=>(iu q.2 j).bind λn=>if i≠j/\((l++n).map (·.1)).Nodup/\l.length+n.length<=G6 then Z (.nx D (q.2.set i (.dK (l++n))))else J
 |_,_=>J
omit x in
def sr(hx:GE G X o fa)(he:GE G X e fe)(A:UV X o "update" apos [e] G5)(OS:LD (.Call (.Attribute o "update" apos) [e] [] G5) J pos.line X.env=pure ξ):KA G X (.Expr (.Call (.Attribute o "update" apos) [e] [] G5) pos) (SL fa fe):=
 PS.mono (dw (ma PySem.F.plainAttrs_dict PySem.F.slot_dict_update PySem.F.type_dict_update CZ hx (bo he cC (A.star _ _ rfl).1) A.base A.Ss A.line (A.star _ _ rfl).1 (A.star _ _ rfl).2) OS) λδ Y H Uv=>by
  have⟨Φ,D,ch,F,M,og,en,hg,k⟩:=Uv;have⟨⟨c1,ch1⟩,h1,JN⟩:=bS hg;have⟨⟨c2,ch2⟩,h2,Pq⟩:=bS JN;clear hg JN;dsimp only at h2 Pq;rcases Pq
  rename_i i j;have⟨l0,h3,Pp⟩:=bS Pq;have⟨l,h4,Px⟩:=bS Pp;have⟨n,h5,SD⟩:=bS Px;split at SD<;>cases SD
  rename_i hz;refine⟨Φ,D,ch,F,M,_,_,en,h1,λv F1 H1 Hh a1 r1=>?_⟩;have⟨_,Xg,q0,_⟩:=a1.gh.ok i _ (eZ h3);have⟨hi,rfl⟩:=r1.1;refine⟨.inr (.inr (.inl ⟨rfl,.inl ⟨_,q0⟩⟩)),Φ,D,_,F1,Hh,_,_,en.G1 a1,h2,λw F2 H2 IF U r2=>?_⟩;have⟨_,O,q1,q2,q3⟩:=U.gh.ok i _ (eZ h4);have⟨_,Xq,p1,p2,p3⟩:=U.gh.ok j _ (eZ h5);have⟨hj,rfl⟩:=r2.1;have W:IF i=Hh i:=U.ext i hi;have e1:=yV q2;have e2:=yV p2;have ep:aO O Xq=O++Xq:=dS (by rw[KW,q2,p2,<- KW];exact hz.2.1);have a3:Iv G F2 H2 IF ch2 F2 _ IF _:=.put (o:=.dK (l++n)) (u:=.dK (O++Xq)) U.gh (eZ h4) trivial ⟨hz.2.1,_,ac,by simp[q2,p2],by rw[KW,KW];exact Paired.app q3 p3⟩;have Nh:Hh i≠IF j:=λe=>hz.1 (U.gh.inj i j (af (eZ h4)) hj (by rw[W,e]))
  rw[W]at q1 a3;refine⟨_,_,O,Xq,rfl,rfl,Nh,q1,p1,Θ,?_⟩;rw[ep];exact k Y F2 _ IF (((en.G1 a1).G1 U).G1 a3)
end
section
variable{X:Cx}{J0:B (J4×Obj)}{Y:St}{H:Hp}{s:pv}{a:J4}{u:HO}{ob:Obj}
def b7.Iq(I:b7 X J0 Y H s)(e:H a=Z u)(O:Sj (H a))(U:s.heap.get? a=Z ob)(hu:∀c xs,u≠.ins c xs [])(hp:u≠.own a)(hi:∀θ dx fs,u≠.ins θ dx fs):b7 X J0 Y (upd H a (.Iq ob u)) s:=by
 have:=I.write (x:=a) (e:=a) (o:=.Iq ob u) (h':=s.heap) (t':=s.toks) O (.inl rfl) (λ_ _ _ q=>q) ⟨_,U⟩ ⟨U,?_⟩
 .exact this
 .refine(I.Hb a u e).Kv (λb u _ q=>q) (λb q=>?_) (λb xs q=>?_) λb W xs q=>?_
  .rw[aa (λz=>by rw[z,e]at q;cases q;exact hp rfl)];exact q
  .rw[aa (λz=>by rw[z]at q;rw[q]at O;exact O)];exact q
  .rw[aa (λz=>by rw[z]at q;rw[q]at O;exact O)];exact q
def b7.thaw(I:b7 X J0 Y H s)(e:H a=Z (.Iq ob u))(hn:∀o w,X.Lk a≠Z (.Iq o w))(hu:∀xs,u≠.t xs)(ho:∀y,u≠.own y)(W:∀y,u≠.code y:=by intro _ z;cases z):b7 X J0 Y (upd H a u) s:=by
 have U:∀{b:J4},H b=J->b≠a:=λ{b} h z=>by rw[z,e]at h;cases h
 refine⟨I.ok,I.os,I.bare,⟨I.base.keep,I.base.slot,λb o h1 h2 h3=>?_,I.base.there,λb xs h=>?_,λb o w h=>?_,λb ps h=>?_,λb qs h=>?_⟩,I.loc,I.cell,?_,λx c h=>?_,λp hp=>?_,λb o h=>?_,I.len⟩
 .have:=I.base.free b o h1 h2 h3;rw[aa (U this)];exact this
 .have:=I.base.Li b xs h;rw[aa λz=>by rw[z,e]at this;cases this];exact this
 .have hb:b≠a:=λz=>by rw[z]at h;exact hn o w h
  rw[aa hb];exact I.base.Kw b o w h
 .have⟨more,O⟩:=I.base.Lj b ps h;exact⟨more,by rw[aa λz=>by rw[z,e]at O;cases O];exact O⟩
 .have O:=I.base.NW b qs h;rw[aa λz=>by rw[z,e]at O;cases O];exact O
 .rw[aa (U I.free)];exact I.free
 .rw[aa (U (I.IG x c h))];exact I.IG x c h
 .have⟨q1,q2,q3⟩:=I.pin p hp;exact⟨q1,by rw[aa (U q2)];exact q2,q3⟩
 .have st:∀{b:J4}{o:HO},Hc X.prog X.w H s.heap b o->Hc X.prog X.w (upd H a u) s.heap b o:=λ{b o} x=>x.Kv (λ_ _ _ q=>q) (λc q=>by
      rw[aa λz=>by rw[z,e]at q;cases q];exact q) (λc xs q=>by
      rw[aa λz=>by rw[z,e]at q;cases q];exact q) λc ob' xs q=>by
      rw[aa λz=>by rw[z,e]at q;cases q;exact W _ rfl];exact q
  by_cases hb:b=a
  .subst hb;rw[ac]at h;cases h;exact st (I.Hb b _ e).2
  .rw[aa hb]at h;exact st (I.Hb b o h)
def ItT(a:J4)(o:Obj)(J1:B (B rb×V))(bs:B J4):It where
 go:=λi H=>H a=Z (.Iq o (.dT J1))/\i<bs.length
 OL:=λi H x H'=>H'=H/\∃b,bs[i]?=Z b/\x=.ref b
 stop:=λi H=>H a=Z (.Iq o (.dT J1))/\i=bs.length
def n4 {w:J5} {it:J4} {bs:B J4} (he:∃ es,ob.ExactDict/\ob.data=.dict es ep/\es.toList.map (·.key)=bs.map HH) :
  M9 P w K tg (ItT a ob J1 bs) [it] it (λi h=>h.IsKeyIter it a i (bs.map HH).length ep) where
 mem:=by simp
 obj:=λi h st b hb=>by
  have e:b=it:=‹hb›
  subst e;have⟨q,hq,hc,hdd⟩:=st;exact⟨q,hq,λv z=>by rw[hdd]at z;cases z⟩
 keep:=λi h h' st k=>by have⟨q,hq,r⟩:=st;exact⟨q,k it Ξ _ hq,r⟩
 item:=by
  intro X hP hw hK hc i J0 s Y H E I W st O;subst hP hw hK;have⟨f0,f1,f2,f3,f4,f5⟩:=W it Ξ;have ho:=(I.Hb a _ O.1).1;obtain⟨b,hb⟩:∃b,bs[i]?=Z b:=⟨bs[i]'(O.2),by simp[O.2]⟩;refine vh (key:=.ref b) st (let ⟨es,r⟩:=he;⟨ob,es,ho,r⟩) (by rw[HZ,hb];rfl) λh' U sb=>?_
  have I1:b7 X J0 Y H {s with heap:=h'}:=I.turned (t':=s.toks) (λb o hb e=>(sb.2 b hb).trans e) f0 f1 f3 f4 f5;have⟨q,e,c,d⟩:=id U;exact⟨_,rfl,oR (s:={s with heap:=h'}) e c d Ω ⟨.ref b,H,I1,rfl,⟨rfl,_,hb,rfl⟩,U,λb hb=>(W b hb).1⟩⟩
 done:=by intro X hP hw hK hc i J0 s Y H E I W st O;subst hP hw hK;have⟨f0,f1,f2,f3,f4,f5⟩:=W it Ξ;have ho:=(I.Hb a _ O.1).1;exact y8 (I.ok.hd hc) st (let ⟨es,r⟩:=he;⟨ob,es,ho,r⟩) (by rw[HN];exact O.2) λh' eb=>⟨rfl,I.turned (t':=s.toks) (λb o hb e=>eb b o hb e) f0 f1 f3 f4 f5⟩
 self:=λ_ _ _ _ _ st h=>wpAny_pyIter_keyiter st h
end
section
variable{X:Cx}{tg:J8}{st:J6}{t:TS}
def iKT(td:TE):TI:=λY H R=>td Y H λx H1=>∃a J1,x=.ref a/\H1 a=Z (.dT J1)/\∀o (bs:B J4),bs.length=J1.length->(∀(j:Nat)(b:J4)(p:B rb×V),bs[j]?=Z b->J1[j]?=Z p->H1 b=Z (.t (p.1.map kV)))->R (ItT a o J1 bs) (upd H1 a (.Iq o (.dT J1)))
def vt{d:J8}{td:TE}(hd:PE X d td):PI X tg d (iKT td):=by
 intro J0 s Y H R I h;refine Hw (hd J0 s Y H _ I h) λv s1 ⟨x,H1,I1,r1,q1⟩=>?_
 have⟨a,J1,e,U,q⟩:=q1;subst e;cases r1;have⟨z,y,bs,ob,es,ep,e1,e2,en,hl,hk⟩:=CT (I1.Hb a _ U);refine vg y en ?_;have W:=I1.Iq U (by rw[U];trivial) e1 (λ_ _ z=>nomatch z) (λz=>nomatch z) (λ_ _ _ z=>nomatch z)
 have he:∃es,ob.ExactDict/\ob.data=.dict es ep/\es.toList.map (·.key)=bs.map HH:=by have⟨o',es',f1,f2,f3,f4⟩:=en;rw[e1]at f1;cases f1;exact⟨es',f2,f3,f4⟩
 refine⟨s1.heap.objs.size,[s1.heap.objs.size],_,_,upd H1 a (.Iq ob (.dT J1)),rfl,W.kept (t':=s1.toks) λb o e=>gP _ e,n4 he,⟨_,JW _ rfl,rfl,rfl⟩,λb hb=>?_,q ob bs hl λj b p h1 h2=>?_⟩
 .have e:b=s1.heap.objs.size:=‹hb›
  subst e;exact W.M8 (nL _) (W.Hb.fresh (nL _))
 .have⟨b',O,hH⟩:=hk j p h2;rw[h1]at O;cases O;exact hH
def ze(h:PS X st t):PS X st (λδ Y H=>(∀a o w,X.Lk a=Z (.Iq o w)->H a=Z (.Iq o w))->t δ Y H):=λJ0 s Y H δ I O=>h J0 s Y H δ I (O λa o w z=>I.base.Kw a o w z)
def Thw(X:Cx)(Q:Hp->Prop):Hp->Prop:=λH'=>∃a o J1,(∀o' w,X.Lk a≠Z (.Iq o' w))/\H' a=Z (.Iq o (.dT J1))/\Q (upd H' a (.dT J1))
omit x in
def zf(h:PS X st t):PS X st (λδ Y H=>t {δ with nx:=λY=>Thw X (δ.nx Y)} Y H):=λJ0 s Y H δ I hw=>by
 refine Hw (h J0 s Y H _ I hw) λf s1 q=>?_
 cases f with
 |next=>have⟨O,H',W,a,o,J1,U,e,q⟩:=q;exact⟨O,_,W.thaw e U (λ_ z=>nomatch z) (λ_ z=>nomatch z),q⟩
 |_=>exact q
end
section
variable{G:Gx}{Φ:NE}{F H:Hp}{M:Nat->J4}{D:Sl}{Y:St}{ch:CH}{i:Nat}{l:B (B rb×CV)}{J1:B (B rb×V)}{ob:Obj}{w:CO}
def Iv.lock(g:Gh G F H M ch)(U:ch[i]?=Z (.dT l))(nd:(l.map (·.1)).Nodup)(h2:J1.map (·.1)=l.map (·.1))(h3:G9 G F M ch.length (l.map (·.2)) (J1.map (·.2)))(h1:H (M i)=Z (.dT J1)):Iv G F H M ch (upd F (M i) (.Iq ob (.dT J1))) (upd H (M i) (.Iq ob (.dT J1))) M (ch.set i (.wT l)):=by
 have hF:=g.out i _ U trivial;have W:rp F (upd F (M i) (.Iq ob (.dT J1))):=rp.upd hF;have ne:∀{j:Nat}{x:CO},ch[j]?=Z x->i≠j->M j≠M i:=λO q e=>q (g.inj _ _ (af O) (af U) e).symm
 refine⟨⟨λb o e=>?_,λj k hj hk=>g.inj j k ‹hj› ‹hk›,λj x O hl=>?_,λj x O=>?_⟩,Ξ,λ_ _=>rfl,λj h1 h2=>absurd h2 ‹h1›,λb x h1 h2=>?_,W,λb o e=>?_,λb e=>?_⟩
 .by_cases hb:b=M i
  .subst hb;rw[ac]at e ⊢;exact e
  .rw[aa hb]at e ⊢;exact g.fh b o e
 .by_cases q:i=j
  .subst q;rw[Mh (af U)]at O;cases O;exact hl.elim
  .rw[gN q]at O;rw[aa (ne O q)];exact g.out j x O hl
 .rw[P5];by_cases q:i=j
  .subst q;rw[Mh (af U)]at O;cases O;exact⟨nd,ob,J1,ac,ac,h2,h3.mono W (λ_ _=>rfl) (nL _)⟩
  .rw[gN q]at O;exact(g.ok j x O).mono W (λ_ _=>rfl) (nL _) λy hy=>by rw[aa (ne O q)];exact hy
 .rw[aa λe=>h2 i (af U) e.symm];exact h1
 .by_cases hb:b=M i
  .subst hb;rw[ac]at e;cases e;exact .inr (.inr (.inr ⟨_,_,rfl⟩))
  .rw[aa hb]at e;exact .inl e
 .by_cases hb:b=M i
  .subst hb;rw[ac]at e;cases e
  .rw[aa hb]at e;assumption
def Ge.unlock(en:Ge G Φ D ch Y F H M)(hw:ch[i]?=Z (.wT l))(Sx:Φ.F (M i)=J):∃ob J1,H (M i)=Z (.Iq ob (.dT J1))/\Ge G Φ D (ch.set i (.dT l)) Y (λb=>if b=M i then J else F b) (upd H (M i) (.dT J1)) M:=by
 have⟨nd,ob,J1,h1,hF,h2,W⟩:=en.gh.ok i _ hw;refine⟨ob,J1,h1,?_⟩;let F':Hp:=λb=>if b=M i then J else F b
 have sx:Jp F F':=λb o e ho=>by
  have hb:b≠M i:=λz=>by subst z;rw[hF]at e;cases e;exact ho _ _ rfl
  show(if b=M i then J else F b)=_;rw[if_neg hb];exact e
 have back:∀{b:J4}{o:HO},F' b=Z o->b≠M i/\F b=Z o:=λ{b o} e=>by
  by_cases hb:b=M i
  .have e:(if b=M i then J else F b)=Z o:=e;rw[if_pos hb]at e;cases e
  .have e:(if b=M i then J else F b)=Z o:=e;rw[if_neg hb]at e;exact⟨hb,e⟩
 have Qr:∀{b:J4},F b=J->F' b=J:=λ{b} e=>by show(if b=M i then J else F b)=J;split<;>first|rfl|exact e
 have ne:∀{j:Nat}{x:CO},ch[j]?=Z x->i≠j->M j≠M i:=λU q e=>q (en.gh.inj _ _ (af U) (af hw) e).symm
 have rs:∀{c:CV}{v:V},Hu G F M ch.length c v->Hu G F' M ch.length c v:=λ{c v} r=>by
  cases c with
  |g d=>exact G2.x sx r
  |_=>exact r
 have O:∀{l:B CV}{vs:B V},G9 G F M ch.length l vs->G9 G F' M ch.length l vs:=λr=>Paired.M6 r λ_ _ r=>rs r
 have gh:Gh G F' (upd H (M i) (.dT J1)) M (ch.set i (.dT l)):=by
  refine⟨λb o e=>?_,λj k hj hk=>en.gh.inj j k ‹hj› ‹hk›,λj x U hl=>?_,λj x U=>?_⟩
  .rw[aa (back e).1];exact en.gh.fh b o (back e).2
  .by_cases q:i=j
   .subst q;exact if_pos rfl
   .rw[gN q]at U;exact Qr (en.gh.out j x U hl)
  .rw[P5];by_cases q:i=j
   .subst q;rw[Mh (af hw)]at U;cases U;exact⟨nd,J1,ac,h2,O W⟩
   .rw[gN q]at U;have h:=en.gh.ok j x U;have hu:∀{u:HO},H (M j)=Z u->upd H (M i) (.dT J1) (M j)=Z u:=λe=>by rw[aa (ne U q)];exact e
    cases x with
    |e l=>have⟨vs,h1,h2⟩:=h;exact⟨vs,hu h1,O h2⟩
    |t l=>have⟨vs,h1,h2⟩:=h;exact⟨vs,hu h1,O h2⟩
    |dK l=>have⟨nd,vs,h1,h2,W⟩:=h;exact⟨nd,vs,hu h1,h2,O W⟩
    |dT l=>have⟨nd,vs,h1,h2,W⟩:=h;exact⟨nd,vs,hu h1,h2,O W⟩
    |wT l=>have⟨nd,ob,vs,h1,h0,h2,W⟩:=h;exact⟨nd,ob,vs,hu h1,(if_neg (ne U q)).trans h0,h2,O W⟩
    |ins c l=>have⟨p,θ,dx,fs,hp,h0,h1,h2,W⟩:=h;exact⟨p,θ,dx,fs,hp,h0,hu h1,h2,O W⟩
 refine⟨⟨gh,‹en.ad.len›,en.ad.ext,λj h1 h2=>en.ad.fr j h1 ‹h2›,λb o h1 h2=>?_,λb o e=>?_,λb o e=>en.ad.nw b o (back e).2,λb e=>?_⟩,en.len,λj c hc=>?_,en.nw,en.Po⟩
 .have hb:b≠M i:=λz=>by
   subst z;by_cases hi:i<Φ.ch.length
   .exact h2 i hi (en.ad.ext i hi).symm
   .rw[en.ad.fr i (Mm.mp hi) (af hw)]at h1;cases h1
  rw[aa hb];exact en.ad.Jd b o h1 h2
 .exact(if_neg λz=>by subst z;rw[Sx]at e;cases e).trans (en.ad.old b o e)
 .by_cases hb:b=M i
  .subst hb;rw[ac]at e;cases e
  .rw[aa hb]at e;exact en.ad.hs b e
 .have⟨v,e,r⟩:=en.has j c hc;refine⟨v,e,?_⟩;rw[P5];cases c with
  |g d=>exact rs (c:=.g d) r
  |ref k=>exact r
  |own b t=>
   have⟨x,rfl,ht,ho,U,hp⟩:=id r;have hu:∀{u:HO},H x=Z u->upd H (M i) (.dT J1) x=Z u:=λe=>by rw[aa (hp i (af hw)).symm];exact e
   refine⟨x,rfl,ht,?_,Qr U,hp⟩;cases t<;>try(cases ht;done)
   .have⟨b,vs,e,rfl,h1,h2⟩:=ho;exact⟨_,vs,e,rfl,hu h1,ag.x sx h2⟩
   .have⟨b,vs,e,rfl,h1,h2,W⟩:=ho;exact⟨_,vs,e,rfl,hu h1,h2,ag.x sx W⟩
   .have⟨b,vs,e,rfl,h1,h2,W⟩:=ho;exact⟨_,vs,e,rfl,hu h1,h2,ag.x sx W⟩
end
section
variable{G:Gx}{X:Cx}{tg d:J8}{f:Fg}{st:J6}{g:Fs}
def fW(l:B (B rb×CV)):B Dt:=l.map λp=>dP p.1
def OU(f:Fg):FM (B Dt):=λD ch=>(f D ch).bind λp=>match p.1 with
 |.ref i=>match p.2[i]? with
  |some (.dT l)=>Z (fW l,p.2.set i (.wT l))
  |_=>J
 |_=>J
omit x in
def zg(h:GE G X d f):GI G X tg d (OU f):=PI.mono (vt h) λY H R hq=>by
 have⟨Φ,D,ch,F,M,ds,G0,en,hf,k⟩:=hq;have⟨⟨c,ch1⟩,h1,O⟩:=bS hf;cases c with
 |ref i=>
  dsimp only at O;rcases O
  rename_i l hl;cases O;refine⟨Φ,D,ch,F,M,_,_,en,h1,λv F1 H1 Hh a1 r1=>?_⟩;have⟨nd,J1,q1,q2,q3⟩:=a1.gh.ok i _ hl;have hlen:J1.length=l.length:=by have:=congrArg ML q2;simpa using this
  refine⟨Hh i,J1,r1.1.2,q1,λo bs hb ht=>?_⟩
  -- MU keys are known from here on
  let F2:Hp:=λb=>if b∈bs then H1 b else F1 b
  have tp:∀{b:J4},b∈bs->∃vs,H1 b=Z (.t vs):=λ{b} U=>by
   have⟨j,W⟩:=List.getElem?_of_mem U;have L5:j<J1.length:=by rw[<- hb];exact af W
   exact⟨_,ht j b _ W (gQ L5)⟩
  have ff:rp F1 F2:=λb u e=>by
   show(if b∈bs then H1 b else F1 b)=_;split
   .exact a1.gh.fh b u e
   .exact e
  have st:HD F1 H1 F2 H1:=⟨rp.refl _,ff,λb u e=>by
   have e:(if b∈bs then H1 b else F1 b)=Z u:=e;split at e
   .exact e
   .exact a1.gh.fh b u e,λb u e=>by
   have e:(if b∈bs then H1 b else F1 b)=Z u:=e;split at e
   .rename_i U;exact .inr (.inr (tp U))
   .exact .inl e⟩
  have a2:=Iv.of a1.gh st;have a3:=Iv.lock (ob:=o) a2.gh hl nd q2 (q3.mono ff (λ_ _=>rfl) (nL _)) q1;refine k _ (λH=>H (Hh i)=Z (.Iq o (.dT J1))) _ _ Hh ((a1.trans a2).trans a3) (λj H F ok fh f2=>?_) λH2 s=>s _ _ ac
  have hkl:(fW l).length=bs.length:=by rw[hb,hlen];simp[fW]
  refine⟨λW=>⟨ok,Θ⟩,λW=>⟨ok,Θ⟩,λx H' W hy=>?_⟩;have⟨rfl,b,SK,rfl⟩:=hy;have hj2:j<l.length:=by simpa[fW] using W
  obtain⟨q,hq⟩:∃q,l[j]?=Z q:=⟨_,gQ hj2⟩;obtain⟨p,hp⟩:∃p,J1[j]?=Z p:=⟨_,gQ Θ⟩
  have hpk:p.1=q.1:=by
   have e1:(J1.map (·.1))[j]?=Z p.1:=by rw[HZ,hp];rfl
   rw[q2,HZ,hq]at e1;exact(JU e1).symm
  refine⟨dP q.1,F,by rw[fW,HZ,hq];rfl,HD.refl fh,G2.same f2 (mF ?_)⟩;have U:=Il SK;have hbi:b≠Hh i:=λz=>by have⟨vs,e⟩:=tp U;rw[z,q1]at e;cases e
  rw[aa hbi,<- hpk];exact(if_pos U).trans (ht j b p SK hp)
 |_=>cases O
def SM(is:B Nat)(fe:Fg):Fs:=λD ch=>(fe D ch).bind λp=>match p.1 with
 |.ref i=>match p.2[i]? with
  |some (.t l)=>(kQ is l D).map λHi=>.nx Hi p.2
  |_=>J
 |_=>J
omit x in
def E7{fe:Fg}(he:GE G X e fe)(hg:PG X tg (tPr G is))(hs:QK [tg] e pos.line X.env=pure ξ)(hw:Ws [tg] e X.env=pure J)(h1:(Lg [tg] X.env).map (·.2)=[MP tg X.env]):KA G X (.Assign [tg] e pos) (SM is fe):=PS.mono (j4 he hg hs hw h1) λδ Y H W=>by
 have⟨Φ,D,ch,F,M,og,en,Mx,kk⟩:=W;have⟨⟨c,ch1⟩,h1,O⟩:=bS Mx;cases c with
 |ref i=>
  dsimp only at O;rcases O
  rename_i l hl;have⟨Hi,h2,e2⟩:=mS O;cases e2;exact⟨Φ,D,ch,F,M,_,_,en,h1,λv F1 H1 Hh a1 r1=>⟨Φ,D,_,F1,Hh,i,l,Hi,en.G1 a1,r1.1.2,hl,h2,λU SE _=>kk U F1 H1 Hh SE⟩⟩
 |_=>cases O
def Qt(j:Nat)(g:Fs):Fs:=λD ch=>match D[j]? with
 |some (Z (.ref i))=>match ch[i]? with
  |some (.dT _)=>(g D ch).bind λo=>match o with
   |.nx Hi G0=>match G0[i]? with
    |some (.wT l)=>Z (.nx Hi (G0.set i (.dT l)))
    |_=>J
   |_=>J
  |_=>J
 |_=>J
omit x in
def E8{j:Nat}(h:KA G X st g):KA G X st (Qt j g):=PS.mono (ze (zf h)) λδ Y H hq hX=>by
 have⟨Φ,D,ch,F,M,o,en,W,k⟩:=hq;unfold Qt at W;rcases W
 rename_i i hi;rcases W
 rename_i l0 U;have⟨o1,h1,O⟩:=bS W;cases o1 with
 |nx Hi G0=>
  dsimp only at O;split at O<;>cases O
  rename_i l hl;refine⟨Φ.at F M ch,D,ch,F,M,_,en.at,h1,λK0 F' H' Ha SE=>?_⟩;have e:Ha i=M i:=SE.ad.ext i (af U);have⟨nd,kv0,q1,_⟩:=en.gh.ok i _ U;have⟨ob,J1,h2,Ro⟩:=SE.unlock hl (show F (Ha i)=J by rw[e];exact en.gh.out i _ U trivial);exact⟨Ha i,ob,J1,(λo w z=>by have:=hX _ _ _ z;rw[e,q1]at this;cases this),h2,k K0 _ _ Ha (en.back Ro)⟩
 |_=>cases O
end
structure Lb where
 op:NB ⊕ CmpOp
 g:Dt->Dt->Option T
 ok:∀(K:xA9)(X:Cx)(k:Nat),X.K=K->Hg k X.A->dN K=C->∃r,HI X (match op with|.inl o=>KY o|.inr o=>JL o) r/\IT K r g
structure Bf where
 nm:Str
 fv:String ⊕ String
 bt:LZ nm=Z (fv.elim .builtin .type)
 g:List Dt->Option T
 ok:∀(K:xA9)(X:Cx)(k:Nat),X.K=K->X.calm=C->Hg k X.A->∃r,Hx X (fv.elim .builtin .type) r/\OP K r g
structure Ms where
 nm:Str
 id:String
 slot:Slot "str" nm id
 ty:typeOf (.builtin id)=pure (.type "method_descriptor")
 g:Dt->List Dt->Option T
 ok:∀(K:xA9)(X:Cx),X.K=K->∃r,Sr X id r/\MRD K r g
structure Ia where
 op:NB
 f:Int->Int->Int
 ok:∀X:Cx,PIp X op (ipI f)
set_option backward.match.sparseCases false
inductive E where
 |k (d:Dt)|v (i:Nat)|g (j:Nat)
 |b2 (o:Lb) (m:Md) (a b:E)
 |ng (a:E)|an (a b:E)|cd (c a b:E)
 |tr (a:E)|tn (a:E)|ta (a b:E)|to (a b:E)
 |bn (o:Bf) (m:Md) (as:E)|ii (c:String) (a:E)|ms (o:Ms) (m:Md) (a as:E)|gt (a k e:E)
 |ca (j:Nat) (as:E)|me (j:Nat) (o as:E)|mk (j:Nat) (as:E)
 |at (c f:Nat) (o:E)|ix (a b:E)|sl (m:Md) (a lo hi:E)|no
 |ls (m:Md) (as:E)|tu (as:E)|dn (m:Md) (t:Bool)|il (m:Md) (a:E)|pp (a b:E)|dc (m:Md) (a:E)
 |co (m:Md) (src:List (Option Nat)) (pt:Pt) (it c e:E)|ys
 |it (a:E)|rg (as:E)|en (a:E)|ik (a:E)
 |nil|cons (a as:E)
inductive En where
 |fn (x:Str) (n:Nat) (F:Fd)|me (c:Nat) (m:Str) (n:Nat) (F:Fd)|mk (c:Nat) (n:Nat) (F:Fd)
structure Tb where
 f:List En
 gc:List (Str×Dt)
noncomputable def nF:Fg:=λ_ _=>J
noncomputable def vv:E->Nat
 |.cons _ as=>vv as+1
 |_=>0
noncomputable def Va:ζ (Str×Dt)->Fg
 |some p=>eK p.2
 |none=>nF
def Rv(as:FM (B CV)):ζ En->Fg
 |some (.fn _ n F)=>LP n F as
 |_=>nF
def Rx(o:Fg)(as:FM (B CV)):ζ En->Fg
 |some (.me c _ n F)=>K4 c n F o as
 |_=>nF
def Vb(as:FM (B CV)):ζ En->Fg
 |some (.mk c n F)=>MB c n F as
 |_=>nF
mutual
def G4(tb:Tb):E->Fg
 |.k d=>eK d
 |.v i=>eV i
 |.g j=>Va tb.gc[j]?
 |.b2 o m a b=>e2 m o.g (G4 tb a) (G4 tb b)
 |.ng a=>Xb (G4 tb a)
 |.an a b=>Xa (G4 tb a) (G4 tb b)
 |.cd c a b=>UI (IX tb c) (G4 tb a) (G4 tb b)
 |.bn o m as=>eB m o.g (II tb as)
 |.ii c a=>UP c (G4 tb a)
 |.ms o m a as=>Rq m o.g (G4 tb a) (II tb as)
 |.gt a k e=>UQ (G4 tb a) (G4 tb k) (G4 tb e)
 |.ca j as=>Rv (II tb as) tb.f[j]?
 |.me j o as=>Rx (G4 tb o) (II tb as) tb.f[j]?
 |.mk j as=>Vb (II tb as) tb.f[j]?
 |.at c f o=>L6 c f (G4 tb o)
 |.ix a b=>HR (G4 tb a) (G4 tb b)
 |.sl m a lo hi=>KN m (G4 tb a) (OV tb lo) (OV tb hi)
 |.ls m as=>Mz m (II tb as)
 |.tu as=>Je (II tb as)
 |.dn m t=>Xd m t
 |.il m a=>Rt m (G4 tb a)
 |.pp a b=>sn (G4 tb a) (G4 tb b)
 |.dc m a=>L9 m (G4 tb a)
 |.co m src pt it c e=>Jj m src (NG tb it) (Hq pt) (IX tb c) (G4 tb e)
 |_=>nF
def OV(tb:Tb):E->ζ Fg
 |.no=>J
 |.cons a _=>Z (G4 tb a)
 |_=>Z nF
def IX(tb:Tb):E->FM Bool
 |.tr (.b2 o m a b)=>gw (e2 m o.g (G4 tb a) (G4 tb b))
 |.tr a=>i8 (G4 tb a)
 |.tn a=>UH (IX tb a)
 |.ta a b=>Sv (IX tb a) (IX tb b)
 |.to a b=>uF (IX tb a) (IX tb b)
 |.ys=>IN
 |_=>λ_ _=>J
def II(tb:Tb):E->FM (B CV)
 |.nil=>He
 |.cons a as=>G3 (G4 tb a) (II tb as)
 |_=>λ_ _=>J
def NG(tb:Tb):E->FM (B Dt)
 |.it a=>iE (G4 tb a)
 |.rg as=>iR (vv as) (II tb as)
 |.en a=>iN (G4 tb a)
 |.ik a=>OU (G4 tb a)
 |_=>λ_ _=>J
end
inductive S where
 |nil|sq (s ss:S)|fz (i:Nat) (ss:S)
 |set (i:Nat) (e:E)|un (pt:Pt) (e:E)|put (a k e:E)|PC (i:Nat) (k e:E)|fl (c f:Nat) (o e:E)|fa (c f:Nat) (o:Ia) (a e:E)
 |dr (e:E)|ap (a e:E)|OX (i:Nat) (e:E)|cl (t:Bool) (a:E)|up (a e:E)
 |rt (e:E)|rn
 |cd (c:E) (a b:S)|fo (pt:Pt) (it:E) (b:S)|ul (j:Nat) (s:S)|ut (is:List Nat) (e:E)
def HL(tb:Tb):S->Fs
 |.nil=>mr
 |.sq s ss=>i9 (HL tb s) (HL tb ss)
 |.fz i ss=>Sy i (HL tb ss)
 |.set i e=>ja i (G4 tb e)
 |.un pt e=>Xf pt (G4 tb e)
 |.put a k e=>UR (G4 tb a) (G4 tb k) (G4 tb e)
 |.PC i k e=>UT i (G4 tb k) (G4 tb e)
 |.fl c f o e=>NF c f (G4 tb o) (G4 tb e)
 |.fa c f o a e=>UU c f o.f (G4 tb a) (G4 tb e)
 |.dr e=>Sz (G4 tb e)
 |.ap a e=>UW (G4 tb a) (G4 tb e)
 |.OX i e=>Py i (G4 tb e)
 |.cl t a=>Ru t (G4 tb a)
 |.up a e=>SL (G4 tb a) (G4 tb e)
 |.rt e=>Rj (G4 tb e)
 |.rn=>UK
 |.cd c a b=>UL (IX tb c) (HL tb a) (HL tb b)
 |.fo pt it b=>rT (NG tb it) (Hq pt) (HL tb b)
 |.ul j s=>Qt j (HL tb s)
 |.ut is e=>SM is (G4 tb e)
section
variable{tb:Tb}
def zk0{d}:G4 tb (.k d)=eK d:=rfl
def zk1{i}:G4 tb (.v i)=eV i:=rfl
def zk2{j}:G4 tb (.g j)=Va tb.gc[j]?:=rfl
def zk3{o m a b}:G4 tb (.b2 o m a b)=e2 m o.g (G4 tb a) (G4 tb b):=rfl
def zk5{a}:G4 tb (.ng a)=Xb (G4 tb a):=rfl
def zk6{a b}:G4 tb (.an a b)=Xa (G4 tb a) (G4 tb b):=rfl
def zk7{c a b}:G4 tb (.cd c a b)=UI (IX tb c) (G4 tb a) (G4 tb b):=rfl
def zk8{o m x}:G4 tb (.bn o m x)=eB m o.g (II tb x):=rfl
def zk9{c a}:G4 tb (.ii c a)=UP c (G4 tb a):=rfl
def zk10{o m a x}:G4 tb (.ms o m a x)=Rq m o.g (G4 tb a) (II tb x):=rfl
def zk11{a k e}:G4 tb (.gt a k e)=UQ (G4 tb a) (G4 tb k) (G4 tb e):=rfl
def zk12{j x}:G4 tb (.ca j x)=Rv (II tb x) tb.f[j]?:=rfl
def zk13{j o x}:G4 tb (.me j o x)=Rx (G4 tb o) (II tb x) tb.f[j]?:=rfl
def zk14{j x}:G4 tb (.mk j x)=Vb (II tb x) tb.f[j]?:=rfl
def zk15{c f o}:G4 tb (.at c f o)=L6 c f (G4 tb o):=rfl
def zk16{a b}:G4 tb (.ix a b)=HR (G4 tb a) (G4 tb b):=rfl
def zk17{m a l h}:G4 tb (.sl m a l h)=KN m (G4 tb a) (OV tb l) (OV tb h):=rfl
def zk18{m x}:G4 tb (.ls m x)=Mz m (II tb x):=rfl
def zk19{x}:G4 tb (.tu x)=Je (II tb x):=rfl
def zk20{m t}:G4 tb (.dn m t)=Xd m t:=rfl
def zk21{m a}:G4 tb (.il m a)=Rt m (G4 tb a):=rfl
def zk22{a b}:G4 tb (.pp a b)=sn (G4 tb a) (G4 tb b):=rfl
def zk23{m a}:G4 tb (.dc m a)=L9 m (G4 tb a):=rfl
def zk24{m s p i c e}:G4 tb (.co m s p i c e)=Jj m s (NG tb i) (Hq p) (IX tb c) (G4 tb e):=rfl
def zk25:OV tb .no=J:=rfl
def zk26{a b}:OV tb (.cons a b)=Z (G4 tb a):=rfl
def zk27{o m a b}:IX tb (.tr (.b2 o m a b))=gw (e2 m o.g (G4 tb a) (G4 tb b)):=rfl
def zk28{j x}:IX tb (.tr (.ca j x))=i8 (G4 tb (.ca j x)):=rfl
def zk29{c a}:IX tb (.tr (.ii c a))=i8 (G4 tb (.ii c a)):=rfl
def zk30{a b}:IX tb (.tr (.ix a b))=i8 (G4 tb (.ix a b)):=rfl
def zk31{j o x}:IX tb (.tr (.me j o x))=i8 (G4 tb (.me j o x)):=rfl
def zk32{a}:IX tb (.tn a)=UH (IX tb a):=rfl
def zk33{a b}:IX tb (.ta a b)=Sv (IX tb a) (IX tb b):=rfl
def zk34{a b}:IX tb (.to a b)=uF (IX tb a) (IX tb b):=rfl
def zk35:IX tb .ys=IN:=rfl
def zk36:II tb .nil=He:=rfl
def zk37{a x}:II tb (.cons a x)=G3 (G4 tb a) (II tb x):=rfl
def zk38{a}:NG tb (.it a)=iE (G4 tb a):=rfl
def zk39{x}:NG tb (.rg x)=iR (vv x) (II tb x):=rfl
def zk40{a}:NG tb (.en a)=iN (G4 tb a):=rfl
def zk60{a}:NG tb (.ik a)=OU (G4 tb a):=rfl
def zk41:HL tb .nil=mr:=rfl
def zk42{s ss}:HL tb (.sq s ss)=i9 (HL tb s) (HL tb ss):=rfl
def zk43{i ss}:HL tb (.fz i ss)=Sy i (HL tb ss):=rfl
def zk44{i e}:HL tb (.set i e)=ja i (G4 tb e):=rfl
def zk45{pt e}:HL tb (.un pt e)=Xf pt (G4 tb e):=rfl
def zk46{a k e}:HL tb (.put a k e)=UR (G4 tb a) (G4 tb k) (G4 tb e):=rfl
def zk47{c f o e}:HL tb (.fl c f o e)=NF c f (G4 tb o) (G4 tb e):=rfl
def zk48{c f o a e}:HL tb (.fa c f o a e)=UU c f o.f (G4 tb a) (G4 tb e):=rfl
def zk50{e}:HL tb (.dr e)=Sz (G4 tb e):=rfl
def zk51{a e}:HL tb (.ap a e)=UW (G4 tb a) (G4 tb e):=rfl
def zk52{i e}:HL tb (.OX i e)=Py i (G4 tb e):=rfl
def zk53{t a}:HL tb (.cl t a)=Ru t (G4 tb a):=rfl
def zk54{a e}:HL tb (.up a e)=SL (G4 tb a) (G4 tb e):=rfl
def zk55{e}:HL tb (.rt e)=Rj (G4 tb e):=rfl
def zk56:HL tb .rn=UK:=rfl
def zk57{c a b}:HL tb (.cd c a b)=UL (IX tb c) (HL tb a) (HL tb b):=rfl
def zk58{pt it b}:HL tb (.fo pt it b)=rT (NG tb it) (Hq pt) (HL tb b):=rfl
def zk61{j s}:HL tb (.ul j s)=Qt j (HL tb s):=rfl
def zk62{i e}:HL tb (.ut i e)=SM i (G4 tb e):=rfl
end
end L2
namespace L2
open PySem PySem.Spec PyProof.Rows
def HQ{p:Prop}(h:ξ=C):p:=by cases h
structure Lw where
 bl:List Str
 ct:List (Str×List Str)
 ks:List String
structure Sc where
 sc:J9
 N:List Str
noncomputable def cst(e:J8):Dt->Bool
 |.int j=>(match e with|.Constant (.int i) _ _=>i==j|_=>ξ)
 |.str y=>(match e with|.Constant (.str x) _ _=>x==y|_=>ξ)
 |.bl c=>(match e with|.Constant (.bool b) _ _=>b==c|_=>ξ)
 |.ek=>(match e with|.Constant .none _ _=>C|_=>ξ)
 |_=>ξ
noncomputable def ax:J8->Bool
 |.Starred _ _=>ξ
 |_=>C
noncomputable def aN:J8->Bool
 |.Call (.Name _ _) [] [] _=>ξ
 |_=>C
noncomputable def fg:J8->Bool
 |.Slice _ _ _ _=>ξ
 |_=>C
noncomputable def fX:J8->Bool
 |.ListComp _ _ _ _|.SetComp _ _ _ _|.DictComp _ _ _ _ _=>ξ
 |_=>C
noncomputable def vA:J8->Bool
 |.Set _ _ _=>ξ
 |_=>C
noncomputable def As:J8->Bool
 |.Tuple _ _ _|.List _ _=>ξ
 |_=>C
variable{m:Str}{apos:Pos}
section
variable{e o:J8}{es:B J8}{env:Env}{pos:Pos}
def aD(h:ax e=C):Hn (e::es) env=(ξ,eval e env)::Hn es env:=by cases e<;>first|rfl|exact HQ h
theorem bw:∀{es:B J8},es.all ax=C->(IK pos (Hn es env)).any (·.1)=ξ
 |[],_=>rfl
 |e::es,h=>by rwa[Ks,Hm]at h;rw[aD h.1];show(ξ||(IK pos (Hn es env)).any (·.1))=ξ;rw[bw h.2];rfl
theorem mI:∀{es:B J8},es.all ax=C->(IK pos (Hn es env)).all (λx=>!x.1)=C
 |[],_=>rfl
 |e::es,h=>by rwa[Ks,Hm]at h;rw[aD h.1];show(!false&&(IK pos (Hn es env)).all (λx=>!x.1))=C;rw[mI h.2];rfl
def Ib(h:aN o=C):NQ o m env (eval o env)=eval o env:=by
 cases o with
 |Call f a k p=>cases f<;>cases a<;>cases k<;>first|rfl|exact HQ h
 |_=>rfl
def n5(h:fg e=C):j8 e:=λa i=>by cases e<;>first|rfl|exact HQ h
def fj{t:ζ J8}{n:Nat}(h:fX e=C):LD e t n env=pure ξ:=by cases e<;>first|rfl|exact HQ h
def k6(h:vA e=C)(x:Value):Pe e env x=pure x:=by cases e<;>first|rfl|exact HQ h
def k7 (h:es.all ax=C) (O:es.length<30):((IK pos (Hn es env)).all (λx=>!x.1)&&(MO pos (MN [] env)).all (λx=>x.1.isSome)
      && decide (es.length+([]:B NV).length+(if([]:B NV).isEmpty then 0 else 1)<30))=C:=by
 rw[mI h];rwa[Ny,Zw,V0];rw[show(MO pos (MN [] env)).all (λx=>x.1.isSome)=C from rfl,V0];exact decide_eq_true O
def su (hb:aN o=C) (U:es.all ax=C) (W:es.length<30) (hl:(apos.endLine==pos.line)=C) :
  ∃pl,eval (.Call (.Attribute o m apos) es [] pos) env=(do
   let ov <- eval o env
   NU apos.atName
   let (f,first) <- LE [ov] (Qd ov m pl)
   QP pos f first (IK pos (Hn es env)) (MO pos (MN [] env))):=by
 refine⟨do return (<- importBound o env).getD C,?_⟩;have O:methodCallForm (es.length+([]:B NV).length) (IK pos (Hn es env)) (MO pos (MN [] env))=C:=k7 U W;rw[PySem.arm_eval_Call,Ib hb];unfold methodCall;rw[O];unfold calleeOf methodCallPos;rwa[hl,Zi,Zh,if_true,pure_bind]
end
def Vc(c:Sc)(inn:Bool)(i:Nat):J8->Bool
 |.Name x _=>cc c.sc c.N i x&&(if inn then Uy c.sc x else mi c.sc x)
 |_=>ξ
def vB(c:Sc)(inn:Bool):B Nat->B J8->Bool
 |[],[]=>C
 |i::is,e::es=>Vc c inn i e&&vB c inn is es
 |_,_=>ξ
def fP(c:Sc)(inn:Bool):Pt->J8->Bool
 |.one i,e=>Vc c inn i e
 |.many is,.Tuple es _ _=>vB c inn is es
 |_,_=>ξ
noncomputable def bZ(sc:J9):B Str:=sc.names.filterMap λy=>if y.2==.local||y.2==.cell||y.2==.free then Z y.1 else J
noncomputable def Au:J8->Bool
 |.Tuple _ _ _=>C
 |_=>ξ
noncomputable def n6:J8->Bool
 |.UnaryOp .Not _ _|.BoolOp _ _ _|.IfExp _ _ _ _|.Compare _ _ _ _=>ξ
 |_=>C
noncomputable def Av:E->Bool
 |.b2 _ _ _ _=>ξ
 |_=>C
noncomputable def Oi:E->Bool
 |.ys=>C
 |_=>ξ
variable{l:B J8}
section
variable{e:J8}{st:J6}
noncomputable def Ma(e:J8)(k:Str->Bool):Bool:=match e with|.Name x _=>k x|_=>ξ
def Ma.of{k:Str->Bool}(h:Ma e k=C):∃x p,e=.Name x p/\k x=C:=by cases e<;>first|exact⟨_,_,rfl,h⟩|exact HQ h
noncomputable def SN(e:J8)(k:J8->B J8->Pos->Bool):Bool:=match e with|.Call f ys [] p=>k f ys p|_=>ξ
def SN.of{k:J8->B J8->Pos->Bool}(h:SN e k=C):∃f ys p,e=.Call f ys [] p/\k f ys p=C:=by
 cases e with
 |Call f ys ks p=>cases ks<;>first|exact⟨_,_,_,rfl,h⟩|exact HQ h
 |_=>exact HQ h
noncomputable def OY(e:J8)(k:J8->Str->Pos->Bool):Bool:=match e with|.Attribute x m p=>k x m p|_=>ξ
def OY.of{k:J8->Str->Pos->Bool}(h:OY e k=C):∃x m p,e=.Attribute x m p/\k x m p=C:=by cases e<;>first|exact⟨_,_,_,rfl,h⟩|exact HQ h
noncomputable abbrev LH(e:J8)(k:Str->B J8->Bool):Bool:=SN e λf ys _=>Ma f λx=>k x ys
def LH.of{k:Str->B J8->Bool}(h:LH e k=C):∃x q ys p,e=.Call (.Name x q) ys [] p/\k x ys=C:=by have⟨f,ys,p,rfl,h⟩:=SN.of h;have⟨x,q,rfl,h⟩:=Ma.of h;exact⟨x,q,ys,p,rfl,h⟩
noncomputable abbrev Lc(e:J8)(k:J8->Str->Pos->B J8->Pos->Bool):Bool:=SN e λf ys p=>OY f λx m ap=>k x m ap ys p
def Lc.of{k:J8->Str->Pos->B J8->Pos->Bool}(h:Lc e k=C):∃x m ap ys p,e=.Call (.Attribute x m ap) ys [] p/\k x m ap ys p=C:=by have⟨f,ys,p,rfl,h⟩:=SN.of h;have⟨x,m,q,rfl,h⟩:=OY.of h;exact⟨x,m,q,ys,p,rfl,h⟩
noncomputable def Vd(e:J8)(k:J8->NB->J8->Bool):Bool:=match e with|.BinOp l o r _=>k l o r|_=>ξ
def Vd.of{k:J8->NB->J8->Bool}(h:Vd e k=C):∃l o r p,e=.BinOp l o r p/\k l o r=C:=by cases e<;>first|exact⟨_,_,_,_,rfl,h⟩|exact HQ h
noncomputable def Ke(l:B J8)(k:J8->Bool):Bool:=match l with|[x]=>k x|_=>ξ
def Ke.of{k:J8->Bool}(h:Ke l k=C):∃x,l=[x]/\k x=C:=by
 cases l with
 |nil=>exact HQ h
 |cons x l=>cases l<;>first|exact⟨_,rfl,h⟩|exact HQ h
noncomputable def SO(l:B J8)(k:J8->J8->Bool):Bool:=match l with|x::l=>Ke l (k x)|_=>ξ
def SO.of{k:J8->J8->Bool}(h:SO l k=C):∃x y,l=[x,y]/\k x y=C:=by
 cases l with
 |nil=>exact HQ h
 |cons x l=>have⟨y,rfl,h⟩:=Ke.of h;exact⟨x,y,rfl,h⟩
noncomputable def Ry(e:J8)(k:J8->CmpOp->J8->Bool):Bool:=match e with|.Compare l [o] rs _=>Ke rs (k l o)|_=>ξ
def Ry.of{k:J8->CmpOp->J8->Bool}(h:Ry e k=C):∃l o r p,e=.Compare l [o] [r] p/\k l o r=C:=by
 cases e with
 |Compare l os O p=>
  cases os with
  |nil=>exact HQ h
  |cons o os=>
   cases os with
   |nil=>have⟨y,rfl,h⟩:=Ke.of h;exact⟨_,_,_,_,rfl,h⟩
   |cons _ _=>exact HQ h
 |_=>exact HQ h
noncomputable def SQ(b:Bool)(e:J8)(k:J8->Bool):Bool:=match e with|.UnaryOp .Not x _=>b&&k x|.UnaryOp .USub x _=>!b&&k x|_=>ξ
def SQ.of{b:Bool}{k:J8->Bool}(h:SQ b e k=C):∃x p,e=.UnaryOp (if b then .Not else .USub) x p/\k x=C:=by
 cases e with
 |UnaryOp o x p=>cases o<;>cases b<;>first|exact⟨_,_,rfl,h⟩|exact HQ h
 |_=>exact HQ h
noncomputable def Qu(b:Bool)(e:J8)(k:J8->J8->Bool):Bool:=match e with
 |.BoolOp o (x::y::l) p=>(match o with|.And=>b|.Or=>!b)&&(match l with|[]=>k x y|z::r=>k x (.BoolOp o (y::z::r) p))
 |_=>ξ
def Qu.of{b:Bool}{k:J8->J8->Bool}(h:Qu b e k=C):∃x y l p,e=.BoolOp (if b then .And else .Or) (x::y::l) p/\((l=[]/\k x y=C)\/∃z r,l=z::r/\k x (.BoolOp (if b then .And else .Or) (y::z::r) p)=C):=by
 cases e with
 |BoolOp o vs p=>
  cases vs with
  |nil=>exact HQ h
  |cons x vs=>
   cases vs with
   |nil=>exact HQ h
   |cons y l=>cases o<;>cases b<;>cases l<;>first|exact⟨_,_,_,_,rfl,.inl ⟨rfl,h⟩⟩|exact⟨_,_,_,_,rfl,.inr ⟨_,_,rfl,h⟩⟩|exact HQ h
 |_=>exact HQ h
noncomputable def Xr(e:J8)(k:J8->J8->J8->Bool):Bool:=match e with|.IfExp x y z _=>k x y z|_=>ξ
def Xr.of{k:J8->J8->J8->Bool}(h:Xr e k=C):∃x y z p,e=.IfExp x y z p/\k x y z=C:=by cases e<;>first|exact⟨_,_,_,_,rfl,h⟩|exact HQ h
noncomputable def OZ(e:J8)(k:J8->J8->Pos->Bool):Bool:=match e with|.Subscript x y p=>k x y p|_=>ξ
def OZ.of{k:J8->J8->Pos->Bool}(h:OZ e k=C):∃x y p,e=.Subscript x y p/\k x y p=C:=by cases e<;>first|exact⟨_,_,_,rfl,h⟩|exact HQ h
noncomputable def Xs(e:J8)(k:ζ J8->ζ J8->Bool):Bool:=match e with|.Slice l h J _=>k l h|_=>ξ
def Xs.of{k:ζ J8->ζ J8->Bool}(h:Xs e k=C):∃x y p,e=.Slice x y J p/\k x y=C:=by
 cases e with
 |Slice x y z p=>cases z<;>first|exact⟨_,_,_,rfl,h⟩|exact HQ h
 |_=>exact HQ h
noncomputable def Xu(e:J8)(k:B J8->Bool):Bool:=match e with|.List ys _=>k ys|_=>ξ
def Xu.of{k:B J8->Bool}(h:Xu e k=C):∃ys p,e=.List ys p/\k ys=C:=by cases e<;>first|exact⟨_,_,rfl,h⟩|exact HQ h
noncomputable def SR(e:J8)(k:B J8->Bool):Bool:=match e with|.Tuple ys _ _=>k ys|_=>ξ
def SR.of{k:B J8->Bool}(h:SR e k=C):∃ys q p,e=.Tuple ys q p/\k ys=C:=by cases e<;>first|exact⟨_,_,_,rfl,h⟩|exact HQ h
noncomputable def Xv(e:J8):Bool:=match e with|.Dict [] [] _=>C|_=>ξ
def Xv.of(h:Xv e=C):∃p,e=.Dict [] [] p:=by
 cases e with
 |Dict a b p=>cases a<;>cases b<;>first|exact⟨_,rfl⟩|exact HQ h
 |_=>exact HQ h
noncomputable def Ve(e:J8)(k:J8->J8->J8->B J8->J9->Bool):Bool:=match e with|.ListComp elt [⟨tg,iter,ifs,n⟩] scope _=>(n==0)&&k elt tg iter ifs scope|_=>ξ
def Ve.of{k:J8->J8->J8->B J8->J9->Bool}(h:Ve e k=C):∃elt tg iter ifs scope p,e=.ListComp elt [⟨tg,iter,ifs,0⟩] scope p/\k elt tg iter ifs scope=C:=by
 cases e with
 |ListComp elt gs scope p=>
  cases gs with
  |nil=>exact HQ h
  |cons g gs=>
   have⟨tg,iter,ifs,n⟩:=g;cases gs with
   |nil=>have⟨q,h⟩:=LB.mp h;obtain rfl:=beq_iff_eq.mp q;exact⟨_,_,_,_,_,_,rfl,h⟩
   |cons _ _=>exact HQ h
 |_=>exact HQ h
noncomputable def Kq{α:Type}(o:ζ α)(k:α->Bool):Bool:=match o with|some x=>k x|none=>ξ
def Kq.of{α:Type}{o:ζ α}{k:α->Bool}(h:Kq o k=C):∃x,o=Z x/\k x=C:=by cases o<;>first|exact⟨_,rfl,h⟩|exact HQ h
end
noncomputable def caOk(x:Str)(ys:B J8):En->Bool
 |.fn y _ _=>y==x
 |_=>ξ
noncomputable def meOk(L:Lw)(m:Str):En->Bool
 |.me cl y _ _=>(y==m)&&Kq L.ct[cl]? λq=>!(q.2.contains m)
 |_=>ξ
noncomputable def mkOk(L:Lw)(x:Str):En->Bool
 |.mk cl _ _=>Kq L.ct[cl]? λq=>q.1==x
 |_=>ξ
mutual
def fE(L:Lw)(tb:Tb)(c:Sc):E->J8->Bool
 |.k d,e=>cst e d
 |.v i,e=>Ma e λx=>cc c.sc c.N i x
 |.g j,e=>Ma e λx=>aI c.sc x&&Kq tb.gc[j]? λp=>p.1==x
 |.b2 o _ a b,e=>(match o.op with
  |.inl op=>Vd e λl Oj r=>decide (Oj=op)&&fE L tb c a l&&fE L tb c b r
  |.inr op=>Ry e λl Oj r=>decide (Oj=op)&&!behindInMarks Oj r&&fE L tb c a l&&fE L tb c b r)
 |.ng a,e=>SQ ξ e λx=>fE L tb c a x
 |.an a b,e=>Qu C e λx y=>fE L tb c a x&&fE L tb c b y
 |.cd t a b,e=>Xr e λx y z=>fT L tb c t x&&fE L tb c a y&&fE L tb c b z
 |.bn o _ as,e=>LH e λx ys=>!ys.isEmpty&&(x==o.nm)&&aI c.sc x&&L.bl.contains x&&ys.all ax&&fA L tb c as ys
 |.ii cn a,e=>LH e λf ys=>SO ys λx u=>Ma u λt=>(f==("isinstance":Str))&&aI c.sc f&&L.bl.contains f&&aI c.sc t&&L.bl.contains t&&(LZ t==Z (.type cn))&&L.ks.contains cn&&ax x&&fE L tb c a x
 |.ms o _ a as,e=>Lc e λx m ap ys p=>!ys.isEmpty&&(m==o.nm)&&(ap.endLine==p.line)&&aN x&&ys.all ax&&decide (ys.length<30)&&fE L tb c a x&&fA L tb c as ys
 |.gt a k d,e=>Lc e λx m ap ys p=>SO ys λy z=>(m==("get":Str))&&(ap.endLine==p.line)&&aN x&&ax y&&ax z&&fE L tb c a x&&fE L tb c k y&&fE L tb c d z
 |.ca j as,e=>LH e λx ys=>Kq tb.f[j]? (caOk x ys)&&aI c.sc x&&ys.all ax&&fA L tb c as ys
 |.me j o as,e=>Lc e λx m ap ys p=>Kq tb.f[j]? (meOk L m)&&(ap.endLine==p.line)&&aN x&&ys.all ax&&decide (ys.length<30)&&fE L tb c o x&&fA L tb c as ys
 |.mk j as,e=>LH e λx ys=>Kq tb.f[j]? (mkOk L x)&&aI c.sc x&&ys.all ax&&fA L tb c as ys
 |.at cl f o,e=>OY e λx fn _=>(Kq L.ct[cl]? λq=>decide (q.2[f]?=Z fn))&&aN x&&fE L tb c o x
 |.ix a b,e=>OZ e λx y _=>fg y&&fE L tb c a x&&fE L tb c b y
 |.sl _ a lo hi,e=>OZ e λx y _=>Xs y λl h=>fE L tb c a x&&fO L tb c lo l&&fO L tb c hi h
 |.ls _ as,e=>Xu e λys=>ys.all ax&&fA L tb c as ys
 |.tu as,e=>SR e λys=>ys.all ax&&fA L tb c as ys
 |.dn _ _,e=>Xv e
 |.il _ a,e=>LH e λx ys=>Ke ys λz=>Lc z λy m ap zs cp=>zs.isEmpty&&(x==("list":Str))&&aI c.sc x&&L.bl.contains x&&(m==("items":Str))&&(ap.endLine==cp.line)&&aN y&&fE L tb c a y
 |.pp a b,e=>Lc e λy m ap ys cp=>Ke ys λz=>(m==("pop":Str))&&(ap.endLine==cp.line)&&aN y&&ax z&&fE L tb c a y&&fE L tb c b z
 |.dc _ a,e=>LH e λx ys=>Ke ys λy=>(x==("dict":Str))&&aI c.sc x&&L.bl.contains x&&ax y&&fE L tb c a y
 | .co _ src pt it t a,e=>Ve e λelt tg iter ifs scope=>uh c.N c.sc scope ((bZ scope).drop 1) src&&fI L tb c it tg iter&&vA iter&&fP ⟨cV scope c.sc,(bZ scope).drop 1⟩ C pt tg&&(pt.slots.all λk=>decide (src[k]?=Z J))&&
     ((ifs.isEmpty&&Oi t)||Ke ifs λx=>fT L tb ⟨cV scope c.sc,(bZ scope).drop 1⟩ t x)&&fE L tb ⟨cV scope c.sc,(bZ scope).drop 1⟩ a elt
 |_,_=>ξ
def fO(L:Lw)(tb:Tb)(c:Sc):E->ζ J8->Bool
 |.no,o=>o.isNone
 |.cons a _,o=>Kq o λe=>fE L tb c a e
 |_,_=>ξ
def fT(L:Lw)(tb:Tb)(c:Sc):E->J8->Bool
 |.tr a,e=>if n6 e then Av a&&fE L tb c a e else fTr L tb c a e
 |.tn a,e=>SQ C e λx=>fT L tb c a x
 |.ta a b,e=>Qu C e λx y=>fT L tb c a x&&fT L tb c b y
 |.to a b,e=>Qu ξ e λx y=>fT L tb c a x&&fT L tb c b y
 |_,_=>ξ
def fTr(L:Lw)(tb:Tb)(c:Sc):E->J8->Bool
 |.b2 o _ a b,e=>Ry e λl op r=>decide (o.op=.inr op)&&!behindInMarks op r&&fE L tb c a l&&fE L tb c b r
 |_,_=>ξ
def fA(L:Lw)(tb:Tb)(c:Sc):E->B J8->Bool
 |.nil,es=>es.isEmpty
 |.cons a as,es=>(match es with|e::es=>fE L tb c a e&&fA L tb c as es|[]=>ξ)
 |_,_=>ξ
def fI(L:Lw)(tb:Tb)(c:Sc):E->J8->J8->Bool
 |.it a,_,e=>fE L tb c a e
 |.rg as,_,e=>LH e λx ys=>(x==("range":Str))&&aI c.sc x&&L.bl.contains x&&ys.all ax&&decide (ys.length=vv as)&&decide (1<=ys.length)&&decide (ys.length<=1)&&fA L tb c as ys
 |.ik a,_,e=>fE L tb c a e
 |.en a,tg,e=>Au tg&&LH e λx ys=>Ke ys λy=>(x==("enumerate":Str))&&aI c.sc x&&L.bl.contains x&&ax y&&fE L tb c a y
 |_,_,_=>ξ
end
noncomputable def ME(n:Nat):Nat:=2*n
def Qv(G:Gx)(P:Iz)(w:J5)(K:xA9)(mg:Str->ζ Value)(base:Heap)(k:Nat):En->Prop
 |.fn x n F=>∃ps,Re P w K mg base x k ps (MA G n F)
 |.me c m n F=>∀p,G.ct[c]?=Z p->∃ps,OkM P w K mg base p.1 m k ps (MA G n F)
 |.mk c n F=>∀p,G.ct[c]?=Z p->∃ps,OkI P w K mg base p.1 k ps (MA G n F)
abbrev EnOk(G:Gx)(X:Cx)(k:Nat):En->Prop:=Qv G X.prog X.w X.K X.mg X.base k
structure Cn(L:Lw)(tb:Tb)(G:Gx)(c:Sc)(X:Cx):Prop where
 K:X.K=G.K
 ct:G.ct=L.ct
 k2:dN G.K=C
 sc:X.env.scope=c.sc
 N:X.N=c.N
 nd:c.N.Nodup
 calm:X.calm=C
 room:Hg (ME tb.f.length+1) X.A
 bl:∀x∈L.bl,X.mg x=J
 gc:∀p∈tb.gc,Ak G.K X.mg p.1 p.2
 cls:∀c,jC G c
 ks:∀s∈L.ks,kG G.K s
 f:∀e∈tb.f,EnOk G X (ME tb.f.length) e
 xe:X.xe=λ_ _=>False
variable{scope:J9}{e:J8}{pos:Pos}{inn:Bool}{env:Env}
section
variable{L:Lw}{tb:Tb}{G:Gx}{c:Sc}{X:Cx}
def Cn.rm(n:Cn L tb G c X):Hg (ME tb.f.length) X.A:=n.room.mono (OC _)
def Cn.comp(n:Cn L tb G c X){ρ:B Str}{θ:J4}{s:pv}{H:Hp}{ex:B J4}(O:ρ.Nodup):Cn L tb G ⟨cV scope c.sc,ρ⟩ (JE X ρ scope θ s H ex):=⟨n.K,n.ct,n.k2,scC n.sc,rfl,O,n.calm,n.room,n.bl,n.gc,n.cls,n.ks,n.f,rfl⟩
omit x in
def C0{X:Cx}{G:Gx}{d:Dt}(h:cst e d=C):GE G X e (eK d):=by
 cases d<;>first|exact HQ h|skip
 all_goals (cases e<;>first|exact HQ h|skip)
 all_goals (rename_i k _ _;cases k<;>first|exact HQ h|skip)
 .exact uD Bg λ_=>o4
 .obtain rfl:=beq_iff_eq.mp h;exact uD Eg λ_=>kz
 .obtain rfl:=beq_iff_eq.mp h;exact uD Be λ_=>bI
 .obtain rfl:=beq_iff_eq.mp h;exact uD Bh λ_=>eM
def vC(n:Cn L tb G c X){i:Nat}{x:Str}(h:cc c.sc c.N i x=C):PE X (.Name x pos) (qH i):=pvD i h n.sc n.N
def vD{i:Nat}(hi:inn=ξ->∀x,X.fn x=C)(n:Cn L tb G c X)(h:Vc c inn i e=C):PG X e (er i):=by
 unfold Vc at h;rcases h
 rw[Hm]at h;cases inn with
 |true=>exact um h.1 h.2 (by rw[n.N];exact n.nd) n.sc n.N
 |false=>exact uk h.1 h.2 n.nd n.sc n.N (.inl (hi rfl _))
theorem k8(hi:inn=ξ->∀x,X.fn x=C)(n:Cn L tb G c X):∀{is:B Nat}{es:B J8},vB c inn is es=C->OK X es (SA G is)/\(Lg es X.env).length=is.length/\(Lg es X.env).findIdx? (·.1)=J
 |[],[],_=>⟨yK,rfl,rfl⟩
 |i::is,e::es,h=>by
  rwa[vB,Hm]at h;have⟨h1,h2,U⟩:=k8 hi n h.2
  have O:Lg (e::es) X.env=(ξ,MP e X.env)::Lg es X.env:=by have h:=h.1;unfold Vc at h;split at h<;>first|(cases h;done)|rfl
  refine⟨uW (vD hi n h.1) h1 (by rw[O];rfl),by rw[O];simp[h2],?_⟩;rw[O,List.findIdx?_cons];simp[U]
 |[],e::es,h=>by cases h
 |i::is,[],h=>by cases h
omit x in
def pI(hi:inn=ξ->∀x,X.fn x=C)(n:Cn L tb G c X){pt:Pt}(h:fP c inn pt e=C):GP G X e pt:=by
 cases pt with
 |one i=>exact CJ (vD hi n h)
 |many is=>
  unfold fP at h;rcases h
  .rename_i O;cases O
  .rename_i O;cases O;have⟨h1,h2,U⟩:=k8 hi n h;exact yL n.K n.calm h1 h2 U
def C1(h:n6 e=C)(O:Sem Value):isTrue e env O=(do let v <- O;NU e.pos;LE [v] (truthy v)):=by
 cases e with
 |UnaryOp op a p=>cases op<;>first|rfl|exact HQ h
 |_=>first|rfl|exact HQ h
def Aw{op vs p}{t:FM Bool}(h:GT G X (.BoolOp op vs p) t):GW G X (.BoolOp op vs p) t:=λ_ J0 s Y H Q I q=>h J0 s Y H Q I q
def Xw{o:J8}{G5:Pos}{es:B J8}(h1:aN o=C)(h2:es.all ax=C)(O:es.length<30)(h4:apos.endLine=G5.line):UV X o m apos es G5:=⟨Ib h1,k7 h2 O,beq_iff_eq.mpr h4,λe r h=>by subst h;rwa[Ks,Hm]at h2;exact⟨aD h2.1,bw h2.2⟩⟩
def Ax{α:Type}{l:B α}(h:(!l.isEmpty)=C):∃y r,l=y::r:=by cases l<;>first|exact⟨_,_,rfl⟩|cases h
def Oi.of{t:E}(h:Oi t=C):t=.ys:=by cases t<;>first|rfl|exact HQ h
omit x in
mutual
theorem gE:∀(a:E){c:Sc}{X:Cx}(n:Cn L tb G c X)(e:J8),fE L tb c a e=C->GE G X e (G4 tb a)
 |.k d=>λn e h=>C0 h
 |.v i=>λn e h=>by
  replace h:=Ma.of h;have⟨x,p,rfl,h⟩:=h
  exact Cd (vC n h)
 |.g j=>λn e h=>by
  replace h:=Ma.of h;have⟨x,_,rfl,h⟩:=h
  have⟨h1,h⟩:=LB.mp h;have⟨p,hp,h2⟩:=Kq.of h;obtain rfl:=beq_iff_eq.mp h2;show GE G _ _ (Va tb.gc[j]?);rw[hp];have⟨v,hm,hv⟩:=n.gc p (Il hp);exact uD (uo h1 hm n.sc) hv
 |.b2 o m a b=>λn e h=>by
  have⟨r,o1,o2⟩:=o.ok G.K _ _ n.K n.rm n.k2
  replace h:(match o.op with|.inl op=>Vd e λl Oj r=>decide (Oj=op)&&fE L tb _ a l&&fE L tb _ b r|.inr op=>Ry e λl Oj r=>decide (Oj=op)&&!behindInMarks Oj r&&fE L tb _ a l&&fE L tb _ b r)=C:=h
  cases q:o.op with
  |inl op=>
   rw[q]at o1 h
   replace h:=Vd.of h;have⟨l,Oj,r',p,rfl,h⟩:=h
   rwa[Hm,decide_eq_true_eq]at h;have⟨⟨rfl,h2⟩,h3⟩:=h;exact Ce o1 o2 (gE a n _ h2) (gE b n _ h3)
  |inr op=>
   rw[q]at o1 h
   replace h:=Ry.of h;have⟨l,Oj,r',p,rfl,h⟩:=h
   rwa[Hm,decide_eq_true_eq,PZ]at h;have⟨⟨⟨rfl,h0⟩,h2⟩,h3⟩:=h;exact Cf o1 o2 (gE a n _ h2) (gE b n _ h3) h0
 |.ng a=>λn e h=>by
  replace h:=SQ.of h;have⟨x,p,rfl,h⟩:=h
  exact Cq (gE a n _ h)
 |.an a b=>λn e h=>by
  replace h:=Qu.of h;obtain⟨x,y,l,p,rfl,⟨rfl,h⟩|⟨z,r,rfl,h⟩⟩:=h<;>replace h:=LB.mp h
  .exact uH (gE a n _ h.1) (Co (gE b n _ h.2))
  .exact uH (gE a n _ h.1) (gE b n _ h.2)
 |.cd t a b=>λn e h=>by
  replace h:=Xr.of h;have⟨x,y,z,p,rfl,h⟩:=h
  rwa[Hm]at h;exact ES (gT t n _ h.1.1) (gE a n _ h.1.2) (gE b n _ h.2)
 |.bn o m as=>λn e h=>by
  replace h:=LH.of h;have⟨x,q,ys,p,rfl,h⟩:=h
  rwa[Hm,beq_iff_eq,QD]at h;have⟨⟨⟨⟨⟨h0,rfl⟩,h2⟩,h3⟩,h4⟩,h5⟩:=h;have⟨y,ys,rfl⟩:=Ax h0;have⟨r,o1,o2⟩:=o.ok G.K _ _ n.K n.calm n.rm;have hs:=h4;rwa[Ks,Hm]at hs;have hb:=o.bt;cases q:o.fv with
  |inl id=>rw[q]at o1 hb;exact uZ h2 o1 o2 (n.bl _ h3) hb (gA as n _ h5 h4) n.sc (aD hs.1) (bw hs.2)
  |inr id=>rw[q]at o1 hb;exact vb h2 o1 o2 (n.bl _ h3) hb (gA as n _ h5 h4) n.sc (aD hs.1) (bw hs.2)
 |.ii cn a=>λn e h=>by
  replace h:=LH.of h;have⟨f,q,ys,p,rfl,h⟩:=h
  replace h:=SO.of h;have⟨x,u,rfl,h⟩:=h
  replace h:=Ma.of h;have⟨t,p',rfl,h⟩:=h
  rwa[Hm,beq_iff_eq,QD]at h;have⟨⟨⟨⟨⟨⟨⟨⟨rfl,h2⟩,h3⟩,h4⟩,h5⟩,h6⟩,h7⟩,h8⟩,h9⟩:=h;exact rV n.K h2 h4 (n.bl _ h3) (n.bl _ h5) h6 (by rw[n.K];exact n.ks _ h7) (gE a n _ h9) n.sc (aD h8) (aD rfl) rfl
 |.ms o m a as=>λn e h=>by
  replace h:=Lc.of h;have⟨x,m',ap,ys,p,rfl,h⟩:=h
  rwa[Hm,beq_iff_eq,decide_eq_true_eq]at h;have⟨⟨⟨⟨⟨⟨⟨h0,rfl⟩,h2⟩,h3⟩,h4⟩,h5⟩,h6⟩,h7⟩:=h;have⟨y,ys,rfl⟩:=Ax h0;have⟨r,o1,o2⟩:=o.ok G.K _ n.K;have hs:=h4;rwa[Ks,Hm]at hs;exact CM o.slot o.ty o1 o2 (gE a n _ h6) (gA as n _ h7 h4) (Ib h3) (k7 h4 h5) (beq_iff_eq.mpr h2) (aD hs.1) (bw hs.2)
 |.gt a k d=>λn e h=>by
  replace h:=Lc.of h;have⟨x,m',ap,ys,p,rfl,h⟩:=h
  replace h:=SO.of h;have⟨y,z,rfl,h⟩:=h
  rwa[Hm,beq_iff_eq]at h;have⟨⟨⟨⟨⟨⟨⟨rfl,h2⟩,h3⟩,h4⟩,h5⟩,h6⟩,h7⟩,h8⟩:=h;exact yU n.k2 n.rm (gE a n _ h6) (gE k n _ h7) (gE d n _ h8) ⟨Ib h3,k7 (by simp[h4,h5]) (by show 2<30;decide),beq_iff_eq.mpr h2,by rw[aD h4,aD h5];rfl⟩
 |.ca j as=>λn e h=>by
  replace h:=LH.of h;have⟨x,_,ys,_,rfl,h⟩:=h
  rwa[Hm]at h;have⟨⟨⟨h1,h2⟩,h3⟩,h4⟩:=h;have⟨en,hj,h1⟩:=Kq.of h1;cases en<;>try(cases h1;done)
  .rename_i y m F;obtain rfl:=beq_iff_eq.mp h1;show GE G _ _ (Rv (II tb as) tb.f[j]?);rw[hj];have⟨ps,ok⟩:=n.f _ (Il hj);cases ys with
   |nil=>
    have ha:II tb as=He:=by cases as<;>first|rfl|exact HQ h4
    rw[ha];exact uJ h2 ok n.rm n.sc
   |cons y ys=>have hs:=h3;rwa[Ks,Hm]at hs;exact yz h2 ok n.rm (gA as n _ h4 h3) n.sc (aD hs.1) (bw hs.2)
 |.me j o as=>λn e h=>by
  replace h:=Lc.of h;have⟨x,m,ap,ys,p,rfl,h⟩:=h
  rwa[Hm,beq_iff_eq,decide_eq_true_eq]at h;have⟨⟨⟨⟨⟨⟨h1,h2⟩,h3⟩,h4⟩,h5⟩,h6⟩,h7⟩:=h;have⟨en,hj,h1⟩:=Kq.of h1;cases en<;>try(cases h1;done)
  rename_i cl y k F;have⟨h1,h8⟩:=LB.mp h1;obtain rfl:=beq_iff_eq.mp h1;have⟨q,hq,h8⟩:=Kq.of h8;rw[<- n.ct]at hq;have hm:y∉q.2:=by simpa[QD] using h8
  show GE G _ _ (Rx (G4 tb o) (II tb as) tb.f[j]?);rw[hj];have⟨ps,ok⟩:=n.f _ (Il hj) q hq;have⟨pl,he⟩:=su (m:=y) h3 h4 h5 (beq_iff_eq.mpr h2);cases ys with
  |nil=>
   have ha:II tb as=He:=by cases as<;>first|rfl|exact HQ h7
   rw[ha];exact uL n.K hq hm ok n.rm (gE o n _ h6) he
  |cons z ys=>have hs:=h4;rwa[Ks,Hm]at hs;exact yA n.K hq hm ok n.rm (gE o n _ h6) (gA as n _ h7 h4) (aD hs.1) (bw hs.2) he
 |.mk j as=>λn e h=>by
  replace h:=LH.of h;have⟨x,_,ys,_,rfl,h⟩:=h
  rwa[Hm]at h;have⟨⟨⟨h1,h2⟩,h3⟩,h4⟩:=h;have⟨en,hj,h1⟩:=Kq.of h1;cases en<;>try(cases h1;done)
  rename_i cl k F;have⟨q,hq,h1⟩:=Kq.of h1;rw[<- n.ct]at hq;obtain rfl:=beq_iff_eq.mp h1;show GE G _ _ (Vb (II tb as) tb.f[j]?);rw[hj];have⟨ps,ok⟩:=n.f _ (Il hj) q hq;cases ys with
  |nil=>
   have ha:II tb as=He:=by cases as<;>first|rfl|exact HQ h4
   rw[ha];exact uN n.K hq h2 ok n.room n.sc
  |cons z ys=>have hs:=h3;rwa[Ks,Hm]at hs;exact yB n.K hq h2 ok n.room (gA as n _ h4 h3) n.sc (aD hs.1) (bw hs.2)
 |.at cl f o=>λn e h=>by
  replace h:=OY.of h;have⟨x,fn,p,rfl,h⟩:=h
  rwa[Hm]at h;have⟨⟨h1,h2⟩,h3⟩:=h;have⟨q,hq,h1⟩:=Kq.of h1;rw[<- n.ct]at hq;exact EU n.K (n.cls cl) hq (of_decide_eq_true h1) (gE o n _ h3) (Ib h2)
 |.ix a b=>λn e h=>by
  replace h:=OZ.of h;have⟨x,y,p,rfl,h⟩:=h
  rwa[Hm]at h;exact ET n.K n.k2 n.rm (gE a n _ h.1.2) (gE b n _ h.2) (n5 h.1.1)
 |.sl m a lo hi=>λn e h=>by
  replace h:=OZ.of h;have⟨x,y,p,rfl,h⟩:=h
  replace h:=Xs.of h;have⟨l,u,p',rfl,h⟩:=h
  rwa[Hm]at h;exact uY n.K (gE a n _ h.1.1) (gO lo n _ h.1.2) (gO hi n _ h.2)
 |.ls m as=>λn e h=>by
  replace h:=Xu.of h;have⟨ys,p,rfl,h⟩:=h
  have h:=LB.mp h;exact Cw (gA as n _ h.2 h.1)
 |.tu as=>λn e h=>by
  replace h:=SR.of h;have⟨ys,q,p,rfl,h⟩:=h
  have h:=LB.mp h;exact Cy (gA as n _ h.2 h.1)
 |.dn m t=>λn e h=>by have⟨p,rfl⟩:=Xv.of h;exact yR
 |.il m a=>λn e h=>by
  replace h:=LH.of h;have⟨x,_,ys,_,rfl,h⟩:=h
  replace h:=Ke.of h;have⟨z,rfl,h⟩:=h
  replace h:=Lc.of h;have⟨y,m',ap,zs,cp,rfl,h⟩:=h
  rwa[Hm,beq_iff_eq,QD,Pa]at h;have⟨⟨⟨⟨⟨⟨⟨rfl,rfl⟩,h2⟩,h3⟩,rfl⟩,h5⟩,h6⟩,h7⟩:=h;exact CU n.K h2 n.calm (n.bl _ h3) (gE a n _ h7) n.sc (Ib h6) (beq_iff_eq.mpr h5)
 |.pp a b=>λn e h=>by
  replace h:=Lc.of h;have⟨y,m',ap,ys,cp,rfl,h⟩:=h
  replace h:=Ke.of h;have⟨z,rfl,h⟩:=h
  rwa[Hm,beq_iff_eq]at h;have⟨⟨⟨⟨⟨rfl,h2⟩,h3⟩,h4⟩,h5⟩,h6⟩:=h;exact CW (gE a n _ h5) (gE b n _ h6) (Xw h3 (by simp[h4]) (by show 1<30;decide) h2)
 |.dc m a=>λn e h=>by
  replace h:=LH.of h;have⟨x,_,ys,_,rfl,h⟩:=h
  replace h:=Ke.of h;have⟨y,rfl,h⟩:=h
  rwa[Hm,beq_iff_eq,QD]at h;have⟨⟨⟨⟨rfl,h2⟩,h3⟩,h4⟩,h5⟩:=h;exact zd h2 n.K n.calm (n.bl _ h3) (gE a n _ h5) n.sc (aD h4)
 |.co m src pt it t a=>λn e h=>by
  replace h:=Ve.of h;have⟨elt,tg,iter,ifs,scope,p,rfl,h⟩:=h
  rwa[Hm,NL]at h;have⟨⟨⟨⟨⟨⟨h2,h3⟩,h4⟩,h5⟩,h6⟩,h7⟩,h8⟩:=h;have S:=HB.of h2;refine yN (pt:=pt) (by rw[n.N,n.sc];exact S) n.calm (gI it n _ _ h3) (λnd θ s H ex=>pI (inn:=true) (nofun) (n.comp nd) h5) (λθ s H ex=>?_) (λθ s H ex=>gE a (n.comp S.nd) _ h8) h6 (k6 h4);obtain h7|h7:=h7
  .obtain rfl:=Pa.mp h7.1;obtain rfl:=Oi.of h7.2;exact pq
  .have⟨x,rfl,h7⟩:=Ke.of h7;exact pw (gT t (n.comp S.nd) _ h7)
 |.tr _|.tn _|.ta _ _|.to _ _|.no|.ys|.it _|.rg _|.en _|.ik _|.nil|.cons _ _=>λ_ _ h=>HQ h
theorem gO:∀(a:E){c:Sc}{X:Cx}(n:Cn L tb G c X)(e:ζ J8),fO L tb c a e=C->PO X e (tM G RO (L8 (OV tb a)))
 |.no=>λn o h=>by obtain rfl:=Wb.mp h;exact yP
 |.cons a b=>λn o h=>by have⟨e,rfl,h⟩:=Kq.of h;exact yQ (gE a n e h)
 |.k _|.v _|.g _|.b2 _ _ _ _|.ng _|.an _ _|.cd _ _ _|.tr _|.tn _|.ta _ _|.to _ _|.bn _ _ _|.ii _ _|.ms _ _ _ _|.gt _ _ _|.ca _ _|.me _ _ _|.mk _ _|.at _ _ _|.ix _ _|.sl _ _ _ _|.ls _ _|.tu _|.dn _ _|.il _ _|.pp _ _|.dc _ _|.co _ _ _ _ _ _|.ys|.it _|.rg _|.en _|.ik _|.nil=>λ_ _ h=>HQ h
theorem gT:∀(a:E){c:Sc}{X:Cx}(n:Cn L tb G c X)(e:J8),fT L tb c a e=C->GT G X e (IX tb a)
 |.tr a=>λn e h=>by
  replace h:(if n6 e then Av a&&fE L tb _ a e else fTr L tb _ a e)=C:=h
  split at h
  .rename_i hp;rw[Hm]at h;have ha:IX tb (.tr a)=i8 (G4 tb a):=by cases a<;>first|rfl|exact HQ h.1
   rw[ha];exact Ch n.K (gE a n e h.2) (C1 hp)
  .exact gTr a n e h
 |.tn a=>λn e h=>by
  replace h:=SQ.of h;have⟨x,p,rfl,h⟩:=h
  exact Ci (gT a n _ h)
 |.ta a b=>λn e h=>by
  replace h:=Qu.of h;obtain⟨x,y,l,p,rfl,⟨rfl,h⟩|⟨z,r,rfl,h⟩⟩:=h<;>replace h:=LB.mp h
  .exact(uG (gT a n _ h.1) (yw (gT b n _ h.2))).t
  .exact(uG (gT a n _ h.1) (Aw (gT b n _ h.2))).t
 |.to a b=>λn e h=>by
  replace h:=Qu.of h;obtain⟨x,y,l,p,rfl,⟨rfl,h⟩|⟨z,r,rfl,h⟩⟩:=h<;>replace h:=LB.mp h
  .exact(Al (gT a n _ h.1) (Cm (gT b n _ h.2))).t
  .exact(Al (gT a n _ h.1) (Aw (gT b n _ h.2))).t
 |.no|.cons _ _|.k _|.v _|.g _|.b2 _ _ _ _|.ng _|.an _ _|.cd _ _ _|.bn _ _ _|.ii _ _|.ms _ _ _ _|.gt _ _ _|.ca _ _|.me _ _ _|.mk _ _|.at _ _ _|.ix _ _|.sl _ _ _ _|.ls _ _|.tu _|.dn _ _|.il _ _|.pp _ _|.dc _ _|.co _ _ _ _ _ _|.ys|.it _|.rg _|.en _|.ik _|.nil=>λ_ _ h=>HQ h
theorem gTr:∀(a:E){c:Sc}{X:Cx}(n:Cn L tb G c X)(e:J8),fTr L tb c a e=C->GT G X e (IX tb (.tr a))
 |.b2 o m a b=>λn e h=>by
  have⟨r,o1,o2⟩:=o.ok G.K _ _ n.K n.rm n.k2
  replace h:=Ry.of h;have⟨l,op,r',p,rfl,h⟩:=h
  rwa[Hm,decide_eq_true_eq,PZ]at h;have⟨⟨⟨h1,h0⟩,h2⟩,h3⟩:=h;rw[h1]at o1;exact Cg o1 o2 (gE a n _ h2) (gE b n _ h3) h0
 |.no|.cons _ _|.k _|.v _|.g _|.ng _|.an _ _|.cd _ _ _|.bn _ _ _|.ii _ _|.ms _ _ _ _|.gt _ _ _|.ca _ _|.me _ _ _|.mk _ _|.at _ _ _|.ix _ _|.sl _ _ _ _|.ls _ _|.tu _|.dn _ _|.il _ _|.pp _ _|.dc _ _|.co _ _ _ _ _ _|.ys|.it _|.rg _|.en _|.ik _|.nil|.tr _|.tn _|.ta _ _|.to _ _=>λ_ _ h=>HQ h
theorem gA:∀(a:E){c:Sc}{X:Cx}(n:Cn L tb G c X)(es:B J8),fA L tb c a es=C->es.all ax=C->GA G X es (II tb a)
 |.nil=>λn es h _=>by obtain rfl:=Pa.mp h;exact Cr
 |.cons a as=>λn es h hs=>by
  obtain _|⟨e,es⟩:=es
  .cases h
  have h:=LB.mp h;rwa[Ks,Hm]at hs;exact yx (gE a n e h.1) (gA as n es h.2 hs.2) (aD hs.1)
 |.no|.k _|.v _|.g _|.b2 _ _ _ _|.ng _|.an _ _|.cd _ _ _|.bn _ _ _|.ii _ _|.ms _ _ _ _|.gt _ _ _|.ca _ _|.me _ _ _|.mk _ _|.at _ _ _|.ix _ _|.sl _ _ _ _|.ls _ _|.tu _|.dn _ _|.il _ _|.pp _ _|.dc _ _|.co _ _ _ _ _ _|.ys|.it _|.rg _|.en _|.ik _|.tr _|.tn _|.ta _ _|.to _ _=>λ_ _ h _=>HQ h
theorem gI:∀(a:E){c:Sc}{X:Cx}(n:Cn L tb G c X)(tg e:J8),fI L tb c a tg e=C->GI G X tg e (NG tb a)
 |.it a=>λn tg e h=>gi_e n.K (gE a n e h)
 |.rg as=>λn tg e h=>by
  replace h:=LH.of h;have⟨x,_,ys,_,rfl,h⟩:=h
  rwa[Hm,beq_iff_eq,decide_eq_true_eq,QD]at h;have⟨⟨⟨⟨⟨⟨⟨h1,h2⟩,h3⟩,h4⟩,h5⟩,h6⟩,h7⟩,h8⟩:=h;subst h1;show GI G _ _ _ (iR (vv as) (II tb as));rw[<- h5];have ga:=gA as n _ h8 h4
  match ys,h4,h6,h7,ga with
  |[x],h4,_,_,ga=>rwa[Ks,Hm]at h4;exact rS h2 (n.bl _ h3) ga n.sc (aD h4.1)
  |_::_::_,_,_,h7,_=>simp at h7
 |.en a=>λn tg e h=>by
  replace h:=LB.mp h
  have⟨h0,h⟩:=h
  replace h:=LH.of h;have⟨x,_,ys,_,rfl,h⟩:=h
  replace h:=Ke.of h;have⟨y,rfl,h⟩:=h
  rwa[Hm,beq_iff_eq,QD]at h;have⟨⟨⟨⟨rfl,h2⟩,h3⟩,h4⟩,h5⟩:=h;cases tg with
  |Tuple es k p=>exact yM n.K h2 (n.bl _ h3) (gE a n _ h5) n.sc (aD h4)
  |_=>cases h0
 |.ik a=>λn tg e h=>zg (gE a n e h)
 |.no|.cons _ _|.k _|.v _|.g _|.b2 _ _ _ _|.ng _|.an _ _|.cd _ _ _|.bn _ _ _|.ii _ _|.ms _ _ _ _|.gt _ _ _|.ca _ _|.me _ _ _|.mk _ _|.at _ _ _|.ix _ _|.sl _ _ _ _|.ls _ _|.tu _|.dn _ _|.il _ _|.pp _ _|.dc _ _|.co _ _ _ _ _ _|.ys|.nil|.tr _|.tn _|.ta _ _|.to _ _=>λ_ _ _ h=>HQ h
end
end
noncomputable def isLC:J8->Bool
 |.ListComp _ _ _ _=>C
 |_=>ξ
noncomputable def Xx(c:Sc)(x:Str)(p:Pos):J8->Bool
 |.ListComp _ _ scope q=>decide (c.sc.names.lookup x=Z .local)&&(p.line==q.line)&&!(scope.names.any λ(n,k)=>n==x&&(k==.local||k==.cell))
 |_=>ξ
section
variable{st:J6}
noncomputable def MX(st:J6)(k:J8->J8->Bool):Bool:=match st with|.Assign ts v _=>Ke ts λt=>k t v|_=>ξ
def MX.of{k:J8->J8->Bool}(h:MX st k=C):∃t v p,st=.Assign [t] v p/\k t v=C:=by
 cases st with
 |Assign ts v p=>have⟨t,rfl,h⟩:=Ke.of h;exact⟨_,_,_,rfl,h⟩
 |_=>exact HQ h
noncomputable def Xy(st:J6)(k:J8->NB->J8->Bool):Bool:=match st with|.AugAssign t o v _=>k t o v|_=>ξ
def Xy.of{k:J8->NB->J8->Bool}(h:Xy st k=C):∃t o v p,st=.AugAssign t o v p/\k t o v=C:=by cases st<;>first|exact⟨_,_,_,_,rfl,h⟩|exact HQ h
noncomputable def NH(st:J6)(k:J8->Bool):Bool:=match st with|.Expr v _=>k v|_=>ξ
def NH.of{k:J8->Bool}(h:NH st k=C):∃v p,st=.Expr v p/\k v=C:=by cases st<;>first|exact⟨_,_,rfl,h⟩|exact HQ h
noncomputable def SS(st:J6)(k:ζ J8->Bool):Bool:=match st with|.Return v _=>k v|_=>ξ
def SS.of{k:ζ J8->Bool}(h:SS st k=C):∃v p,st=.Return v p/\k v=C:=by cases st<;>first|exact⟨_,_,rfl,h⟩|exact HQ h
noncomputable def Xz(st:J6)(k:J8->B J6->B J6->Bool):Bool:=match st with|.If x y z _=>k x y z|_=>ξ
def Xz.of{k:J8->B J6->B J6->Bool}(h:Xz st k=C):∃x y z p,st=.If x y z p/\k x y z=C:=by cases st<;>first|exact⟨_,_,_,_,rfl,h⟩|exact HQ h
noncomputable def XA(st:J6)(k:J8->J8->B J6->Bool):Bool:=match st with|.For t i b o _=>o.isEmpty&&k t i b|_=>ξ
def XA.of{k:J8->J8->B J6->Bool}(h:XA st k=C):∃t i b p,st=.For t i b [] p/\k t i b=C:=by
 cases st with
 |For t i b o p=>have⟨q,h⟩:=LB.mp h;obtain rfl:=Pa.mp q;exact⟨_,_,_,_,rfl,h⟩
 |_=>exact HQ h
noncomputable def dsW(st:J6)(k:J8->B J6->Bool):Bool:=match st with|.While x b o _=>o.isEmpty&&k x b|_=>ξ
def dsW.of{k:J8->B J6->Bool}(h:dsW st k=C):∃x b p,st=.While x b [] p/\k x b=C:=by
 cases st with
 |While x b o p=>have⟨q,h⟩:=LB.mp h;obtain rfl:=Pa.mp q;exact⟨_,_,_,rfl,h⟩
 |_=>exact HQ h
noncomputable def E9:J8->Bool
 |.Constant (.str _) _ _=>C
 |_=>ξ
noncomputable def dsP:J6->Bool
 |.Pass _=>C
 |.Expr v _=>E9 v
 |_=>ξ
noncomputable def dsB:J6->Bool
 |.Break _=>C
 |_=>ξ
noncomputable def dsC:J6->Bool
 |.Continue _=>C
 |_=>ξ
end
mutual
def fS(L:Lw)(tb:Tb)(c:Sc):S->J6->Bool
 |.set i e,st=>MX st λt v=>Ma t λx=>cc c.sc c.N i x&&mi c.sc x&&fE L tb c e v&&(fX v||isLC v)
 |.un pt e,st=>MX st λtg v=>Au tg&&fP c ξ pt tg&&fX v&&As v&&fE L tb c e v
 |.ut is e,st=>MX st λtg v=>(SR tg λys=>vB c ξ is ys)&&fX v&&As v&&fE L tb c e v
 |.ul _ s,st=>fS L tb c s st
 |.put a k e,st=>MX st λt v=>OZ t λo ik _=>fg ik&&fE L tb c a o&&fE L tb c k ik&&fE L tb c e v
 |.PC i k e,st=>MX st λt v=>OZ t λo ik _=>Ma o λx=>cc c.sc c.N i x&&fg ik&&fE L tb c k ik&&fE L tb c e v
 |.fl cl f o e,st=>MX st λt v=>OY t λx fn _=>(Kq L.ct[cl]? λq=>decide (q.2[f]?=Z fn))&&fE L tb c o x&&fE L tb c e v
 |.fa cl f op a e,st=>Xy st λt aop v=>OY t λx fn _=>decide (aop=op.op)&&(Kq L.ct[cl]? λq=>decide (q.2[f]?=Z fn))&&fE L tb c a x&&fE L tb c e v
 |.dr e,st=>NH st λv=>fX v&&fE L tb c e v
 |.ap a e,st=>NH st λu=>Lc u λo m ap ys cp=>Ke ys λv=>(m==("append":Str))&&(ap.endLine==cp.line)&&aN o&&ax v&&fE L tb c a o&&fE L tb c e v
 |.OX i e,st=>NH st λu=>Lc u λo m ap ys cp=>Ke ys λv=>Ma o λx=>(m==("append":Str))&&(ap.endLine==cp.line)&&cc c.sc c.N i x&&ax v&&fE L tb c e v
 |.cl _ a,st=>NH st λu=>Lc u λo m ap ys cp=>ys.isEmpty&&(m==("clear":Str))&&(ap.endLine==cp.line)&&aN o&&fE L tb c a o
 |.up a e,st=>NH st λu=>Lc u λo m ap ys cp=>Ke ys λv=>(m==("update":Str))&&(ap.endLine==cp.line)&&aN o&&ax v&&fE L tb c a o&&fE L tb c e v
 |.rt e,st=>SS st λo=>Kq o λv=>fE L tb c e v
 |.rn,st=>SS st λo=>o.isNone
 |.cd t a b,st=>Xz st λx y z=>fT L tb c t x&&fB L tb c a y&&fB L tb c b z
 |.fo pt it b,st=>XA st λtg iter body=>fI L tb c it tg iter&&vA iter&&fP c ξ pt tg&&fB L tb c b body
 |_,_=>ξ
def fB(L:Lw)(tb:Tb)(c:Sc):S->B J6->Bool
 |.nil,ss=>ss.isEmpty
 |.sq s r,ss=>(match ss with|st::HF=>fS L tb c s st&&fB L tb c r HF|[]=>ξ)
 |.fz _ r,ss=>fB L tb c r ss
 |_,_=>ξ
end
variable{gs:B Comprehension}{q:Pos}
section
variable{L:Lw}{tb:Tb}{G:Gx}{c:Sc}{X:Cx}
def swA{x:Str}{o:J8}{p:Pos}{n:Nat}:LD e (Z (.Attribute o x p)) n env=pure ξ:=by cases e<;>rfl
def swS{o i:J8}{p:Pos}{n:Nat}:LD e (Z (.Subscript o i p)) n env=pure ξ:=by cases e<;>rfl
def asS{o ik:J8}{pos':Pos}(h:fg ik=C):AsS X o ik e pos pos':=⟨by unfold QK;exact swS,by cases e<;>rfl,rfl,λv=>by cases ik<;>first|rfl|cases h⟩
def zh{x:Str}{p:Pos}{n:Nat}(O:env.scope.kind=.function)(hs:env.scope=c.sc)(h:Xx c x p (.ListComp e gs scope q)=C):LD (.ListComp e gs scope q) (Z (.Name x p)) n env=pure C:=by
 unfold Xx at h;rwa[Hm,decide_eq_true_eq,beq_iff_eq]at h;show(pure (env.blockKind==.function&&env.kindOf x==Z .local&&p.line==q.line&&!(scope.names.any λ(n,k)=>n==x&&(k==.local||k==.cell))):Sem Bool)=pure C;have h1:env.blockKind=.function:=by unfold Env.blockKind;rw[O];rfl
 have h2:env.kindOf x=Z .local:=by unfold Env.kindOf;rw[hs];exact h.1.1
 rw[h1,h2,h.1.2,h.2];simp
def vE{x:Str}{p:Pos}{n:Nat}(hs:env.scope=c.sc)(h:Xx c x p (.ListComp e gs scope q)=ξ):LD (.ListComp e gs scope q) (Z (.Name x p)) n env=pure ξ:=by
 show(pure (env.blockKind==.function&&env.kindOf x==Z .local&&p.line==q.line&&!(scope.names.any λ(n,k)=>n==x&&(k==.local||k==.cell))):Sem Bool)=pure ξ;congr 1;have h:(decide (c.sc.names.lookup x=Z .local)&&(p.line==q.line)&&!(scope.names.any λ(n,k)=>n==x&&(k==.local||k==.cell)))=ξ:=h;have h2:(env.kindOf x==Z .local)=decide (c.sc.names.lookup x=Z .local):=by unfold Env.kindOf;rw[hs];by_cases q:c.sc.names.lookup x=Z .local<;>simp[q]
 rw[h2,VZ,VZ,<- VZ (decide _),h,Zg]
mutual
theorem gS(hf:∀x,X.fn x=C)(hk:X.env.scope.kind=.function)(n:Cn L tb G c X):∀(a:S)(st:J6),fS L tb c a st=C->KA G X st (HL tb a)
 |.set i e=>λst h=>by
  replace h:=MX.of h;have⟨t,v,q,rfl,h⟩:=h
  replace h:=Ma.of h;have⟨x,p,rfl,h⟩:=h
  rwa[Hm,NL]at h;have⟨⟨⟨h1,h2⟩,h3⟩,h4⟩:=h;by_cases hc:fX v=C
  .exact uO h1 h2 n.nd (gE e n v h3) n.sc n.N (.inl (hf x)) (fj hc)
  .have h4:=h4.resolve_left hc;cases v with
   |ListComp elt gs scope vp=>
    cases hw:Xx c x p (.ListComp elt gs scope vp)with
    |false=>exact uO h1 h2 n.nd (gE e n _ h3) n.sc n.N (.inl (hf x)) (vE n.sc hw)
    |true=>
     cases e with
     |co m src pt it t a=>
      have⟨_,tg,iter,ifs,_,_,e1,h3⟩:=Ve.of h3;cases e1;rwa[Hm,NL]at h3;have⟨⟨⟨⟨⟨⟨q2,q3⟩,q4⟩,q5⟩,q6⟩,q7⟩,q8⟩:=h3;have S:=HB.of q2;refine yO (pt:=pt) h1 h2 n.nd n.sc n.N (.inl (hf x)) (by rw[n.N,n.sc];exact S) n.calm (gI it n _ _ q3) (λnd θ s H ex=>pI (inn:=true) nofun (n.comp nd) q5) (λθ s H ex=>?_) (λθ s H ex=>gE a (n.comp S.nd) _ q8) q6 (k6 q4) (zh hk n.sc hw);obtain q7|q7:=q7
      .obtain rfl:=Pa.mp q7.1;obtain rfl:=Oi.of q7.2;exact pq
      .have⟨x,rfl,q7⟩:=Ke.of q7;exact pw (gT t (n.comp S.nd) _ q7)
     |b2 o _ _ _=>
      replace h3:(match o.op with|.inl _=>ξ|.inr _=>ξ)=C:=h3
      cases q:o.op<;>rw[q]at h3<;>exact HQ h3
     |k d=>cases d<;>exact HQ h3
     |_=>exact HQ h3
   |_=>cases h4
 |.un pt e=>λst h=>by
  replace h:=MX.of h;have⟨tg,v,q,rfl,h⟩:=h
  rwa[Hm]at h;have⟨⟨⟨⟨h1,h2⟩,h3⟩,h4⟩,h5⟩:=h;refine CQ (gE e n v h5) (pI (λ_=>hf) n h2) (by unfold QK;exact fj h3) ?_ (by cases tg<;>first|rfl|cases h1);cases tg with
  |Tuple ts k p=>cases v<;>first|rfl|cases h4
  |_=>cases h1
 |.ut is e=>λst h=>by
  replace h:=MX.of h;have⟨tg,v,q,rfl,h⟩:=h
  rwa[Hm]at h;have⟨⟨⟨h1,h2⟩,h3⟩,h4⟩:=h;have⟨ys,k,p,rfl,h1⟩:=SR.of h1;have⟨g1,g2,g3⟩:=k8 (λ_=>hf) n h1;exact E7 (gE e n v h4) (CK n.calm g1 g2 g3) (by unfold QK;exact fj h2) (by cases v<;>first|rfl|cases h3) rfl
 |.ul j s=>λst h=>E8 (gS hf hk n s st h)
 |.put a k e=>λst h=>by
  replace h:=MX.of h;have⟨t,v,q,rfl,h⟩:=h
  replace h:=OZ.of h;have⟨o,ik,p,rfl,h⟩:=h
  rwa[Hm]at h;exact CN n.k2 n.rm (gE a n _ h.1.1.2) (gE k n _ h.1.2) (gE e n _ h.2) (asS h.1.1.1)
 |.PC i k e=>λst h=>by
  replace h:=MX.of h;have⟨t,v,q,rfl,h⟩:=h
  replace h:=OZ.of h;have⟨o,ik,p,rfl,h⟩:=h
  replace h:=Ma.of h;have⟨x,p',rfl,h⟩:=h
  rwa[Hm]at h;exact yZ n.k2 n.rm (vC n h.1.1.1) (gE k n _ h.1.2) (gE e n _ h.2) (asS h.1.1.2)
 |.fl cl f o e=>λst h=>by
  replace h:=MX.of h;have⟨t,v,q,rfl,h⟩:=h
  replace h:=OY.of h;have⟨x,fn,p,rfl,h⟩:=h
  rwa[Hm]at h;have⟨⟨h1,h2⟩,h3⟩:=h;have⟨q,hq,h1⟩:=Kq.of h1;rw[<- n.ct]at hq;exact CP n.K (n.cls cl) hq (of_decide_eq_true h1) (gE o n _ h2) (gE e n _ h3) swA
 |.fa cl f op a e=>λst h=>by
  replace h:=Xy.of h;have⟨t,aop,v,q,rfl,h⟩:=h
  replace h:=OY.of h;have⟨x,fn,p,rfl,h⟩:=h
  rwa[Hm,decide_eq_true_eq]at h;have⟨⟨⟨rfl,h1⟩,h2⟩,h3⟩:=h;have⟨q,hq,h1⟩:=Kq.of h1;rw[<- n.ct]at hq;exact rW n.K (n.cls cl) hq (of_decide_eq_true h1) (op.ok X) (gE a n _ h2) (gE e n _ h3)
 |.dr e=>λst h=>by
  replace h:=NH.of h;have⟨v,p,rfl,h⟩:=h
  replace h:=LB.mp h
  exact yD (gE e n _ h.2) (fj h.1)
 |.ap a e=>λst h=>by
  replace h:=NH.of h;have⟨u,p,rfl,h⟩:=h
  replace h:=Lc.of h;have⟨o,m,ap,ys,cp,rfl,h⟩:=h
  replace h:=Ke.of h;have⟨v,rfl,h⟩:=h
  rwa[Hm,beq_iff_eq]at h;have⟨⟨⟨⟨⟨h1,h2⟩,h3⟩,h4⟩,h5⟩,h6⟩:=h;subst h1;exact rX (gE a n _ h5) (gE e n _ h6) (Xw h3 (by simp[h4]) (by show 1<30;decide) h2) rfl
 |.OX i e=>λst h=>by
  replace h:=NH.of h;have⟨u,p,rfl,h⟩:=h
  replace h:=Lc.of h;have⟨o,m,ap,ys,cp,rfl,h⟩:=h
  replace h:=Ke.of h;have⟨v,rfl,h⟩:=h
  replace h:=Ma.of h;have⟨x,p',rfl,h⟩:=h
  rwa[Hm,beq_iff_eq]at h;have⟨⟨⟨⟨h1,h2⟩,h3⟩,h4⟩,h5⟩:=h;subst h1;exact nX (vC n h3) (gE e n _ h5) (Xw rfl (by simp[h4]) (by show 1<30;decide) h2) rfl
 |.cl t a=>λst h=>by
  replace h:=NH.of h;have⟨u,p,rfl,h⟩:=h
  replace h:=Lc.of h;have⟨o,m,ap,ys,cp,rfl,h⟩:=h
  rwa[Hm,beq_iff_eq,Pa]at h;have⟨⟨⟨⟨rfl,rfl⟩,h2⟩,h3⟩,h4⟩:=h;exact vn (gE a n _ h4) (Ib h3) (beq_iff_eq.mpr h2) rfl
 |.up a e=>λst h=>by
  replace h:=NH.of h;have⟨u,p,rfl,h⟩:=h
  replace h:=Lc.of h;have⟨o,m,ap,ys,cp,rfl,h⟩:=h
  replace h:=Ke.of h;have⟨v,rfl,h⟩:=h
  rwa[Hm,beq_iff_eq]at h;have⟨⟨⟨⟨⟨h1,h2⟩,h3⟩,h4⟩,h5⟩,h6⟩:=h;subst h1;exact sr (gE a n _ h5) (gE e n _ h6) (Xw h3 (by simp[h4]) (by show 1<30;decide) h2) rfl
 |.rt e=>λst h=>by
  replace h:=SS.of h;have⟨o,p,rfl,h⟩:=h
  replace h:=Kq.of h;have⟨v,rfl,h⟩:=h
  exact CD (gE e n _ h)
 |.rn=>λst h=>by
  replace h:=SS.of h;have⟨o,p,rfl,h⟩:=h
  obtain rfl:=Wb.mp h;exact yE
 |.cd t a b=>λst h=>by
  replace h:=Xz.of h;have⟨x,y,z,p,rfl,h⟩:=h
  rwa[Hm]at h;exact EV (gT t n _ h.1.1) (gB hf hk n a _ h.1.2) (gB hf hk n b _ h.2)
 |.fo pt it b=>λst h=>by
  replace h:=XA.of h;have⟨tg,iter,body,p,rfl,h⟩:=h
  rwa[Hm]at h;have⟨⟨⟨h1,h2⟩,h3⟩,h4⟩:=h;exact CL (by rw[n.xe];exact PassesOwn.never) n.calm (gI it n _ _ h1) (pI (λ_=>hf) n h3) (gB hf hk n b _ h4) (k6 h2)
 |.nil|.sq _ _|.fz _ _=>λ_ h=>HQ h
theorem gB(hf:∀x,X.fn x=C)(hk:X.env.scope.kind=.function)(n:Cn L tb G c X):∀(a:S)(ss:B J6),fB L tb c a ss=C->GS G X ss (HL tb a)
 |.nil=>λss h=>by
  cases ss with
  |nil=>exact CB
  |cons _ _=>cases h
 |.sq s r=>λss h=>by
  cases ss<;>try(cases h;done)
  replace h:=LB.mp h
  exact yC (gS hf hk n s _ h.1) (gB hf hk n r _ h.2)
 |.fz i r=>λss h=>CC (gB hf hk n r ss h)
 |.set _ _|.un _ _|.put _ _ _|.PC _ _ _|.fl _ _ _ _|.fa _ _ _ _ _|.dr _|.ap _ _|.OX _ _|.cl _ _|.up _ _|.rt _|.rn|.cd _ _ _|.fo _ _ _|.ul _ _|.ut _ _=>λ_ h=>HQ h
end
end
end L2
namespace L2
open PySem PySem.Spec PyProof.Rows
noncomputable def cQ(m:Nat)(g:Fs):Fd:=λcs ch=>match g (cs.map Z++I0 (m-cs.length) J) ch with
 |some (.rt c G0)=>Z (c,G0)
 |some (.nx _ G0)=>Z (.g .ek,G0)
 |_=>J
variable{ch:CH}{cs:B CV}{vs:B V}{N:B Str}
def mJ{G:Gx}{F H:Hp}{M:Nat->J4}(g:Gh G F H M ch)(r:Ip G F H M ch.length cs vs)(O:∀t,CV.own C t∉cs):Ge G ⟨F,H,M,ch⟩ (cs.map Z++I0 (N.length-cs.length) J) ch (dG N vs) F H M:=by
 have hl:=Paired.length r
 have key:∀(i:Nat)(c:CV),(cs.map Z++I0 (N.length-cs.length) J)[i]?=Z (Z c)->cs[i]?=Z c:=λi c h=>by
  by_cases hi:i<cs.length
  .rw[RZ ‹hi›,HZ]at h;have⟨x,h1,h2⟩:=mS h;cases h2;exact h1
  .rw[P0 ‹hi›]at h;have:=Il h;rw[List.mem_replicate]at this;cases this.2
 refine⟨.refl g,by simp[dG,hl],λi c h=>?_,λi t a h=>absurd (Il (key i _ h)) (O t),λi j t u b a _ h=>absurd (Il (key i _ h)) (O t)⟩;have⟨v,h1,h2⟩:=Paired.get r (key i c h);refine⟨v,?_,h2⟩;unfold dG;rw[RZ ‹af h1›,HZ,h1];rfl
noncomputable def k9(p:Arguments):Bool:=p.posonlyargs.isEmpty&&p.vararg.isNone&&p.kwonlyargs.isEmpty&&p.kwarg.isNone&&decide (p.args.map (·.arg)).Nodup
def n8{ns:B Str}:∀{us:B Value},ns.Nodup->us.length=ns.length->ns.filterMap (λn=>((ns.zip us).lookup n).map λv=>(n,v))=ns.zip us:=by
 suffices H:∀(ns:B Str)(us:B Value)(O:B (Str×Value)),ns.Nodup->us.length=ns.length->(∀n∈ns,O.lookup n=J)->ns.filterMap (λn=>((O++ns.zip us).lookup n).map λv=>(n,v))=ns.zip us from λ{us} W hl=>H ns us [] W hl λ_ _=>rfl
 intro ns;induction ns with
 |nil=>intro us O _ _ _;rfl
 |cons n ns ih=>
  intro us O W hl hp;cases us with
  |nil=>cases hl
  |cons u us=>
   have U:=Jr.mp W
   have e1:(O++(n,u)::ns.zip us).lookup n=Z u:=by rw[List.lookup_append,hp n QE];simp[Nz]
   rwa[List.zip_cons_cons,V3,e1,Iy];congr 1
   have:=ih us (O++[(n,u)]) U.2 ‹hl› λm hm=>by
    rw[List.lookup_append,hp m (Oz _ hm)];have:(m==n)=ξ:=by simpa using λe=>U.1 (by rw[<- e];exact hm)
    simp[Nz,this]
   rw[NM]at this;exact this
def oe{fd:NS}(hp:k9 fd.params=C)(hd:fd.defaults=.none){us:B Value}(hl:us.length=fd.params.args.length):Ts fd ⟨us,[]⟩=pure ((fd.params.args.map (·.arg)).zip us):=by
 unfold k9 at hp;rwa[Hm,decide_eq_true_eq,Pa,Wb]at hp;have⟨⟨⟨⟨h1,h2⟩,h3⟩,h4⟩,h5⟩:=hp;have hz:=n8 (us:=us) h5 ‹hl›;have hs:seqItems? Kl=(pure J:Sem (ζ (Array Value))):=rfl
 have hm:((fd.params.args.map (·.arg)).filter λn=>((((fd.params.args.map (·.arg)).zip us).lookup n)).isNone)=[]:=by
  rw[zb7];intro n hn he;rw[Wb]at he;have h7:n∈((fd.params.args.map (·.arg)).zip us).map (·.1):=by rw[Zq (by simp[hl])];exact hn
  rw[<- hz]at h7;have⟨⟨a,b⟩,h8,h9⟩:=HG.mp h7;have⟨m,_,U⟩:=Zn.mp h8;have⟨v,O,W⟩:=mS U;cases W;cases h9;rw[he]at O;cases O
 have⟨nm,qn,⟨po,as,va,ko,kd,ka,df⟩,bd,sc,gl,cl,dfs,kdf,doc,pm,an,cd,ct,bi⟩:=fd;simp only at h1 h2 h3 h4 hd hl hm hz ⊢;subst h1 h2 h3 h4 hd;unfold Ts;have hl:us.length=(as.map (·.arg)).length:=‹hl›
 rwa[Mi,V7,LY,hs,pure_bind,Zz,List.forIn_nil];clear h5;generalize as.map (·.arg)=ns at*
 have e1:List.drop (0-ns.length) ([]:B Value)=[]:=List.drop_nil;have e2:ns.take ns.length=ns:=List.take_length;have e3:¬ (us.length > ns.length):=by lia
 rwa[List.toList_toArray,Ny,e1,Wa,e2,hm,List.isEmpty_nil,Zi,Ou,if_false,V6,List.zip_nil_right,List.forIn_nil,pure_bind,hz,decide_eq_false e3,Bool.false_and]
set_option backward.match.sparseCases true
inductive Kd where
 |fn|me (c:Nat)|mk (c:Nat)
structure Df where
 kd:Kd
 nm:Str
 m:Nat
 n:Nat
 b:S
noncomputable def C3(N ps:B Str)(sc:J9):Bool:=decide (sc.kind=.function)&&!sc.isCoroutine&&!sc.isGenerator&&decide N.Nodup&&decide (N.take ps.length=ps)&&ps.all (λx=>decide (sc.names.lookup x=Z .local)||decide (sc.names.lookup x=Z .cell))&&sc.names.all λy=>decide (y.2≠.free)
def zi{ps:B Str}{sc:J9}(h:C3 N ps sc=C):Ln N ps sc:=by unfold C3 at h;rwa[Hm,decide_eq_true_eq,PZ,Kk,NL]at h;have⟨⟨⟨⟨⟨⟨h1,h2⟩,h3⟩,h4⟩,W⟩,U⟩,O⟩:=h;exact⟨h1,h2,h3,h4,W,U,O⟩
noncomputable def zj:Value->Bool
 |.none=>C
 |_=>ξ
def sw(K:xA9)(L:Lw)(tb:Tb)(nm q:Str)(d:Df)(fd:NS):Bool:=match fd.body with
 |.stmts b=>(fd.name==nm)&&(fd.qualname==q)&&(fd.globals==Lf)&&fd.closure.isEmpty&&(fd.builtins==Wy)&&zj fd.defaults&&PySem.W.codeIn K fd.code q&&k9 fd.params&&decide (fd.params.args.map (·.arg)=(bZ fd.scope).take d.n)&&(decide (d.n<=d.m)&&decide ((bZ fd.scope).length=d.m))&&C3 (bZ fd.scope) ((bZ fd.scope).take d.n) fd.scope&&fB L tb ⟨fd.scope,bZ fd.scope⟩ d.b b
 |_=>ξ
noncomputable def dU(K:xA9)(f:J4):ζ NS:=match K.lookup f with
 |some o=>(match o.data with
  |.func fd=>Z fd
  |_=>J)
 |none=>J
structure XB(L:Lw)(gc:List (Str×Dt))(G:Gx)(mg:Str->Option Value):Prop where
 ct:G.ct=L.ct
 k2:dN G.K=C
 bl:∀x∈L.bl,mg x=J
 gc:∀p∈gc,Ak G.K mg p.1 p.2
 cls:∀c,jC G c
 ks:∀s∈L.ks,kG G.K s
section
variable{L:Lw}{tb:Tb}{G:Gx}{P:Iz}{w:J5}{mg:Str->ζ Value}{base:Heap}{d:Df}{fd:NS}{f:J4}{nm q:Str}
omit x in
def lc (E:XB L tb.gc G mg) (ht:∀ e∈tb.f,Qv G P w G.K mg base (ME tb.f.length) e) (hf:dU G.K f=Z fd) (h:sw G.K L tb nm q d fd=C) :
  Iu P w G.K mg base Qn (ME tb.f.length+2) f fd ((bZ fd.scope).take d.n) (MA G d.n (cQ d.m (HL tb d.b)))/\Io G.K fd ((bZ fd.scope).take d.n) []/\∀us:B Value,us.length=((bZ fd.scope).take d.n).length->Ts fd ⟨us,[]⟩=pure (((bZ fd.scope).take d.n).zip us):=by
 unfold sw at h;rcases h
 rename_i b hb;rwa[Hm,beq_iff_eq,decide_eq_true_eq,Pa]at h;have⟨⟨⟨⟨⟨⟨⟨⟨⟨⟨⟨h1,h2⟩,h3⟩,h4⟩,h5⟩,h6⟩,h7⟩,h8⟩,h9⟩,h10⟩,h11⟩,h12⟩:=h;have hlen:((bZ fd.scope).take d.n).length=d.n:=by rw[V5];lia
 have hm:=h10.2
 have W:∀us:B Value,us.length=((bZ fd.scope).take d.n).length->Ts fd ⟨us,[]⟩=pure (((bZ fd.scope).take d.n).zip us):=λus hu=>by
  have hd:fd.defaults=.none:=by cases q:fd.defaults<;>rw[q]at h6<;>first|rfl|cases h6
  rw[<- h9];exact oe h8 hd (by rw[<- h9]at hu;simpa using hu)
 refine⟨?_,.all W,W⟩;clear W h6 h8;unfold dU at hf;rcases hf
 rename_i o ho;split at hf<;>cases hf
 rename_i U;have⟨nm',qn,ps,bd,sc,gl,cl,dfs,kdf,doc,pm,an,cd,ct,bi⟩:=fd;have⟨oc,od,dta,osl⟩:=o;simp only at h1 h2 h3 h4 h5 h7 h9 h11 h12 hb U;subst h1 h2 h3 h4 h5 hb U;have S:=zi h11;refine EA (k:=ME tb.f.length+1) ho h7 S (λvs H Q _ Km=>by have⟨F,M,cs,ch,c,G0,g,hn,_,r,_⟩:=Km;rw[<- Paired.length r,hlen];exact hn) λA outer s H vs Q E' hr OM=>?_
 have⟨F,M,cs,ch,c,G0,g,hn,LF,r,O,k⟩:=OM;have n:Cn L tb G ⟨sc,bZ sc⟩ (qS Qn P w G.K mg base (bZ sc) qn sc f cd A outer s H E').WP:=⟨rfl,E.ct,E.k2,rfl,rfl,S.nd,rfl,hr,E.bl,E.gc,E.cls,E.ks,ht,rfl⟩;refine⟨_,(gB (λ_=>rfl) S.kind n d.b b h12).WP,?_⟩;unfold cQ at O;simp only at hm;rw[<- hm]at O;rcases O
 .rename_i c1 ch1 hg;cases O;exact⟨_,_,ch,F,M,_,mJ g r LF,hg,λv F' H' Ha a rr=>k v F' H' Ha a rr⟩
 .rename_i OT ch1 hg;cases O;refine⟨_,_,ch,F,M,_,mJ g r LF,hg,λK0 F' H' Ha en=>k .ek F' H' Ha en.ad ?_⟩;show G2 G.K F' .ek .ek;exact o4
end
noncomputable def Df.en(d:Df)(F:Fd):En:=match d.kd with
 |.fn=>.fn d.nm d.n F
 |.me c=>.me c d.nm d.n F
 |.mk c=>.mk c d.n F
def aq(gc:B (Str×Dt)):B Df->Tb
 |[]=>⟨[],gc⟩
 |d::r=>⟨d.en (cQ d.m (HL (aq gc r) d.b))::(aq gc r).f,gc⟩
def FF(gc:B (Str×Dt)):B Df->Fd
 |[]=>λ_ _=>J
 |d::r=>cQ d.m (HL (aq gc r) d.b)
noncomputable def ld(K:xA9)(ct:B (Str×B Str))(c:Nat):ζ (Str×J4):=match ct[c]? with
 |some p=>(match xF9 K Lf p.1 with
  |some (Z (.ref θ))=>Z (p.1,θ)
  |_=>J)
 |none=>J
def zk(K:xA9)(L:Lw)(tb:Tb)(d:Df):Bool:=match d.kd with
 |.fn=>(match xF9 K Lf d.nm with
  |some (Z (.ref f))=>xG9 K (.ref f)&&(match dU K f with|some fd=>sw K L tb d.nm d.nm d fd|none=>ξ)
  |_=>ξ)
 |.me c=>(match ld K L.ct c with
  |some (cn,θ)=>(match xC9 K (.ref θ) d.nm with
   |some (Z (.ref f))=>xJ9 K (.ref f)&&xG9 K (.ref f)&&(match dU K f with|some fd=>sw K L tb d.nm (cn++(".":Str)++d.nm) d fd|none=>ξ)
   |_=>ξ)
  |none=>ξ)
 |.mk c=>(match ld K L.ct c with
  |some (cn,θ)=>xS9 K θ&&xG9 K (.ref θ)&&(match xC9 K (.ref θ) "__init__" with
   |some (Z (.ref f))=>xJ9 K (.ref f)&&(match dU K f with|some fd=>sw K L tb "__init__" (cn++(".__init__":Str)) d fd|none=>ξ)
   |_=>ξ)
  |none=>ξ)
def Vg(K:xA9)(nm x:Str):Bool:=match xF9 K Lf nm with
 |some (Z (.ref f))=>(match dU K f with|some fd=>decide (fd.params.args.map (·.arg)=[x])&&decide ((bZ fd.scope).take 1=[x])|none=>ξ)
 |_=>ξ
def vF(K:xA9)(L:Lw)(gc:B (Str×Dt)):B Df->Bool
 |[]=>C
 |d::r=>zk K L (aq gc r) d&&vF K L gc r
variable{j:Nat}{K:xA9}{tb:Tb}
section
variable{L:Lw}{gc:B (Str×Dt)}{G:Gx}{P:Iz}{w:J5}{mg:Str->ζ Value}{base h:Heap}
def Qv.mono{k:Nat}{e:En}(O:j<=k)(x:Qv G P w G.K mg base j e):Qv G P w G.K mg base k e:=by
 cases e with
 |fn y n F=>have⟨ps,f,fd,h1,h2,U,h4⟩:=x;exact⟨ps,⟨f,fd,h1,h2,U,h4.mono O⟩⟩
 |me c m n F=>intro p hp;have⟨ps,θ,f,fd,h1,h2,U,h4,W⟩:=x p hp;exact⟨ps,⟨θ,f,fd,h1,h2,U,h4,W.mono O⟩⟩
 |mk c n F=>intro p hp;have⟨ps,θ,f,fd,h1,h2,U,h4,W⟩:=x p hp;exact⟨ps,⟨θ,f,fd,h1,h2,U,h4,W.mono O⟩⟩
omit x in
def jP{ct:B (Str×B Str)}{c:Nat}{x:Str×J4}(h:ld K ct c=Z x):∃p,ct[c]?=Z p/\p.1=x.1/\IU K p.1 x.2:=by
 unfold ld at h;rcases h
 rename_i p hp;split at h<;>cases h
 rename_i θ O;exact⟨p,hp,rfl,O⟩
def iw:∀ds:B Df,(aq gc ds).gc=gc
 |[]=>rfl
 |_::_=>rfl
theorem jQ:∀ds:B Df,(aq gc ds).f.length=ds.length
 |[]=>rfl
 |_::r=>by simp[aq,jQ r]
omit x in
def zl{d:Df}(X:G.K.In h)(N:h.Ns Lf mg)(E:XB L tb.gc G mg)(ht:∀e∈tb.f,Qv G P w G.K mg base (ME tb.f.length) e)(hc:zk G.K L tb d=C):Qv G P w G.K mg base (ME tb.f.length+2) (d.en (cQ d.m (HL tb d.b))):=by
 unfold zk at hc;unfold Df.en
 have fin:∀{f:J4}{nm q:Str},(match dU G.K f with|some fd=>sw G.K L tb nm q d fd|none=>ξ)=C->∃fd,Iu P w G.K mg base Qn (ME tb.f.length+2) f fd ((bZ fd.scope).take d.n) (MA G d.n (cQ d.m (HL tb d.b)))/\Io G.K fd ((bZ fd.scope).take d.n) []:=λ{f nm q} h=>by
  rcases h
  rename_i fd Vh;have⟨h1,h2,_⟩:=lc E ht Vh h;exact⟨fd,h1,h2⟩
 cases q:d.kd with
 |fn=>
  rw[q]at hc;dsimp only at hc ⊢;rcases hc
  rename_i f hf;rw[Hm]at hc;have⟨fd,h1,h2⟩:=fin hc.2;exact⟨_,⟨f,fd,xN9 X N hf,hc.1,h2,h1⟩⟩
 |me c=>
  rw[q]at hc;dsimp only at hc ⊢;rcases hc
  rename_i cn θ U;rcases hc
  rename_i f hf;rwa[Hm]at hc;have⟨fd,h1,h2⟩:=fin hc.2;have⟨p,hp,_,Kf⟩:=jP U;intro p' O;rw[E.ct,hp]at O;cases O;have⟨C',hC',hcs,_⟩:=E.cls c p (by rw[E.ct];exact hp);have:=Kf.inj hC';subst this;exact⟨_,⟨θ,f,fd,Kf,hcs,⟨hf,hc.1.1,hc.1.2⟩,h2,h1⟩⟩
 |mk c=>
  rw[q]at hc;dsimp only at hc ⊢;rcases hc
  rename_i cn θ U;rwa[Hm]at hc;have⟨⟨h3,h4⟩,hc⟩:=hc;rcases hc
  rename_i f hf;rw[Hm]at hc;have⟨fd,h1,h2⟩:=fin hc.2;have⟨p,hp,_,Kf⟩:=jP U;intro p' O;rw[E.ct,hp]at O;cases O;exact⟨_,⟨θ,f,fd,Kf,xN9 X N Kf,⟨h3,hf,hc.1,h4⟩,h2,h1⟩⟩
theorem lh(X:G.K.In h)(N:h.Ns Lf mg)(E:XB L gc G mg):∀{ds:B Df},vF G.K L gc ds=C->∀e∈(aq gc ds).f,Qv G P w G.K mg base (ME (aq gc ds).f.length) e
 |[],_,e,O=>by cases O
 |d::r,hc,e,O=>by
  rwa[vF,Hm]at hc;have U:=lh X N E (ds:=r) hc.2;have hl:ME (aq gc (d::r)).f.length=ME (aq gc r).f.length+2:=by simp[aq,ME];lia
  rw[hl];rcases IE.mp O with rfl|O
  .exact zl X N (by rw[iw];exact E) U hc.1
  .exact(U e O).mono (Nat.le_add_right _ _)
noncomputable def Ay:Value->Dt->Bool
 |.int i _,.int j=>i==j
 |.str x _,.str y=>x==y
 |_,_=>ξ
def Vj(K:xA9)(p:Str×Dt):Bool:=match xF9 K Lf p.1 with
 |some (Z u)=>Ay u p.2
 |_=>ξ
noncomputable def Vk(K:xA9)(p:Str×B Str):Bool:=match xF9 K Lf p.1 with
 |some (Z (.ref θ))=>xI9 K θ Str.empty&&xL9 K θ&&xQ9 K θ&&(xC9 K (.ref θ) "__setattr__"==Z (Z (.builtin "object.__setattr__")))&&decide p.2.Nodup&&p.2.all λf=>xC9 K (.ref θ) f==Z J
 |_=>ξ
noncomputable def Ic:B String:=["NoneType","bool","int","str","tuple","list","dict"]
noncomputable def je(c t:String):Bool:=(t==c)||(t=="bool"&&c=="int")
def Vl(K:xA9)(c:String):Bool:=Ic.all λt=>xH9 K (.type t) (.type c)==Z (je c t)
def ev0(K:xA9)(L:Lw)(gc:B (Str×Dt)):Bool:=dN K&&L.bl.all (λx=>xF9 K Lf x==Z J)&&gc.all (Vj K)&&L.ct.all (Vk K)&&L.ks.all (Vl K)
omit x in
def zm{c:String}(h:Vl K c=C):kG K c:=λd _=>by
 have key:∀t∈Ic,xH9 K (.type t) (.type c)=Z (je c t):=λt O=>beq_iff_eq.mp (Kk.mp h t O)
 cases d
 case bl b=>
  refine(key "bool" (by simp[Ic])).trans ?_;rwa[je,c9,PY (a:="bool")];rfl
 case ek=>refine(key "NoneType" (by simp[Ic])).trans ?_;simp[je,c9,PY (a:="NoneType")]
 case int i=>refine(key "int" (by simp[Ic])).trans ?_;simp[je,c9,PY (a:="int")]
 case str i=>refine(key "str" (by simp[Ic])).trans ?_;simp[je,c9,PY (a:="str")]
 case t i=>refine(key "tuple" (by simp[Ic])).trans ?_;simp[je,c9,PY (a:="tuple")]
 case e i=>refine(key "list" (by simp[Ic])).trans ?_;simp[je,c9,PY (a:="list")]
 case HC a b=>refine(key "dict" (by simp[Ic])).trans ?_;simp[je,c9,PY (a:="dict")]
 case HJ a b=>refine(key "dict" (by simp[Ic])).trans ?_;simp[je,c9,PY (a:="dict")]
omit x in
def C4(X:K.In h)(N:h.Ns Lf mg)(hc:ev0 K L gc=C):XB L gc ⟨K,L.ct⟩ mg:=by
 unfold ev0 at hc;rwa[Hm,Kk]at hc;have⟨⟨⟨⟨h1,h2⟩,h3⟩,h4⟩,h5⟩:=hc;refine⟨rfl,h1,λx hx=>PySem.W.mg_none_of X N (beq_iff_eq.mp (h2 x hx)),λp hp=>?_,λc p hp=>?_,λs hs=>zm (h5 s hs)⟩
 .have h:=h3 p hp;unfold Vj at h;rcases h
  rename_i u hu;have O:=xN9 X N hu;unfold Ay at h;rcases h
  .rename_i i t j e;rw[e];rw[beq_iff_eq]at h;subst h;exact⟨.int i,⟨_,O,_,rfl⟩,λ_=>bI⟩
  .rename_i i t j e;rw[e];rw[beq_iff_eq]at h;subst h;exact⟨.str i,⟨_,O,_,rfl⟩,λ_=>eM⟩
 .have h:=h4 p (Il hp);unfold Vk at h;rcases h
  rename_i θ hC;rwa[Hm,Kk,decide_eq_true_eq]at h;have⟨⟨⟨⟨⟨q1,q2⟩,q3⟩,q4⟩,q5⟩,U⟩:=h;exact⟨θ,hC,⟨q1,q2,q3,beq_iff_eq.mp q4⟩,q5,λf hf=>beq_iff_eq.mp (U f hf)⟩
end
def spL(K:xA9):Sp:=λvs H Q _=>∃(a:J4)(ns:B Int),vs=[.ref a]/\Id K H a (ns.map V.int)/\ns.length<=63/\∀H',Q (.bl C) H'
omit x in
def Vm {l:PySem.W.OpenLaw} {q:Iz} {loose:B Str} {XP:(Str->ζ Value)->Heap->Prop} {YP:J5->Heap->Prop} {d:DefRec} {K:Params->xA9} (L:Lw) (gc:B (Str×Dt)) {d0:Df} {r:B Df} {x:Str} (main:∀ ns:B Int,ns.length<=63->∃ G0,FF gc (d0::r) [.g (.e (ns.map .int))] []=Z (.g (.bl C),G0))
  (hd:d0.kd=.fn/\d0.nm=d.name/\d0.n=1) (hr:Hg (ME r.length+2) Qe) (hn:l.most=Z 63) (Ui:d.params.defaults=[])
  (hY:∀(w:J5)(h:Heap),YP w h->(K w.params).In h) (Uj:∀w:J5,l5 (K w.params)=[])
  (hc:∀w:J5,(ev0 (K w.params) L gc&&vF (K w.params) L gc (d0::r)&&Vg (K w.params) d0.nm x)=C):PySem.W.WalkO q loose XP YP l.row.toRowW d [] (λf vs=>PySem.call f vs):=by
 refine L2.GY (n:=63) (k:=ME r.length+2) (x:=x) (CX:=λ_=>Qn) (sp:=λw=>spL (K w.params)) hn Ω Ui hr hY Uj (λw mg fa h KX N hfa=>?_) (λ_ _ a ns hl hO hS=>⟨a,ns,rfl,hS,hl,λ_=>rfl⟩) λ_ _ _ _ _ z=>z
 have hw:=hc w;rwa[Hm]at hw;have⟨hw,O⟩:=hw;have E:=C4 KX N hw.1;have⟨hkd,XC,hn1⟩:=hd;have U:=hw.2;rwa[vF,Hm]at U;have h1:=U.1;unfold zk at h1;rw[hkd]at h1;dsimp only at h1;rcases h1
 rename_i f hf;rw[Hm]at h1
 have hff:f=fa:=by have e:=xN9 KX N hf;rw[XC,hfa]at e;cases e;rfl
 subst hff;have h2:=h1.2;rcases h2
 rename_i fd Vh;unfold Vg at O;rw[hf]at O;dsimp only at O;rw[Vh]at O;rwa[Hm,decide_eq_true_eq]at O;have hps:(bZ fd.scope).take d0.n=[x]:=by rw[hn1];exact O.2
 have hb:=(lc (P:=l.prog) (w:=w) (base:=h) (f:=f) (G:=⟨K w.params,L.ct⟩) (tb:=aq gc r) (by rw[iw];exact E) (lh KX N E U.2) Vh h2).2.2;refine⟨fd,λs u=>.of_eq ?_,λbase Xp ST=>?_⟩
 .have:=hb [u] (by rw[hps];rfl);rw[hps]at this;exact this
 .have Hb:=(lc (P:=l.prog) (w:=w) (base:=base) (f:=f) (G:=⟨K w.params,L.ct⟩) (tb:=aq gc r) (by rw[iw];exact E) (lh KX N E U.2) Vh h2).1;rw[hps,jQ]at Hb;refine Hb.imp λvs H Q E' OM=>?_
  have⟨a,ns,rfl,hS,hl,q⟩:=OM;have⟨G0,hm⟩:=main ns hl;refine⟨H,λ_=>a,[.g (.e (ns.map .int))],[],.g (.bl C),G0,⟨rp.refl H,λi j hi=>absurd hi (Nat.not_lt_zero _),λi o hi=>by simp at hi,λi o hi=>by simp at hi⟩,by rw[hn1];rfl,λt=>Ξ,.cons ?_ .nil,hm,λv F' H' Ha _ o=>?_⟩
  .show G2 (K w.params) H (.e (ns.map .int)) (.ref a);rwa[G2];exact⟨a,_,rfl,hS,ag.map (λ_=>bI) ns⟩
  .have o:G2 (K w.params) F' (.bl C) v:=o;rwa[G2]at o;subst o;exact q H'
noncomputable def isKBq:Dt->ζ (B rb)
 |.t [.int n,.str s]=>Z [.inl n,.inr s]
 |_=>J
variable{z:Str}
def mulOkX{n:Int}(h:0<=n/\n<=1000/\z.length<=1000):MulOk z n:=by
 have⟨h0,h1,h2⟩:=h;refine⟨?_,λh _=>?_,λh _=>?_⟩
 .have O:decide (n < -(2^63:Int))=ξ:=decide_eq_false Θ;have e2:decide (n ≥ 2^63)=ξ:=decide_eq_false Θ;rw[O,e2];rfl
 .have e:(1000:Int)<=(2^63-1)/n:=(Int.le_ediv_iff_mul_le Θ).mpr Θ;lia
 .have e:z.length*n.toNat<=1000*1000:=Nat.mul_le_mul h2 Θ;have U:G6=16777216:=Ih;exact decide_eq_false Θ
noncomputable def pJ:Dt->Dt->ζ T
 |.e l,.int n=>if 0<=n/\n<=1000/\l.length<=1000 then Z (.e (I0 n.toNat l).flatten)else J
 |_,_=>J
def Fa (a:Int) (t:Tok) (l:J4) (J3:Array Value) (n:Nat) (sl:Array (ζ Value)) :
  Meets (JV.«int.__rmul__» ⟨[.int a t,.ref l],[]⟩) (λ_ R s=>s.heap.get? l=Z {cls:=.type "list",dict:=J,data:=.seq J3 n,slots:=sl}/\R (.ok (.ret Value.notImplemented)) s):=
 .of_wp λprog w A R s h=>by have⟨hp,g,d,O,os⟩:=s;have⟨hl,h⟩:=h;wp_walk;exact⟨_,rfl,h⟩
def mulL (l:J4) (J3:Array Value) (n:Nat) (sl:Array (ζ Value)) (x:Int) (u:Tok) (h0:¬(!Builtin.List.listFitsIndex x)=C) (h1:¬J3.size*x.toNat > (2^63-1)/8) (h2:¬ZR (J3.size*x.toNat)=C) (hsz:(Td (λU O=>U++O) #[] (I0 (if J3.isEmpty=C then 0 else x.toNat) J3)).size<=G6) :
  Meets (JV.«list.__mul__» ⟨[.ref l,.int x u],[]⟩) (λ_ R s=>s.heap.get? l=Z {cls:=.type "list",dict:=J,data:=.seq J3 n,slots:=sl}/\R (.ok (.ret (HH s.heap.objs.size))) {s with heap:=s.heap.push {cls:=OH "list",data:=Data.seq (Td (λU O=>U++O) #[] (I0 (if J3.isEmpty=C then 0 else x.toNat) J3))},toks:=s.toks}):=
 .of_wp λprog w A R s h=>by have⟨hp,g,d,W,os⟩:=s;have⟨hl,h⟩:=h;wp_walk;refine wpAny_ite_false (decide_eq_false (Mm.mpr hsz)) ?_;wp_walk;exact⟨_,rfl,h⟩
def Az(K:xA9):R2:=λx y H Q=>∃l k xs,x=.ref l/\y=.int k/\Id K H l xs/\(0<=k/\k<=1000/\xs.length<=1000)∧∀p,H p=J->Q (.ref p) (upd H p (.e (I0 k.toNat xs).flatten))
def zn{X:Cx}:HI X (KY .Mult) (Az X.K):=by
 intro J0 s Y H x y v u Q I rx ry h;have⟨l,k,xs,rfl,rfl,hH,⟨h0,h1,hx⟩,q⟩:=h;cases rx;have⟨t,rfl⟩:=ry;have⟨J3,r,pl,_⟩:=I.list hH;have⟨⟨cls,dd,data,sl⟩,n,W,hc,hd0,hd⟩:=pl;simp only at hc hd hd0;subst hc hd hd0;have hl:=r.length;have hk:k.toNat<=1000:=by lia
 have hm:J3.length*k.toNat<=1000*1000:=Nat.mul_le_mul Θ hk;have hs:G6=16777216:=Ih;have hlen:J3.toArray.size*k.toNat<=G6:=by rw[JB];lia
 have O:Td (λx1 x2=>x1++x2) #[] (I0 (if J3.toArray.isEmpty=C then 0 else k.toNat) J3.toArray)=(I0 k.toNat J3).flatten.toArray:=by
  have f0:∀m:Nat,Td (λx1 x2=>x1++x2) #[] (I0 m J3.toArray)=(I0 m J3).flatten.toArray:=λm=>by have:=jo J3 m [];rw[V7]at this;exact this
  rw[f0];cases J3 with
  |nil=>simp
  |cons a r'=>rw[if_neg Ξ]
 refine wpAny_binaryOp_repeat_ref (T:="list") (U:="int") Ω ⟨_,W,rfl⟩ (λs'=>typeIs_int s' k t) noFill_list_mul F.fills_int_mul F.slot_int_rmul repeat_list F.slot_int_index.lookup
  (QN F.slot_int_rmul (typeIs_int s k t) F.entry_int_rmul (F.args_int_rmul_2 _ _) (Fa k t l J3.toArray n sl)
   ⟨W,rfl,⟨_,W,rfl⟩,QN F.slot_list_mul ⟨_,W,rfl⟩ F.entry_list_mul (F.args_list_mul_2 _ _) (mulL l J3.toArray n sl k t (by
    rw[fitsIndex_both Θ Θ];exact Ju) (by
    have:(G6:Nat)<=(2^63-1)/8:=by decide
    lia) (by
    rw[tR hlen];exact Ju) (by
    rw[O,JB,oW,Nat.mul_comm];lia)) ⟨W,?_⟩⟩)
 rw[O];exact⟨.ref _,_,I.Q5 (t':=s.toks) (r.rep k.toNat) (by rw[oW,Nat.mul_comm,hl];lia),rfl,q _ I.fresh⟩
variable{l:B Dt}
theorem ag.rep{F:Hp}(h:ag K F l vs):∀n:Nat,ag K F (I0 n l).flatten (I0 n vs).flatten
 |0=>by simp[ag]
 |n+1=>by rw[O9,O9,QF,QF];exact h.append (ag.rep h n)
omit x in
def C5:IT K (Az K) pJ:=by
 intro F H x y vx vy Q t W rx U O k;unfold pJ at O;rcases O
 split at O<;>cases O
 rename_i hl;have⟨a,vs,rfl,h1,h2⟩:=rx;cases U;exact⟨a,_,vs,rfl,rfl,h1,⟨hl.1,hl.2.1,by rw[h2.length];exact hl.2.2⟩,λp hp=>b9 k W (ag.rep h2 _) hp⟩
noncomputable def Jh(g g':Dt->Dt->ζ T)(x y:Dt):ζ T:=match g x y with
 |some t=>Z t
 |none=>g' x y
omit x in
def IT.or{r r':R2}{g g':Dt->Dt->ζ T}(h:IT K r g)(h':IT K r' g'):IT K (λx y H Q=>r x y H Q\/r' x y H Q) (Jh g g'):=λF H x y vx W Q t fh rx U O k=>by
 unfold Jh at O;split at O
 .rename_i u hu;cases O;exact .inl (h F H x y vx W Q _ fh rx U hu k)
 .exact .inr (h' F H x y vx W Q t fh rx U O k)
noncomputable def zo:Dt->Dt->ζ T
 |.int i,.int j=>if 0<=j then Z (.f (.int (i/2^j.toNat)))else J
 |_,_=>J
def Fb:IT K (g8 (λ_ j=>0<=j) λi j=>.int (i/2^j.toNat)) zo:=by
 intro F H x y vx vy Q t W rx U O k;unfold zo at O;rcases O
 split at O
 .cases O;cases rx;cases U;exact⟨_,_,rfl,rfl,by assumption,k.int W⟩
 .cases O
def mK(O:Bool)(x y:Dt):ζ T:=(bG y x).map λr=>.f (.bl (if O then !r.isSome else r.isSome))
def AA{O:Bool}(hK:dN K=C):IT K (Ct O) (mK O):=by
 intro F H x y vx vy Q t fh rx ry U k;have⟨r,hr,rfl⟩:=mS U;have⟨a,o,rfl,U,W⟩:=ie hK fh ry rx hr;refine⟨a,o,rfl,U,?_⟩
 have e:o.isSome=r.isSome:=by
  cases r with
  |none=>rw[W.2 rfl];rfl
  |some d=>have⟨v,rfl,_⟩:=W.1 d rfl;rfl
 rw[e];exact k.bl fh
def Hs:Lb:=⟨.inl .Add,Jh c5 ig,λK X k e _ _=>⟨_,by subst e;exact HI.or o8 yI,IT.or Ag CG⟩⟩
def LJ:Lb:=⟨.inl .Sub,uw,λK X k e _ _=>⟨_,Bw,EJ⟩⟩
def HY:Lb:=⟨.inl .Mult,Jh ia pJ,λK X k e _ _=>⟨_,by subst e;exact HI.or By zn,IT.or EK C5⟩⟩
noncomputable def JF:Lb:=⟨.inl .FloorDiv,gp,λK X k e _ _=>⟨_,uU,CI⟩⟩
noncomputable def HU:Lb:=⟨.inl .Mod,eO,λK X k e _ _=>⟨_,Bz,EL⟩⟩
def PD:Lb:=⟨.inl .Pow,yo,λK X k e _ _=>⟨_,BA,EM⟩⟩
noncomputable def Nq:Lb:=⟨.inl .BitAnd,rJ WC,λK X k e _ _=>⟨_,BC,nM⟩⟩
noncomputable def Vo:Lb:=⟨.inl .BitOr,rJ JV.bitOr,λK X k e _ _=>⟨_,Et,nM⟩⟩
noncomputable def Vq:Lb:=⟨.inl .BitXor,rJ JV.bitXor,λK X k e _ _=>⟨_,BD,nM⟩⟩
noncomputable def PF:Lb:=⟨.inl .RShift,zo,λK X k e _ _=>⟨_,BB,Fb⟩⟩
def KH:Lb:=⟨.inr .Eq,MR ξ,λK X k e r _=>⟨_,by subst e;exact ux r,UD⟩⟩
def Z0:Lb:=⟨.inr .NotEq,MR C,λK X k e r _=>⟨_,by subst e;exact B6 r,r_ne⟩⟩
noncomputable def Z5:Lb:=⟨.inr .Lt,yp λi j=>decide (i<j),λK X k e r _=>⟨_,Ew,Ah⟩⟩
noncomputable def WI:Lb:=⟨.inr .Gt,yp λi j=>decide (j<i),λK X k e r _=>⟨_,Ex,Ah⟩⟩
def TK:Lb:=⟨.inr .Is,Jh (TL ξ) (rP ξ),λK X k e r _=>⟨_,HI.or BG CF,IT.or r_is EX⟩⟩
def Mn:Lb:=⟨.inr .IsNot,Jh (TL C) (rP C),λK X k e r _=>⟨_,HI.or xH rQ,IT.or yr uS⟩⟩
def Lu:Lb:=⟨.inr .In,Jh (OQ ξ) (mK ξ),λK X k e r h=>⟨_,by subst e;exact HI.or B9 (Cu (jt r)),IT.or (UE ξ) (AA h)⟩⟩
def oNi:Lb:=⟨.inr .NotIn,Jh (OQ C) (mK C),λK X k e r h=>⟨_,by subst e;exact HI.or rK (rM (jt r)),IT.or (UE C) (AA h)⟩⟩
def HE:Bf:=⟨"len",.inl "len",rfl,ic,λK X k e _ _=>⟨_,by subst e;exact tm,EN⟩⟩
noncomputable def iy:Bf:=⟨"list",.inr "list",rfl,uB,λK X k e _ _=>⟨_,by subst e;exact kg,Cc⟩⟩
def Lv:Bf:=⟨"tuple",.inr "tuple",rfl,nP,λK X k e _ _=>⟨_,by subst e;exact iZ,yt⟩⟩
def PH:Bf:=⟨"int",.inr "int",rfl,Cb,λK X k e _ _=>⟨_,rL,EO⟩⟩
def PJ:Bf:=⟨"sorted",.inl "sorted",rfl,gH,λK X k e _ _=>⟨_,by subst e;exact kU,vf⟩⟩
def Ol:Bf:=⟨"max",.inl "max",rfl,CS,λK X k e c _=>⟨_,sd c,EY⟩⟩
def Om:Ms:=⟨"join","str.join",PySem.F.slot_str_join,PySem.F.type_str_join,kJ,λK X e=>⟨_,by subst e;exact yg,yu⟩⟩
noncomputable def vG:Ia:=⟨.Add,λi j=>i+j,λX=>Bq⟩
noncomputable abbrev kI(n:Int):E:=.k (.int n)
noncomputable abbrev kS(s:Str):E:=.k (.str s)
noncomputable abbrev A1(a:E):E:=.cons a .nil
abbrev A2(a b:E):E:=.cons a (A1 b)
abbrev A3(a b c:E):E:=.cons a (A2 b c)
abbrev A4(a b c d:E):E:=.cons a (A3 b c d)
abbrev A5(a b c d e:E):E:=.cons a (A4 b c d e)
def C6(n:Bool):Dt->Dt->ζ T
 |.HJ ks l,.HJ O m=>if ks=O/\l.all aR=C/\m.all aR=C/\l.length=m.length then Z (.f (.bl (if n then !ID l m else ID l m)))else J
 |_,_=>J
variable{e:Dt}
section
variable{K:xA9}{F H:Hp}
def pL{d:Dt}{v w:V}(O:aR d=C)(U:aR e=C)(h:G2 K F d v)(h':G2 K F e w):bq v=C/\bq w=C/\Nc v w=KK d e:=by
 cases d<;>try(cases O;done)
 all_goals cases e<;>try(cases U;done)
 all_goals (rwa[G2]at h h';subst h h';exact⟨rfl,rfl,rfl⟩)
theorem lj:∀{l:B Dt}{vs:B V},l.all aR=C->ag K F l vs->vs.all bq=C
 |[],vs,_,h=>by cases (show vs=[]from h);rfl
 |d::l,vs,O,h=>by have⟨v,ws,rfl,h1,h2⟩:=h;rwa[Ks,Hm]at O ⊢;exact⟨(pL O.1 O.1 h1 h1).1,lj O.2 h2⟩
def zp{m:B Dt}{us:B V}(hl:l.all aR=C)(W:m.all aR=C)(O:l.length=m.length)(h:ag K F l vs)(h':ag K F m us):ud vs us=ID l m:=by
 have n1:vs.length=l.length:=h.length;rw[bf];have e:(l.length==m.length)=C:=‹O›
 rw[e,RX,<- O,Nat.min_self];unfold ud;rw[n1]
 have key:∀i,i∈Ir l.length->Nc (vs.getD i .ek) (us.getD i .ek)=aK l m i:=λi hi=>by have hi:=KF.mp hi;have⟨v,g1,g2⟩:=h.get (i:=i) (d:=l[i]) (gQ hi);have⟨u,U,k2⟩:=h'.get (i:=i) (d:=m[i]) (gQ Θ);unfold aK;rw[KS,KS,KS,KS,g1,U,gQ hi,gQ Θ];exact(pL (Kk.mp hl _ (P2 hi)) (Kk.mp W _ (P2 Θ)) g2 k2).2.2
 rw[RW,Kk,Kk];exact⟨λq i hi=>by rw[<- key i hi];exact q i hi,λq i hi=>by rw[key i hi];exact q i hi⟩
omit x in
def Fc{n:Bool}:IT K (Um n) (C6 n):=by
 intro F H x y vx vy Q t fh rx ry O k;cases x<;>try(cases O;done)
 all_goals cases y<;>try(cases O;done)
 rename_i ks l js m;rwa[C6]at O;split at O
 .rename_i hc;have⟨rfl,f1,f2,hn⟩:=hc;cases O;have⟨a,J1,rfl,h1,h2,W⟩:=rx;have⟨b,U,rfl,g1,g2,g3⟩:=ry;refine⟨a,b,J1,U,rfl,rfl,.of h1,.of g1,by rw[h2,g2],lj f1 W,lj f2 g3,?_⟩;rw[zp f1 f2 hn W g3];exact k.leaf.here fh rfl
 .cases O
end
def On:Lb:=⟨.inr .Eq,Jh (MR ξ) (C6 ξ),λK X k e r _=>⟨_,by subst e;exact HI.or (ux r) (BW r),IT.or UD Fc⟩⟩
noncomputable abbrev G7:E:=.v 0
noncomputable abbrev fy:E:=.v 1
noncomputable abbrev Hl:E:=.v 2
noncomputable abbrev HV:E:=.v 3
noncomputable abbrev Jl:E:=.v 4
noncomputable abbrev NI:E:=.v 5
noncomputable abbrev Ld:E:=.v 6
noncomputable abbrev KP:E:=.v 7
noncomputable abbrev KB:E:=.v 8
noncomputable abbrev Oo:E:=.v 9
noncomputable abbrev vH:E:=.v 10
noncomputable abbrev sC:E:=.v 11
noncomputable abbrev ll:E:=.v 12
noncomputable abbrev vI:E:=.v 13
noncomputable abbrev mL:E:=.v 14
noncomputable def sL:B S->S
 |[]=>.nil
 |a::l=>.sq a (sL l)
instance{n:Nat}[OfNat Int n]:OfNat E n:=⟨.k (.int (OfNat.ofNat n))⟩
instance:Add E:=⟨.b2 Hs .v⟩
instance:Sub E:=⟨.b2 LJ .v⟩
instance:Mul E:=⟨.b2 HY .v⟩
instance:_root_.Mod E:=⟨.b2 HU .v⟩
instance:SDiff E:=⟨.b2 JF .v⟩
instance:Div E:=⟨.ix⟩
def xLit{n:Nat}[OfNat Int n]:(OfNat.ofNat n:E)=.k (.int (OfNat.ofNat n)):=rfl
section
variable{a b:E}
def xAdd:a+b=.b2 Hs .v a b:=rfl
def xSub:a-b=.b2 LJ .v a b:=rfl
def xMul:a*b=.b2 HY .v a b:=rfl
def xMod:a%b=.b2 HU .v a b:=rfl
def xDiv:a \ b=.b2 JF .v a b:=rfl
def xIx:a/b=.ix a b:=rfl
abbrev Ik(a b:E):E:=.tr (.b2 KH .v a b)
noncomputable abbrev PK(a b:E):E:=.tr (.b2 Z5 .v a b)
abbrev MF(a b:E):E:=.tr (.b2 Z0 .v a b)
noncomputable abbrev tsG(a b:E):E:=.tr (.b2 WI .v a b)
abbrev KQ(a:E):E:=.bn HE .v (A1 a)
abbrev MG(a:E):E:=.rg (A1 a)
noncomputable abbrev Hr(c f:Nat):E:=.at c f (.v 0)
noncomputable abbrev Hy(j:Nat)(a:E):E:=.me j (.v 0) a
noncomputable abbrev LR(l:B (ζ Nat))(a b:E):E:=.co .v l (.one 0) a .ys b
noncomputable abbrev IC(a b:E):S:=.cd a (.sq (.rt b) .nil) .nil
end
noncomputable def XD:B S->S->S
 |[],s=>s
 |a::l,s=>.sq a (XD l s)
noncomputable def gc:B (Str×Dt):=[("WIDE",.int 1099511627776)]
noncomputable def L:Lw:=⟨["dict","enumerate","int","isinstance","len","list","max","range","sorted","str","tuple"],[("Hand",["first","unlike"]),("Lost",["place","done","hears","says","boxes","dust","log"]),("Store",["home","heads","page_boxes","page_turns","counting","result"]),("House",["rows","onward","sizes","twins","keeps","incoming","store","hand","dust","lost","plan"]),("Plain",["rows","onward","incoming","outgoing","boxes","cells","shelves","place","hears","done","result"])],["str"]⟩
noncomputable def t0:B Df:=[]
def d0:Df:=⟨.fn,"_law_names",6,2,sL [.set 2 (kS "abcdefghijklmnopqrstuvwxyz"),.set 3 (G7%6),.set 4 (G7 \ 6%(HV+1)),.set 5 (.ms Om .v (kS "") (A1 (LR [J,Z 0,Z 2] (MG HV) (Hl/((fy \ 37+11*G7*(fy%2))%26))))),.rt (LR [J,Z 4,Z 0,Z 5,Z 2] (MG fy) (.sl .v HV .no (.cons fy .nil)+Jl/((Hl \ 42+5*G7)%26)+.sl .v HV (.cons fy .nil) .no))]⟩
def t1:=d0::t0
def d1:Df:=⟨.fn,"_law_cell_at",2,2,sL [IC (PK fy (KQ G7)) (G7/fy),.rt 0]⟩
def t2:=d1::t1
def d2:Df:=⟨.fn,"_law_stream",5,2,sL [.set 2 (.ls .w .nil),.set 3 (G7%2147483629+69621),.fo (.one 4) (MG (fy+1)) (sL [.set 3 ((HV*HV+16807*HV+Jl)%2147483629),.OX 2 HV]),.rt (.sl .v Hl (.cons 1 .nil) .no)]⟩
def t3:=d2::t2
def d3:Df:=⟨.fn,"_law_value_by",1,1,sL [IC (Ik (G7%3) 0) (G7 \ 3%4),IC (Ik (G7%3) 1) (.b2 PD .v 2 40-1-G7 \ 3%4),.rt (G7 \ 3*1664525%.b2 PD .v 2 40)]⟩
def t4:=d3::t3
def d4:Df:=⟨.fn,"_law_world",6,1,sL [.set 1 (.ca 3 (A2 (.ca 2 (A2 G7 0)) 12)),.set 2 (.ca 1 (A2 (.ca 2 (A2 G7 1)) 12)),.set 3 (LR [J,Z 1,Z 2] (MG (1+Hl/6%3)) (.tu (A3 (fy/G7) (.ca 0 (A1 (Hl/G7))) (.b2 KH .v ((Hl/G7) \ 5%2) 0)))),.set 4 (LR [J,Z 1,Z 2] (MG (1+Hl/7%2)) (.tu (A3 (fy/(4+G7)) (1+Hl/(4+G7)%8) (.b2 KH .v ((Hl/(4+G7)) \ 8%2) 0)))),.set 5 (LR [J] (.it (.ca 1 (A2 (.ca 2 (A2 G7 2)) (Hl/8%7)))) (.ca 0 (A1 G7))),.rt (.tu (A4 (.sl .v fy (.cons 6 .nil) (.cons 10 .nil)) HV Jl NI))]⟩
def t5:=d4::t4
def d5:Df:=⟨.fn,"_law_atom",2,2,sL [IC (Ik (G7%3) 0) (.ca 1 (A1 (G7 \ 3))),.rt (fy/(G7 \ 3%KQ fy))]⟩
def t6:=d5::t5
def d6:Df:=⟨.fn,"_law_led",3,3,sL [IC (Ik (G7/4%6) 0) (G7/5%Hl),.rt (fy+1+G7/5%(Hl-1-fy))]⟩
def t7:=d6::t6
def d7:Df:=⟨.fn,"_law_row",15,4,sL [.un (.many [4,5,6,7]) HV,.set 8 (.ca 4 (A2 G7 8)),.set 9 (Jl/(KB/1%KQ Jl)),.set 10 (NI/(KB/6%KQ NI)/0),.set 11 (Ld/(KB/6%KQ Ld)/0),.set 12 (.ca 1 (A2 (KB/2) Jl)),.set 13 (.ca 1 (A2 (KB/3) Jl)),.set 14 (KB/0%23),IC (PK mL 5) (.tu (A5 (kS "op") Oo (kS "+-*<=&|^"/(KB/7%8)) ll vI)),IC (PK mL 17) (.ls .v (A4 (.tu (A3 (kS "load") Oo vH)) (.tu (A3 (kS "store") vH ll)) (.tu (A4 (kS "take") Oo sC ll)) (.tu (A4 (kS "lay") sC ll vI)))/(mL%4)),IC (PK mL 20) (.ls .v (A3 (.tu (A3 (kS "copy") Oo ll)) (.tu (A2 (kS "hear") Oo)) (.tu (A2 (kS "say") ll)))/(mL%3)),IC (PK mL 22) (.tu (A3 (kS "if") Oo (.ca 0 (A3 KB fy Hl)))),.rt (.ls .v (A3 (.tu (A2 (kS "end") ll)) (.tu (A2 (kS "say") vI)) (.tu (A2 (kS "go") (.ca 0 (A3 KB fy Hl)))))/((KB/5) \ 64%3))]⟩
def t8:=d7::t7
def d8:Df:=⟨.fn,"_law_program",4,3,sL [.set 3 (LR [J,Z 0,Z 1] (MG (KQ G7)) (.ca 0 (A4 (fy/G7) G7 (KQ fy+1) Hl))),.rt (.tu (A3 (.bn Lv .v (A1 (fy/1))) (.bn Lv .v (A1 (fy/2))) (.bn Lv .v (A1 HV)+.tu (A1 (.tu (A2 (kS "end") Hl))))))]⟩
def t9:=d8::t8
def d9:Df:=⟨.fn,"_law_some",2,2,sL [.rt (.bn Lv .v (A1 (.bn PJ .v (A1 (.co .v [J,Z 1,Z 0] (.one 0) (MG (KQ fy)) (Ik (.b2 Nq .v (.b2 PF .v Hl G7) 1) 1) (fy/G7))))))]⟩
def Vr:=d9::t9
def XE:Df:=⟨.fn,"_law_cutting",8,3,sL [.set 3 (G7/2),.set 4 (.ca 7 (A2 fy (KQ HV+2))),.set 5 (.ls .v (A3 2 3 5)/(Jl/0%3)),.set 6 (.ls .w .nil),.fo (.one 7) (MG (KQ HV)) (sL [.cd (.to (Ik (HV/KP/0) (kS "end")) (Ik (Jl/(KP+1)%NI) 0)) (sL [.OX 6 (.tu (A2 KP (.ca 0 (A2 ((Jl/(KP+1)) \ 30) Hl))))]) .nil]),.rt (.tu (A2 (.ca 0 (A2 (Jl/.ng 1) Hl)) (.bn Lv .v (A1 Ld))))]⟩
def XF:=XE::Vr
def d11:Df:=⟨.fn,"ways_of",2,2,sL [IC (Ik (fy/0) (kS "go")) (.tu (A1 (fy/1))),IC (Ik (fy/0) (kS "if")) (.tu (A2 (fy/2) (G7+1))),IC (Ik (fy/0) (kS "end")) (.tu .nil),.rt (.tu (A1 (G7+1)))]⟩
def XG:=d11::XF
def d12:Df:=⟨.fn,"ways",1,1,sL [.rt (.co .v [J,J] (.many [0,1]) (.en (G7/2)) .ys (.ca 0 (A2 G7 fy)))]⟩
def XH:=d12::XG
def d13:Df:=⟨.mk 2,"__init__",3,3,sL [.fl 2 0 G7 (.dc .o (LR [J] (.it (fy/0)) (.tu (.cons (G7/0) (.cons (.ls .o (.cons (G7/1) .nil)) .nil))))),.up (Hr 2 0) (.dc .o (LR [J] (.it (fy/1)) (.tu (.cons (G7/0) (.cons (.b2 HY .o (.ls .v (A1 0)) (G7/1)) .nil))))),.fl 2 1 G7 (.ls .o (A2 (.tu (A4 0 0 0 0)) (.tu (A4 0 0 0 0)))),.fl 2 2 G7 (.ls .o (.cons (.co .o [J] (.one 0) (.it Hl) .ys (.tu (.cons G7 (.cons 0 .nil)))) (.cons (.ls .o .nil) .nil))),.fl 2 3 G7 (.ls .o (.cons (.ls .o .nil) (.cons (.ls .o .nil) .nil))),.fl 2 4 G7 0,.fl 2 5 G7 (.k .ek)]⟩
def XI:=d13::XH
def d14:Df:=⟨.mk 0,"__init__",1,1,sL [.fl 0 0 G7 (.dn .o ξ),.fl 0 1 G7 (.k (.bl ξ))]⟩
def XJ:=d14::XI
def d15:Df:=⟨.fn,"named",2,2,sL [.rt (.co .v [J,J,Z 0] (.many [0,1]) (.it fy) .ys (.tu (A4 Hl (G7/0) (G7/1) fy)))]⟩
def XM:=d15::XJ
def d16:Df:=⟨.fn,"coming_up",1,1,sL [.rt (.b2 Hs .o (.ca 0 (A2 (kS "put") (G7/5))) (.ls .v (A1 (.tu (A1 (kS "wake"))))))]⟩
def XN:=d16::XM
def d17:Df:=⟨.me 2,"page",2,2,sL [.rt (Hr 2 1/fy+.tu (A2 (.bn iy .v (A1 (Hr 2 2/fy))) (.bn iy .v (A1 (Hr 2 3/fy)))))]⟩
def XO:=d17::XN
def d18:Df:=⟨.me 3,"page",2,2,sL [.rt (.me 0 (Hr 3 6) (A1 fy))]⟩
def XS:=d18::XO
def d19:Df:=⟨.me 2,"face",1,1,sL [.rt (Hr 2 4)]⟩
def XT:=d19::XS
def d20:Df:=⟨.me 3,"face",1,1,sL [.rt (.me 0 (Hr 3 6) .nil)]⟩
def XU:=d20::XT
def d21:Df:=⟨.mk 3,"__init__",4,4,sL [.fl 3 0 G7 (fy/2),.fl 3 1 G7 (.ca 8 (A1 fy)),.fl 3 2 G7 (.dc .v (LR [J] (.it (fy/1)) (.tu (A2 (G7/0) (G7/1))))),.fl 3 3 G7 (.co .v [J] (.one 0) (.it (fy/0+fy/1)) (.tr (G7/2)) (G7/0)),.fl 3 4 G7 (.dc .v (Hl/1)),.fl 3 5 G7 (.bn iy .v (A1 HV)),.fl 3 6 G7 (.mk 7 (A2 fy (Hl/0))),.fl 3 7 G7 (.mk 6 .nil),.fl 3 8 G7 0,.fl 3 9 G7 (.k .ek),.fl 3 10 G7 (.ca 4 (A1 (Hy 2 (A1 (Hy 0 .nil)))))]⟩
def XV:=d21::XU
def d22:Df:=⟨.mk 4,"__init__",3,3,sL [.fl 4 0 G7 (fy/2),.fl 4 1 G7 (.ca 9 (A1 fy)),.fl 4 2 G7 (.bn iy .v (A1 Hl)),.fl 4 3 G7 (.ls .o .nil),.fl 4 4 G7 (.dn .o ξ),.fl 4 5 G7 (.dc .o (LR [J] (.it (fy/0)) (.tu (A2 (G7/0) (G7/1))))),.fl 4 6 G7 (.dc .o (LR [J] (.it (fy/1)) (.tu (.cons (G7/0) (.cons (.b2 HY .o (.ls .v (A1 0)) (G7/1)) .nil))))),.fl 4 7 G7 0,.fl 4 8 G7 0,.fl 4 9 G7 0,.fl 4 10 G7 (.k .ek)]⟩
def XW:=d22::XV
def d23:Df:=⟨.me 2,"answer",1,1,sL [.rt (Hr 2 5)]⟩
def XX:=d23::XW
def d24:Df:=⟨.me 3,"answer",1,1,sL [.rt (.me 0 (Hr 3 6) .nil)]⟩
def XY:=d24::XX
def d25:Df:=⟨.me 3,"rests",1,1,sL [.rt (.b2 Mn .v (Hy 0 .nil) (.k .ek))]⟩
def XZ:=d25::XY
def d26:Df:=⟨.mk 1,"__init__",3,3,sL [.fl 1 0 G7 (fy/0),.fl 1 1 G7 (fy/1),.fl 1 2 G7 (fy/2),.fl 1 3 G7 (fy/3),.fl 1 4 G7 (.dc .o (fy/4)),.fl 1 5 G7 Hl,.fl 1 6 G7 (.dn .o C)]⟩
def X0:=d26::XZ
def d27:Df:=⟨.me 2,"put",4,4,sL [.put (Hr 2 0/fy) Hl HV]⟩
def X1:=d27::X0
def d28:Df:=⟨.me 2,"other",1,1,sL [.rt (1-Hr 2 4)]⟩
def X2:=d28::X1
def d29:Df:=⟨.me 2,"begin_page",5,5,sL [.put (Hr 2 1) (Hy 0 .nil) (.tu (A4 fy Hl HV Jl)),.put (Hr 2 2) (Hy 0 .nil) (.ls .o .nil),.put (Hr 2 3) (Hy 0 .nil) (.ls .o .nil)]⟩
def X3:=d29::X2
def d30:Df:=⟨.me 2,"keep_box",3,3,sL [.ap (Hr 2 2/Hy 1 .nil) (.tu (A2 fy Hl))]⟩
def X4:=d30::X3
def d31:Df:=⟨.me 2,"keep_turn",4,4,sL [.ap (Hr 2 3/Hy 2 .nil) (.tu (A2 (.tu (A2 fy Hl)) HV))]⟩
def X5:=d31::X4
def d32:Df:=⟨.me 2,"turn",1,1,sL [.fl 2 4 G7 (Hy 3 .nil)]⟩
def X6:=d32::X5
def d33:Df:=⟨.fn,"do_small",2,2,sL [.cd (Ik (fy/0) (kS "put")) (sL [.dr (Hy 5 (A3 (fy/1) (fy/2) (fy/3)))]) (sL [.cd (Ik (fy/0) (kS "begin")) (sL [.dr (Hy 3 (A4 (fy/1) (fy/2) (fy/3) (fy/4)))]) (sL [.cd (Ik (fy/0) (kS "box")) (sL [.dr (Hy 2 (A2 (fy/1) (fy/2)))]) (sL [.cd (Ik (fy/0) (kS "log")) (sL [.dr (Hy 1 (A3 (fy/1) (fy/2) (fy/3)))]) (sL [.cd (Ik (fy/0) (kS "turn")) (sL [.dr (Hy 0 .nil)]) .nil])])])])]⟩
def X7:=d33::X6
def d34:Df:=⟨.me 3,"small_step",2,1,sL [.set 1 (.pp (Hr 3 10) 0),.cd (Ik (fy/0) (kS "wake")) (sL [.fl 3 9 G7 (.mk 7 (A2 (Hy 15 (A1 (Hy 13 .nil))) (Hr 3 8)))]) (sL [.dr (.ca 0 (A2 (Hr 3 6) fy))]),.cd (Ik (KQ (Hr 3 10)) 0) (sL [.cl C (.at 1 6 (Hr 3 9))]) .nil]⟩
def X8:=d34::X7
def d35:Df:=⟨.me 2,"give",2,2,sL [.fl 2 5 G7 fy]⟩
def X9:=d35::X8
def d36:Df:=⟨.me 1,"worth",2,2,sL [.rt (.cd (.tr (.ii "str" fy)) (.gt (Hr 1 4) fy (Hr 1 5)) fy)]⟩
def Yb:=d36::X9
def d37:Df:=⟨.me 3,"write_at",4,4,sL [.cd (.tr (.b2 Lu .v fy (Hr 3 3))) (sL [.put (.at 1 6 (Hr 3 9)) (.tu (A2 fy Hl)) HV]) (sL [.dr (.me 9 (Hr 3 6) (A3 fy Hl HV))])]⟩
def Yc:=d37::Yb
def d38:Df:=⟨.me 3,"place_on",3,3,sL [.rt (.me 1 (Hr 3 9) (A1 Hl)%(Hr 3 2/fy))]⟩
def Yd:=d38::Yc
def d39:Df:=⟨.me 0,"take",3,3,sL [.cd (.tr (.b2 oNi .v fy (Hr 0 0))) (sL [.put (Hr 0 0) fy Hl]) (sL [.cd (MF (Hr 0 0/fy) Hl) (sL [.fl 0 1 G7 (.k (.bl C))]) .nil])]⟩
def Ye:=d39::Yd
def d40:Df:=⟨.fn,"number_of",3,3,sL [IC (Ik G7 (kS "+")) (fy+Hl),IC (Ik G7 (kS "-")) (fy-Hl),IC (Ik G7 (kS "*")) (fy*Hl),IC (Ik G7 (kS "<")) (.cd (PK fy Hl) 1 0),IC (Ik G7 (kS "=")) (.cd (Ik fy Hl) 1 0),IC (Ik G7 (kS "&")) (.b2 Nq .v fy Hl),IC (Ik G7 (kS "|")) (.b2 Vo .v fy Hl),.rt (.b2 Vq .v fy Hl)]⟩
def Yg:=d40::Ye
def d41:Df:=⟨.fn,"value",3,3,sL [.rt (.ca 0 (A3 G7 fy Hl)%.g 0)]⟩
def Yh:=d41::Yg
def d42:Df:=⟨.me 2,"get_home",3,3,sL [.rt (Hr 2 0/fy/Hl)]⟩
def Yi:=d42::Yh
def d43:Df:=⟨.me 3,"value_at",3,3,sL [IC (.tr (.b2 Lu .v (.tu (A2 fy Hl)) (.at 1 6 (Hr 3 9)))) (.at 1 6 (Hr 3 9)/.tu (A2 fy Hl)),.rt (.me 0 (Hr 3 6) (A2 fy Hl))]⟩
def Yj:=d43::Yi
def d44:Df:=⟨.me 3,"next_letter",3,1,sL [.set 1 (Hr 3 9),.set 2 (.at 1 2 fy),.fa 1 2 vG fy 1,.rt (.cd (PK Hl (KQ (Hr 3 5))) (Hr 3 5/Hl) 0)]⟩
def Yk:=d44::Yj
def d45:Df:=⟨.me 3,"set_by",3,2,sL [.set 2 (Hr 3 9),IC (Ik (fy/0) (kS "copy")) (.me 8 Hl (A1 (fy/2))),IC (Ik (fy/0) (kS "op")) (.ca 3 (A3 (fy/2) (.me 8 Hl (A1 (fy/3))) (.me 8 Hl (A1 (fy/4))))),IC (Ik (fy/0) (kS "load")) (Hy 1 (A2 (fy/2) 0)),IC (Ik (fy/0) (kS "take")) (Hy 1 (A2 (fy/2) (Hy 6 (A2 (fy/2) (fy/3))))),.rt (Hy 0 .nil)]⟩
def Yl:=d45::Yk
def d46:Df:=⟨.me 3,"do_row",3,2,sL [.set 2 (Hr 3 9),.cd (Ik (fy/0) (kS "store")) (sL [.dr (Hy 8 (A3 (fy/1) 0 (.me 9 Hl (A1 (fy/2)))))]) (sL [.cd (Ik (fy/0) (kS "lay")) (sL [.dr (Hy 8 (A3 (fy/1) (Hy 7 (A2 (fy/1) (fy/2))) (.me 9 Hl (A1 (fy/3)))))]) (sL [.cd (Ik (fy/0) (kS "say")) (sL [.dr (.me 6 (Hr 3 7) (A2 (.at 1 3 Hl) (.me 9 Hl (A1 (fy/1))))),.fa 1 3 vG Hl 1]) (sL [.cd (.ta (MF (fy/0) (kS "if")) (MF (fy/0) (kS "go"))) (sL [.put (.at 1 4 Hl) (fy/1) (Hy 0 (A1 fy))]) .nil])])])]⟩
def Ym:=d46::Yl
def d47:Df:=⟨.me 3,"place_behind",4,2,sL [.set 2 (Hr 3 9),.set 3 (Hr 3 1/.at 1 0 Hl),IC (.ta (Ik (fy/0) (kS "if")) (Ik (.me 10 Hl (A1 (fy/1))) 0)) (HV/1),.rt (HV/0)]⟩
def Yn:=d47::Ym
def d48:Df:=⟨.fn,"writing_down",5,2,sL [.set 2 (.ls .v (A1 (.tu (A5 (kS "begin") (Hr 1 0) (Hr 1 1) (Hr 1 2) (Hr 1 3))))),.set 3 (LR [J,Z 0] (.it fy) (.tu (A3 (kS "box") G7 (.me 11 fy (A1 G7))))),.set 4 (.il .v (Hr 1 6)),.rt (.b2 Hs .o (Hl+HV+.ca 32 (A2 (kS "log") Jl)+.ls .v (A1 (.tu (A1 (kS "turn"))))) (.ca 32 (A2 (kS "put") Jl)))]⟩
def Yo:=d48::Yn
def d49:Df:=⟨.me 3,"row_step",3,1,sL [.set 1 (Hr 3 9),.set 2 (Hr 3 0/.at 1 0 fy),.fa 1 1 vG fy 1,.cd (Ik (Hl/0) (kS "end")) (sL [.dr (.me 13 (Hr 3 6) (A1 (.me 12 fy (A1 (Hl/1))))),.rn]) .nil,.dr (Hy 2 (A1 Hl)),.fl 1 0 fy (Hy 1 (A1 Hl)),.cd (.tr (.b2 Lu .v (.at 1 0 fy) (Hr 3 4))) (sL [.fl 3 10 G7 (.ca 0 (A2 fy (Hr 3 4/.at 1 0 fy)))]) .nil]⟩
def Yp:=d49::Yo
def d50:Df:=⟨.me 3,"step",1,1,sL [.cd (.tr (Hy 24 .nil)) (sL [.rn]) .nil,.cd (tsG (KQ (Hr 3 10)) 0) (sL [.dr (Hy 15 .nil)]) (sL [.dr (Hy 0 .nil)])]⟩
def Rz:=d50::Yp
def SU:Df:=⟨.fn,"_law_twins",7,1,sL [.set 1 (.dn .o C),.fo (.many [2,3,4]) (.it (G7/0)) (sL [.cd (.tr Jl) (sL [.put fy (.tu (A2 Hl 0)) HV]) .nil]),.fo (.many [2,5,4]) (.it (G7/1)) (sL [.fo (.one 6) (MG (NI*.bn PH .v (A1 Jl))) (sL [.put fy (.tu (A2 Hl Ld)) 0])]),.rt fy]⟩
def Yq:=SU::Rz
def d52:Df:=⟨.me 3,"stands",1,1,sL [.rt (.cd (.to (.tr (Hy 26 .nil)) (tsG (KQ (Hr 3 10)) 0)) (.k .ek) (.at 1 0 (Hr 3 9)))]⟩
def Yr:=d52::Yq
def d53:Df:=⟨.me 4,"stands",1,1,sL [.rt (Hr 4 7)]⟩
def Ys:=d53::Yr
def d54:Df:=⟨.me 3,"count",1,1,sL [.rt (.cd (.tr (.b2 TK .v (Hy 1 .nil) (.k .ek))) (Hy 35 (A1 (Hy 33 .nil))/1) (.at 1 1 (Hr 3 9)))]⟩
def Yt:=d54::Ys
def d55:Df:=⟨.me 4,"count",1,1,sL [.rt (Hr 4 9)]⟩
def Yu:=d55::Yt
def d56:Df:=⟨.me 3,"box",2,2,sL [.rt (.cd (.tr (.b2 TK .v (Hy 3 .nil) (.k .ek))) 0 (.me 19 (Hr 3 9) (A1 fy)))]⟩
def Yv:=d56::Yu
def d57:Df:=⟨.me 4,"box",2,2,sL [.rt (.gt (Hr 4 4) fy 0)]⟩
def Yw:=d57::Yv
def d58:Df:=⟨.me 2,"cell",2,2,sL [.rt (Hr 2 0/fy/0)]⟩
def Yx:=d58::Yw
def d59:Df:=⟨.me 3,"cell",2,2,sL [.rt (.me 0 (Hr 3 6) (A1 fy))]⟩
def Yy:=d59::Yx
def d60:Df:=⟨.me 2,"shelf",2,2,sL [.rt (.bn iy .v (A1 (Hr 2 0/fy)))]⟩
def Yz:=d60::Yy
def d61:Df:=⟨.me 3,"shelf",2,2,sL [.rt (.me 0 (Hr 3 6) (A1 fy))]⟩
def RC:=d61::Yz
def SV:Df:=⟨.fn,"_law_home",9,2,XD [.set 2 (.dn .w C),.fo (.many [3,4,5]) (.it (fy/0)) (sL [.PC 2 (.tu (A2 HV 0)) (Hy 2 (A1 HV))]),.fo (.many [3,6,5]) (.it (fy/1)) (sL [.set 7 (Hy 0 (A1 HV)),.fo (.one 8) (MG Ld) (sL [.PC 2 (.tu (A2 HV KB)) (KP/KB)])])] (.fz 2 (sL [.rt Hl]))⟩
def YA:=SV::RC
def d63:Df:=⟨.me 4,"cell",2,2,sL [.rt (Hr 4 5/fy)]⟩
def YB:=d63::YA
def d64:Df:=⟨.me 4,"shelf",2,2,sL [.rt (.bn iy .v (A1 (Hr 4 6/fy)))]⟩
def RE:=d64::YB
def SW:Df:=⟨.fn,"_law_home",9,2,sL [.set 2 (.dn .o C),.fo (.many [3,4,5]) (.it (fy/0)) (sL [.put Hl (.tu (A2 HV 0)) (Hy 1 (A1 HV))]),.fo (.many [3,6,5]) (.it (fy/1)) (sL [.set 7 (Hy 0 (A1 HV)),.fo (.one 8) (MG Ld) (sL [.put Hl (.tu (A2 HV KB)) (KP/KB)])]),.rt Hl]⟩
def Vs:=SW::RE
def YC:Df:=⟨.fn,"_law_home_due",5,3,sL [.set 3 (.ca 0 (A2 G7 fy)),.ul 2 (.fo (.one 4) (.ik Hl) (sL [.put HV Jl (Hl/Jl)])),.rt HV]⟩
def YD:=YC::Vs
def d67:Df:=⟨.fn,"_law_alike",5,5,sL [IC (.to (MF (Hy 14 .nil) (.me 13 fy .nil)) (MF (Hy 12 .nil) (.me 11 fy .nil))) (.k (.bl ξ)),IC (MF (LR [J,Z 0] (.it HV) (.me 10 fy (A1 G7))) (LR [J,Z 1] (.it HV) (.me 9 fy (A1 G7)))) (.k (.bl ξ)),.rt (.b2 On .v (.ca 4 (A2 G7 Hl)) (.ca 0 (A3 fy Hl Jl)))]⟩
def YE:=d67::YD
def d68:Df:=⟨.fn,"_law_worth",2,2,sL [IC (.tr (.ii "str" fy)) (Hy 10 (A1 fy)),.rt fy]⟩
def YF:=d68::YE
def d69:Df:=⟨.fn,"_law_noted",6,4,sL [.set 4 (fy/2/Hy 15 .nil),.cd (.ta (Ik (Jl/0) (kS "store")) (.tr (.b2 Lu .v (.tu (A2 (Jl/1) 0)) Hl))) (sL [.put HV (.tu (A2 (Jl/1) 0)) (.ca 0 (A2 G7 (Jl/2)))]) .nil,.cd (.ta (Ik (Jl/0) (kS "lay")) (.tr (.b2 Lu .v (.tu (A2 (Jl/1) 0)) Hl))) (sL [.set 5 (.co .v [J,J,J,Z 4] (.many [0,1,2]) (.it (fy/1)) (Ik G7 (HV/1)) fy/0),.put HV (.tu (A2 (Jl/1) (.ca 0 (A2 G7 (Jl/2))%NI))) (.ca 0 (A2 G7 (Jl/3)))]) .nil]⟩
def YG:=d69::YF
def d70:Df:=⟨.me 4,"ended",1,1,sL [.rt (.b2 Mn .v (Hr 4 10) (.k .ek))]⟩
def YH:=d70::YG
def d71:Df:=⟨.me 4,"worth",2,2,sL [.rt (.cd (.tr (.ii "str" fy)) (Hy 13 (A1 fy)) fy)]⟩
def YI:=d71::YH
def d72:Df:=⟨.me 4,"next_letter",2,1,sL [.set 1 (Hr 4 8),.fa 4 8 vG G7 1,.rt (.cd (PK fy (KQ (Hr 4 2))) (Hr 4 2/fy) 0)]⟩
def YJ:=d72::YI
def d73:Df:=⟨.me 4,"set_by",3,2,sL [IC (Ik (fy/0) (kS "copy")) (Hy 1 (A1 (fy/2))),IC (Ik (fy/0) (kS "op")) (.ca 31 (A3 (fy/2) (Hy 1 (A1 (fy/3))) (Hy 1 (A1 (fy/4))))),IC (Ik (fy/0) (kS "load")) (Hr 4 5/(fy/2)),.cd (Ik (fy/0) (kS "take")) (sL [.set 2 (Hr 4 6/(fy/2)),.rt (Hl/(Hy 1 (A1 (fy/3))%KQ Hl))]) .nil,.rt (Hy 0 .nil)]⟩
def YK:=d73::YJ
def d74:Df:=⟨.me 4,"do_row",3,2,sL [.cd (Ik (fy/0) (kS "store")) (sL [.put (Hr 4 5) (fy/1) (Hy 2 (A1 (fy/2)))]) (sL [.cd (Ik (fy/0) (kS "lay")) (sL [.set 2 (Hr 4 6/(fy/1)),.put Hl (Hy 2 (A1 (fy/2))%KQ Hl) (Hy 2 (A1 (fy/3)))]) (sL [.cd (Ik (fy/0) (kS "say")) (sL [.ap (Hr 4 3) (Hy 2 (A1 (fy/1)))]) (sL [.cd (.ta (MF (fy/0) (kS "if")) (MF (fy/0) (kS "go"))) (sL [.put (Hr 4 4) (fy/1) (Hy 0 (A1 fy))]) .nil])])])]⟩
def YL:=d74::YK
def d75:Df:=⟨.me 4,"place_behind",3,2,sL [.set 2 (Hr 4 1/Hr 4 7),IC (.ta (Ik (fy/0) (kS "if")) (Ik (Hy 3 (A1 (fy/1))) 0)) (Hl/1),.rt (Hl/0)]⟩
def YM:=d75::YL
def d76:Df:=⟨.me 4,"step",2,1,sL [.cd (.tr (Hy 5 .nil)) (sL [.rn]) .nil,.set 1 (Hr 4 0/Hr 4 7),.fa 4 9 vG G7 1,.cd (Ik (fy/0) (kS "end")) (sL [.fl 4 10 G7 (Hy 4 (A1 (fy/1)))]) (sL [.dr (Hy 1 (A1 fy)),.fl 4 7 G7 (Hy 0 (A1 fy))])]⟩
def RF:=d76::YM
def SX:Df:=⟨.fn,"_law_home",9,2,XD [.set 2 (.dn .w C),.fo (.many [3,4,5]) (.it (fy/0)) (sL [.PC 2 (.tu (A2 HV 0)) (Hy 13 (A1 HV))]),.fo (.many [3,6,5]) (.it (fy/1)) (sL [.set 7 (Hy 12 (A1 HV)),.fo (.one 8) (MG Ld) (sL [.PC 2 (.tu (A2 HV KB)) (KP/KB)])])] (.fz 2 (sL [.rt Hl]))⟩
def YN:=SX::RF
def d78:Df:=⟨.me 4,"heard",1,1,sL [.rt (Hr 4 8)]⟩
def YO:=d78::YN
def d79:Df:=⟨.me 4,"sent",1,1,sL [.rt (.bn iy .v (A1 (Hr 4 3)))]⟩
def YQ:=d79::YO
def d80:Df:=⟨.fn,"_law_small",6,3,sL [.ut [3,4,5] Hl,IC (.to (.tr (.b2 Mn .v (Hy 27 .nil) (.k .ek))) (.tr (.b2 Mn .v (Hy 54 .nil) (.k (.bl ξ))))) (.k (.bl ξ)),.dr (Hy 29 .nil),IC (.to (MF (Hy 59 .nil) Jl) (.to (MF (Hy 61 (A1 0)) (HV/0)) (MF (Hy 61 (A1 1)) (HV/1)))) (.k (.bl ξ)),.rt (.b2 On .v (.ca 17 (A2 G7 fy)) NI)]⟩
def SY:=d80::YQ
def Vt:Df:=⟨.fn,"_law_written",15,6,sL [.set 6 (Hy 60 .nil),.set 7 (.ls .o (A2 (Hy 62 (A1 0)) (Hy 62 (A1 1)))),.set 8 (LR [J,Z 1] (.it HV) (.tu (A2 G7 (.me 23 fy (A1 G7))))),.set 10 (LR [J,Z 5] (.ik NI) (.tu (A2 G7 (fy/G7)))),.set 11 (.ca 14 (A3 fy Hl Jl)),.set 12 (.tu (A4 (.me 27 fy .nil) (.me 25 fy .nil) (.me 2 fy .nil) (KQ (.me 1 fy .nil)))),.fo (.one 13) (MG (1+KQ KB+KQ vH)) (sL [IC (MF (Hy 26 .nil) (KP/Ld/1)) (.k (.bl ξ)),.put KP (1-Ld) (ll+.tu (A2 (.sl .v KB .no (.cons vI .nil)) (.sl .v vH .no (.cons (.bn Ol .v (A2 0 (vI-KQ KB))) .nil)))),IC (.tn (.tr (.ca 0 (A3 G7 Hl (.tu (A3 KP Ld sC)))))) (.k (.bl ξ))]),IC (.tn (.tr (.ca 0 (A3 G7 Hl (.tu (A3 KP (1-Ld) sC)))))) (.k (.bl ξ)),.fo (.many [9,14]) (.it vH) (sL [IC (MF (Hy 26 .nil) (ll/1)) (.k (.bl ξ)),.put Jl Oo mL,.put sC Oo mL,IC (.tn (.tr (.ca 0 (A3 G7 Hl (.tu (A3 KP (1-Ld) sC)))))) (.k (.bl ξ))]),.rt (.b2 KH .v (Hy 28 .nil) (.me 27 fy .nil))]⟩
def Vu:=Vt::SY
def YR:Df:=⟨.fn,"law",11,1,sL [.set 1 (.ca 77 (A1 G7)),.set 2 (.ca 81 (A2 (.ca 80 (A2 G7 0)) 12)),.set 3 (.ca 73 (A3 (.sl .v G7 (.cons 5 .nil) (.cons 30 .nil)) fy (.ca 76 (A2 (.ca 80 (A2 G7 3)%2147483629) (fy/0))))),.set 4 (.ca 71 (A3 HV (.ca 80 (A2 G7 4)) (.sl .v Hl (.cons 5 .nil) (.cons 11 .nil)))),.set 5 (.dc .v (Jl/1)),.set 6 (.mk 60 (A3 HV Jl (fy/3))),.set 7 (.mk 59 (A2 HV (fy/3))),.dr (.me 31 Ld .nil),.set 8 (.ca 30 (A1 HV)),.set 9 (.dn .o C),.fo (.one 10) (MG 30) (sL [IC (.tn (.tr (.ca 14 (A5 Ld KP HV Hl KB)))) (.k (.bl ξ)),.dr (.ca 12 (A4 KP HV KB Oo)),.dr (.me 31 Ld .nil),.dr (.me 5 KP .nil),IC (.tr (.me 11 KP .nil)) (.an (.b2 TK .v (.me 56 Ld .nil) (.k (.bl C))) (.b2 On .v (.ca 19 (A2 Ld HV)) (.ca 4 (A2 KP HV)))),IC (MF (.b2 TK .v (.me 29 Ld .nil) (.k .ek)) (.b2 Lu .v (.me 28 KP .nil) NI)) (.k (.bl ξ)),.cd (.tr (.b2 Lu .v (.me 28 KP .nil) NI)) (sL [IC (.tn (.tr (.ca 0 (.cons Ld (A5 KP HV (NI/.me 28 KP .nil) KB Oo))))) (.k (.bl ξ)),.set 9 (.dn .o C)]) .nil]),.rt (.k (.bl C))]⟩
def t83:=YR::Vu
noncomputable def rn(M:Nat->Nat):CV->CV
 |.ref i=>.ref (M i)
 |.g d=>.g d
 |.own b t=>.own b t
abbrev IP{κ:Type}(M:Nat->Nat)(l:B (κ×CV)):B (κ×CV):=l.map λp=>(p.1,rn M p.2)
def Ho(M:Nat->Nat):CO->CO
 |.e l=>.e (l.map (rn M))
 |.t l=>.t (l.map (rn M))
 |.dK l=>.dK (IP M l)
 |.dT l=>.dT (IP M l)
 |.wT l=>.wT (IP M l)
 |.ins c l=>.ins c (l.map (rn M))
abbrev Jm(M:Nat->Nat)(D:Sl):Sl:=D.map (Option.map (rn M))
structure Em(M:Nat->Nat)(a b:CH):Prop where
 inj:∀i j,M i=M j->i=j
 get:∀{i o},a[i]?=Z o->b[M i]?=Z (Ho M o)
 nw:∀k,M (a.length+k)=b.length+k
def Kp(M:Nat->Nat)(b b':CH):Prop:=∀j,(∀i,M i≠j)->b'[j]?=b[j]?
def IQ{β:Type}(M:Nat->Nat)(b:CH)(y:ζ (β×CH))(x:β)(a':CH):Prop:=∃b',y=Z (x,b')/\Em M a' b'/\Kp M b b'
def Tr{α:Type}(R:(Nat->Nat)->α->α)(f:FM α):Prop:=∀{M D a x a' b},Em M a b->f D a=Z (x,a')->IQ M b (f (Jm M D) b) (R M x) a'
noncomputable abbrev rI{α:Type}(_:Nat->Nat)(x:α):α:=x
abbrev Jf(M:Nat->Nat)(l:B CV):B CV:=l.map (rn M)
def K5(F:Fd):Prop:=∀{M cs a x a' b},Em M a b->F cs a=Z (x,a')->IQ M b (F (Jf M cs) b) (rn M x) a'
variable{b' a':CH}{D:Sl}
section
variable{M:Nat->Nat}{a b:CH}{c:CV}{m:Md}{α β:Type}
def Kp.refl:Kp M b b:=λ_ _=>rfl
def Kp.trans{b'':CH}(h:Kp M b b')(k:Kp M b' b''):Kp M b b'':=λj O=>(k j O).trans (h j O)
def IQ.bind{y:ζ (α×CH)}{x:α}{a'':CH}{k:α×CH->ζ (β×CH)}{z:β}(h:IQ M b y x a')(W:∀b',Em M a' b'->IQ M b' (k (x,b')) z a''):IQ M b (y.bind k) z a'':=by have⟨b1,rfl,E,f⟩:=h;have⟨b2,h2,U,O⟩:=W b1 E;exact⟨b2,h2,U,f.trans O⟩
def IQ.here{x:α}(E:Em M a b):IQ M b (Z (x,b)) x a:=⟨b,rfl,E,.refl⟩
def IQ.map{y:ζ (α×CH)}{x:α}{k:α×CH->β×CH}{z:β}(h:IQ M b y x a')(O:∀b',k (x,b')=(z,b')):IQ M b (y.map k) z a':=by have⟨b1,rfl,E,f⟩:=h;exact⟨b1,by rw[Iy,O],E,f⟩
def aX{i:Nat}:rn M (.ref i)=.ref (M i):=rfl
def fY{d:Dt}:rn M (.g d)=.g d:=rfl
def dW:(rn M c).sol=c.sol:=by cases c<;>rfl
omit x in
def Fe:(rn M c).kp=c.kp:=by cases c<;>first|rfl|(rename_i b t;cases b<;>rfl)
omit x in
def C7:(rn M c).old=c.old:=by cases c<;>first|rfl|(rename_i b t;cases b<;>rfl)
def pM:rn M (lent c)=lent (rn M c):=by cases c<;>rfl
def AB:eQ (rn M c)=eQ c:=by cases c<;>rfl
def mM:cj (rn M c)=cj c:=by cases c<;>rfl
theorem cJ:∀l:B CV,dats (l.map (rn M))=dats l
 |[]=>rfl
 |c::l=>by have:=cJ l;cases c<;>simp[dats,rn,this]
theorem pN:∀l:B CV,gr (l.map (rn M))=gr l
 |[]=>rfl
 |c::l=>by
  have:=pN l;cases c with
  |g d=>cases d<;>simp[gr,rn,this]
  |_=>simp[gr,rn]
def lm(l:B CV):(l.map (rn M)).all CV.sol=l.all CV.sol:=by rw[Zs];exact List.all_congr rfl λc=>dW
def lq(l:B CV):(l.map (rn M)).all CV.old=l.all CV.old:=by rw[Zs];exact List.all_congr rfl λc=>C7
def C8(o:CO):Qg (Ho M o)=Qg o:=by
 cases o with
 |e l=>rwa[Ho,Qg,cJ]
 |t l=>rfl
 |ins c l=>rfl
 |wT l=>rfl
 |dK l|dT l=>have h:=cJ (M:=M) (l.map (·.2));rw[IV]at h;rwa[Ho,Qg,IP,IV,IJ];rwa[IJ]at h;rw[h]
def Em.vw(E:Em M a b){d:Dt}(h:vw a c=Z d):vw b (rn M c)=Z d:=by
 cases c with
 |ref i=>have⟨o,h1,h2⟩:=bS h;show(b[M i]?).bind Qg=Z d;rw[E.get h1,G8,C8];exact h2
 |g d=>exact h
 |own x t=>exact h
def Em.vws(E:Em M a b):∀{l:B CV}{ds:B Dt},vws a l=Z ds->vws b (l.map (rn M))=Z ds
 |[],ds,h=>h
 |c::l,ds,h=>by have⟨d,h1,h2⟩:=bS h;have⟨es,O,rfl⟩:=mS h2;show(L2.vw b (rn M c)).bind _=_;rw[E.vw h1,G8,E.vws O];rfl
def Em.push(E:Em M a b)(o:CO):Em M (a++[o]) (b++[Ho M o])/\Kp M b (b++[Ho M o])/\M a.length=b.length:=by
 have O:M a.length=b.length:=E.nw 0;refine⟨⟨E.inj,λ{i w} h=>?_,λk=>?_⟩,λj hj=>?_,O⟩
 .rcases MM i a.length with hi|hi
  .rw[gL hi]at h;have:=E.get h;rw[gL (af this)];exact this
  .have U:i=a.length:=by have:=af h;simp at this;lia
   subst U;simp at h;subst h;rw[O];simp
 .have:=E.nw (k+1);rwa[Kj,V2];rw[show a.length+1+k=a.length+(k+1)by lia,this];lia
 .have W:j≠b.length:=λe=>hj _ (O.trans e.symm)
  rcases MM j b.length with hi|hi
  .rw[gL hi]
  .rw[Oy (by simp;lia),Oy hi]
def Em.set(E:Em M a b){i:Nat}{w:CO}(U:a[i]?=Z w)(o:CO):Em M (a.set i o) (b.set (M i) (Ho M o))/\Kp M b (b.set (M i) (Ho M o)):=by
 refine⟨⟨E.inj,λ{j u} h=>?_,λk=>‹E.nw k›⟩,λj O=>by rw[qv3 (O i)]⟩;by_cases O:i=j
 .subst O;rw[Mh (af U)]at h;cases h;rw[Mh (af (E.get U))]
 .rw[gN O]at h;rw[gN (λe=>O (E.inj _ _ e))];exact E.get h
omit x in
def Em.al(E:Em M a b){t:T}{x:CV}(h:al a t=Z (x,a')):IQ M b (al b t) (rn M x) a':=by
 have key:∀o:CO,Ho M o=o->(CV.ref a.length,a++[o])=(x,a')->IQ M b (Z (.ref b.length,b++[o])) (rn M x) a':=λo U e=>by cases e;have⟨h1,h2,h3⟩:=E.push o;rw[U]at h1 h2;exact⟨_,by rw[<- h3];rfl,h1,h2⟩
 have W:∀l:B Dt,Ho M (.e (l.map .g))=.e (l.map .g):=λl=>by simp[Ho,rn,IJ]
 unfold L2.al at h ⊢;split at h
 .cases h;exact .here E
 .exact key _ (W _) (JU h)
 .split at h
  .rename_i O;rwa[O,if_true];exact key _ (by simp[Ho,rn,IP,IJ]) (JU h)
  .cases h
 .split at h
  .rename_i O;rwa[O,if_true];exact key _ (by simp[Ho,rn,IP,IJ]) (JU h)
  .cases h
omit x in
def Em.fin(E:Em M a b){t:T}{x:CV}(h:fin m a t=Z (x,a')):IQ M b (fin m b t) (rn M x) a':=by
 cases m with
 |v=>have⟨d,h1,h2⟩:=mS h;cases h2;exact⟨b,by show t.d.map _=_;rw[h1];rfl,E,.refl⟩
 |o=>exact E.al h
 |w=>
  unfold L2.fin at h ⊢;dsimp only at h ⊢;split at h<;>cases h
  rename_i O;rw[if_pos O];exact .here E
omit x in
def Em.finL(E:Em M a b){l:B CV}{x:CV}(h:finL m l a=Z (x,a')):IQ M b (finL m (Jf M l) b) (rn M x) a':=by
 unfold L2.finL at h ⊢;rw[cJ,lm];split at h
 .exact E.fin h
 .split at h<;>cases h
  rename_i hl;have⟨h1,h2,O⟩:=E.push (.e l);rw[if_pos hl];exact⟨_,by rw[<- O];rfl,h1,h2⟩
def oh{i:Nat}{c:CV}(h:D[i]?=Z (Z c)):(Jm M D)[i]?=Z (Z (rn M c)):=by simp[h]
theorem pO{κ:Type}[DecidableEq κ]{k:κ}:∀l:B (κ×CV),Jy (IP M l) k=(Jy l k).map (rn M)
 |[]=>rfl
 |p::l=>by
  have O:=pO (k:=k) l;by_cases h:p.1=k
  .simp[Jy,IP,P7,h]
  .rwa[Jy,IP,Hz,P7,h,decide_false]at O ⊢;exact O
def C9{α β:Type}{f:α->β}{l:B α}{i:Int}:Ji (l.map f) i=(Ji l i).map f:=by unfold Ji;rwa[HN,HZ,Option.map_bind];rfl
def Db{o:CO}{d:Dt}:QT (Ho M o) d=(QT o d).map (rn M):=by
 cases o with
 |e l|t l=>rwa[QT,Ho];cases QU d<;>simp[C9]
 |dK l=>rwa[QT,Ho];cases ci d<;>simp[pO]
 |dT l|wT l=>rwa[QT,Ho];cases Qp d<;>simp[pO]
 |ins c l=>rfl
def Em.ixV(E:Em M a b){d:Dt}{x:CV}(h:ixV a c d=Z x):ixV b (rn M c) d=Z (rn M x):=by
 cases c with
 |ref i=>have⟨o,h1,h2⟩:=bS h;show(b[M i]?).bind _=_;rw[E.get h1,G8,Db,h2];rfl
 |g d'=>unfold L2.ixV at h ⊢;have⟨z,h1,h2⟩:=bS h;have⟨y,O,rfl⟩:=mS h2;exact h
 |own z t=>unfold L2.ixV at h ⊢;have⟨z,h1,h2⟩:=bS h;have⟨y,O,rfl⟩:=mS h2;exact h
end
variable{M:Nat->Nat}{Hi:Sl}{src:B (ζ Nat)}{fi:FM (B Dt)}
section
variable{f fa fb fk fe:Fg}{ft fu:FM Bool}{fs:FM (B CV)}{m:Md}{F:Fd}
def Vv{d:Dt}:Tr rn (eK d):=λE h=>by cases h;exact .here E
omit x in
def tr_V{i:Nat}:Tr rn (eV i):=λ{M D a x a' b} E h=>by
 unfold eV at h ⊢;split at h<;>cases h
 rename_i c hc;rw[oh hc];dsimp only;rw[pM];exact .here E
def tr_2{g:Dt->Dt->ζ T}(ha:Tr rn fa)(hb:Tr rn fb):Tr rn (e2 m g fa fb):=λE h=>by
 have⟨p,h1,h⟩:=bS h;have⟨q,h2,h⟩:=bS h;have⟨x,W,h⟩:=bS h;have⟨y,h4,h⟩:=bS h;have⟨t,h5,h⟩:=bS h;refine(ha E h1).bind λb1 U=>(hb U h2).bind λb2 O=>?_
 dsimp only;rw[O.vw W,G8,O.vw h4,G8,h5];exact O.fin h
def vJ(O:Tr rn f):Tr rI (gw f):=λE h=>by
 have⟨p,h1,h⟩:=bS h;have⟨x,U,h⟩:=mS h;cases h;refine(O E h1).bind λb1 W=>?_
 dsimp only;rw[AB,U];exact .here W
def Dc(U:Tr rn f):Tr rI (i8 f):=λE h=>by
 have⟨p,h1,h⟩:=bS h;have⟨d,h2,h⟩:=bS h;have⟨x,W,h⟩:=mS h;cases h;refine(U E h1).bind λb1 O=>?_
 dsimp only;rw[O.vw h2,G8,W];exact .here O
def Ff(O:Tr rI ft):Tr rI (UH ft):=λE h=>by have⟨p,h1,h⟩:=mS h;cases h;exact(O E h1).map λ_=>rfl
omit x in
def Fh(U:Tr rI ft)(hb:Tr rI fu):Tr rI (Sv ft fu):=λE h=>by
 have⟨p,h1,h⟩:=bS h;refine(U E h1).bind λb1 O=>?_
 dsimp only;split at h
 .rename_i hp;rw[if_pos hp];exact hb O h
 .rename_i hp;rw[if_neg hp];cases h;exact .here O
omit x in
def Fi(U:Tr rI ft)(hb:Tr rI fu):Tr rI (uF ft fu):=λE h=>by
 have⟨p,h1,h⟩:=bS h;refine(U E h1).bind λb1 O=>?_
 dsimp only;split at h
 .rename_i hp;rw[if_pos hp];cases h;exact .here O
 .rename_i hp;rw[if_neg hp];exact hb O h
def Fj:Tr rI IN:=λE h=>by cases h;exact .here E
omit x in
def Dg(U:Tr rn fa)(hb:Tr rn fb):Tr rn (Xa fa fb):=λE h=>by
 have⟨p,h1,h⟩:=bS h;have⟨x,h2,h⟩:=bS h;refine(U E h1).bind λb1 O=>?_
 dsimp only;rw[AB,h2,G8];split at h
 .rename_i hp;rw[if_pos hp];exact hb O h
 .rename_i hp;rw[if_neg hp];cases h;exact .here O
def Dh(O:Tr rn f):Tr rn (Xb f):=λE h=>by
 have⟨p,h1,h⟩:=bS h;have⟨x,h2,h⟩:=bS h;cases h;refine(O E h1).bind λb1 U=>?_
 dsimp only;rw[mM,h2,G8];exact .here U
omit x in
def Di(W:Tr rI ft)(U:Tr rn fa)(hb:Tr rn fb):Tr rn (UI ft fa fb):=λE h=>by
 have⟨p,h1,h⟩:=bS h;refine(W E h1).bind λb1 O=>?_
 dsimp only;split at h
 .rename_i hp;rw[if_pos hp];exact U O h
 .rename_i hp;rw[if_neg hp];exact hb O h
def Fk:Tr Jf He:=λE h=>by cases h;exact .here E
def Fl(O:Tr rn f)(hs:Tr Jf fs):Tr Jf (G3 f fs):=λE h=>by have⟨p,h1,h⟩:=bS h;have⟨q,h2,h⟩:=mS h;cases h;exact(O E h1).bind λb1 U=>(hs U h2).map λ_=>rfl
def Fn(W:Tr rn fa)(hb:Tr rn fb):Tr rn (HR fa fb):=λE h=>by
 have⟨p,h1,h⟩:=bS h;have⟨q,h2,h⟩:=bS h;have⟨d,h3,h⟩:=bS h;have⟨c,h4,h⟩:=mS h;cases h;refine(W E h1).bind λb1 U=>(hb U h2).bind λb2 O=>?_
 dsimp only;rw[O.vw h3,G8,O.ixV h4];exact .here O
omit x in
def Fo{c i:Nat}(W:Tr rn fa):Tr rn (L6 c i fa):=λ{M _ _ _ _ _} E h=>by
 have⟨p,h1,h⟩:=bS h;refine(W E h1).bind λb1 O=>?_
 rcases h
 rename_i j U;rcases h
 rename_i c' l hl;rcases h
 rename_i hc;have⟨x,h2,h⟩:=mS h;cases h;rw[U];rwa[aX,O.get hl,Ho,hc,if_true,HZ,h2,Iy];exact .here O
omit x in
def Fp(hs:Tr Jf fs):Tr rn (Mz m fs):=λE h=>by
 have⟨p,h1,h⟩:=bS h;rcases h
 rename_i hl;refine(hs E h1).bind λb1 O=>?_
 dsimp only;rw[if_pos ‹hl›];exact O.finL h
omit x in
def Fq(hs:Tr Jf fs):Tr rn (Je fs):=λ{M _ _ _ _ _} E h=>by
 have⟨p,h1,h⟩:=bS h;rcases h
 rename_i hl;refine(hs E h1).bind λb1 O=>?_
 dsimp only;rw[if_pos ‹hl›,cJ,lm];split at h
 .cases h;exact .here O
 .split at h<;>cases h
  rename_i hs;have⟨W,k2,U⟩:=O.push (.t p.1);rw[if_pos hs];exact⟨_,by rw[<- U];rfl,W,k2⟩
omit x in
def Ft{n:Nat}(O:K5 F)(hs:Tr Jf fs):Tr rn (LP n F fs):=λE h=>by
 have⟨p,h1,h⟩:=bS h;unfold Kc at h;rcases h
 rename_i hl;refine(hs E h1).bind λb1 U=>?_
 dsimp only;unfold Kc;rw[if_pos ⟨by rw[HN];exact hl.1,by rw[lq];exact hl.2⟩];exact O U h
omit x in
def Fu{c n:Nat}(hF:K5 F)(ha:Tr rn fa)(hs:Tr Jf fs):Tr rn (K4 c n F fa fs):=λ{M _ _ _ _ _} E h=>by
 have⟨p,h1,h⟩:=bS h;refine(ha E h1).bind λb1 U=>?_
 rcases h
 rename_i j hj;rcases h
 rename_i c' l hl;rcases h
 rename_i hc;have⟨q,h2,h⟩:=bS h;unfold Kc at h;rcases h
 rename_i O;rw[hj];rwa[aX,U.get hl,Ho,hc,if_true];refine(hs U h2).bind λb2 W=>?_
 unfold Kc;have e:(CV.ref (M j)::Jf M q.1)=Jf M (.ref j::q.1):=rfl;rw[e,if_pos ⟨by rw[HN];exact O.1,by rw[lq];exact O.2⟩];exact hF W h
omit x in
def Fv{c n:Nat}(hF:K5 F)(hs:Tr Jf fs):Tr rn (MB c n F fs):=λ{M _ _ _ _ _} E h=>by
 have⟨p,h1,h⟩:=bS h;have⟨q,h2,h⟩:=bS h;unfold Kc at h2;rcases h2
 rename_i O;rcases h
 rename_i hq;split at h<;>cases h
 rename_i L5;refine(hs E h1).bind λb1 W=>?_
 have⟨k1,k2,k3⟩:=W.push (.ins c []);have⟨b2,h3,U,f2⟩:=hF k1 h2;rw[hq]at h3;refine⟨b2,?_,U,k2.trans f2⟩;have e:(CV.ref b1.length::Jf M p.1)=Jf M (.ref p.2.length::p.1):=by rw[<- k3];rfl
 dsimp only;unfold Kc;rw[e,if_pos ⟨by rw[HN];exact O.1,by rw[lq];exact O.2⟩];have e2:b1++[CO.ins c []]=b1++[Ho M (.ins c [])]:=rfl;rw[e2,h3,G8];have e3:=U.nw 0;have e4:=W.nw (q.2.length-p.2.length);rw[show p.2.length+(q.2.length-p.2.length)=q.2.length+0 by lia,e3]at e4;have:b1.length<b2.length:=by lia
 rwa[rn];rw[if_pos this,k3]
def AC{o:ζ Fg}(O:∀f,o=Z f->Tr rn f):Tr rI (L8 o):=λE h=>by
 cases o with
 |none=>cases h;exact .here E
 |some f=>
  have⟨p,h1,h⟩:=bS h;have⟨i,h2,h⟩:=mS h;cases h;refine(O f rfl E h1).bind λb1 U=>?_
  dsimp only;rw[mM,h2];exact .here U
def Fw{lo hi:ζ Fg}(ha:Tr rn fa)(hl:∀f,lo=Z f->Tr rn f)(hh:∀f,hi=Z f->Tr rn f):Tr rn (KN m fa lo hi):=λE h=>by
 have⟨p,h1,h⟩:=bS h;have⟨q,h2,h⟩:=bS h;have⟨r,h3,h⟩:=bS h;have⟨d,h4,h⟩:=bS h;have⟨t,h5,h⟩:=bS h;refine(ha E h1).bind λb1 W=>(AC hl W h2).bind λb2 U=>(AC hh U h3).bind λb3 O=>?_
 dsimp only;rw[O.vw h4,G8,h5];exact O.fin h
def tr_B{g:B Dt->ζ T}(hs:Tr Jf fs):Tr rn (eB m g fs):=λE h=>by
 have⟨p,h1,h⟩:=bS h;have⟨ds,h2,h⟩:=bS h;have⟨t,U,h⟩:=bS h;refine(hs E h1).bind λb1 O=>?_
 dsimp only;unfold kB;rw[O.vws h2,G8,U];exact O.fin h
def Fy{c:String}(U:Tr rn f):Tr rn (UP c f):=λE h=>by
 have⟨p,h1,h⟩:=bS h;have⟨d,h2,h⟩:=bS h;cases h;refine(U E h1).bind λb1 O=>?_
 dsimp only;rw[O.vw h2,G8];exact .here O
omit x in
def Fz{g:Dt->B Dt->ζ T}(W:Tr rn fa)(hs:Tr Jf fs):Tr rn (Rq m g fa fs):=λE h=>by
 have⟨p,h1,h⟩:=bS h;refine(W E h1).bind λb1 U=>?_
 rcases h
 rename_i z hz;have⟨q,h2,h⟩:=bS h;have⟨ds,h3,h⟩:=bS h;have⟨t,h4,h⟩:=bS h;rw[hz];rwa[rn];refine(hs U h2).bind λb2 O=>?_
 dsimp only;rw[O.vws h3,G8,h4];exact O.fin h
def FA{t:Bool}:Tr rn (Xd m t):=λE h=>E.fin h
def FB{a b:CH}{c:CV}(E:Em M a b)(h:im a c=C):im b (rn M c)=C:=by
 unfold im at h ⊢;cases c with
 |ref i=>
  dsimp only[rn]at h ⊢;cases q:a[i]? with
  |none=>rw[q]at h;cases h
  |some o=>rw[E.get q];rw[q]at h;cases o<;>first|rfl|cases h
 |g d=>exact h
 |own x t=>exact h
omit x in
def Em.getV{a b:CH}{c z x:CV}{k:Dt}(E:Em M a b)(h:getV a c k z=Z x):getV b (rn M c) k (rn M z)=Z (rn M x):=by
 unfold L2.getV at h ⊢;cases c with
 |ref i=>
  dsimp only[rn]at h ⊢;cases q:a[i]? with
  |none=>rw[q]at h;cases h
  |some o=>
   rw[E.get q];rw[q]at h;cases o<;>try(cases h;done)
   all_goals
    have⟨k',h1,rfl⟩:=mS h;rwa[Ho,h1,Iy,pO];rename_i l;cases Jy l k'<;>rfl
 |g d=>have⟨y,h1,h⟩:=bS h;have⟨r,h2,rfl⟩:=mS h;dsimp only[rn];cases h1;rwa[L2.vw,G8,h2,Iy];cases r<;>rfl
 |own w t=>have⟨y,h1,h⟩:=bS h;have⟨r,h2,rfl⟩:=mS h;dsimp only[rn];have h1:t.d=Z y:=h1;rwa[L2.vw,h1,G8,h2,Iy];cases r<;>rfl
omit x in
def FC(ha:Tr rn fa)(hk:Tr rn fk)(he:Tr rn fe):Tr rn (UQ fa fk fe):=λE h=>by
 have⟨p,h1,h⟩:=bS h;rcases h
 rename_i hd;have⟨q,h2,h⟩:=bS h;have⟨r,h3,h⟩:=bS h;have⟨k,h4,h⟩:=bS h;rcases h
 rename_i W;have⟨c,h5,h⟩:=mS h;cases h;refine(ha E h1).bind λb1 U=>?_
 dsimp only;rw[if_pos (FB U hd)];refine(hk U h2).bind λb2 E2=>(he E2 h3).bind λb3 O=>?_
 dsimp only;rw[O.vw h4,G8,dW,if_pos W,O.getV h5];exact .here O
omit x in
def Em.itm{a b:CH}{c:CV}{l:B (B rb×Dt)}(E:Em M a b)(h:nZ a c=Z l):nZ b (rn M c)=Z l:=by
 unfold nZ at h ⊢;cases c with
 |ref i=>
  dsimp only[rn]at h ⊢;cases q:a[i]? with
  |none=>rw[q]at h;cases h
  |some o=>
   rw[E.get q];rw[q]at h;cases o<;>try(cases h;done)
   rename_i w;have e:IP M w=w.map λp=>(p.1,rn M p.2):=rfl
   have O:(IP M w).map (·.2)=(w.map (·.2)).map (rn M):=by simp[IJ]
   have e2:(IP M w).map (·.1)=w.map (·.1):=by simp[IJ]
   rwa[Ho,O,e2,cJ];exact h
 |g d=>exact h
 |own w t=>cases t<;>exact h
def FD(U:Tr rn fa):Tr rn (Rt m fa):=λE h=>by
 have⟨p,h1,h⟩:=bS h;have⟨l,h2,h⟩:=bS h;refine(U E h1).bind λb1 O=>?_
 dsimp only;rw[O.itm h2,G8];exact O.fin h
omit x in
def Em.lst{a b:CH}{i:Nat}{l:B CV}(E:Em M a b)(h:cO a i=Z l):cO b (M i)=Z (Jf M l)/\a[i]?=Z (.e l):=by
 unfold cO at h ⊢;split at h<;>cases h
 rename_i q;rw[E.get q];exact⟨rfl,q⟩
theorem fZ{α β:Type}(f:α->β):∀(l:B α)(i:Nat),(l.map f).eraseIdx i=(l.eraseIdx i).map f
 |[],_=>rfl
 |_::_,0=>rfl
 |x::l,i+1=>by rwa[Hz,List.eraseIdx_cons_succ,fZ f l i]
omit x in
def Dj(ha:Tr rn fa)(he:Tr rn fe):Tr rn (sn fa fe):=λ{M _ _ _ _ _} E h=>by
 have⟨p,h1,h⟩:=bS h;have⟨q,h2,h⟩:=bS h;rcases h
 rename_i i hi;have⟨l0,h3,h⟩:=bS h;have⟨l,h4,h⟩:=bS h;have⟨j,W,h⟩:=bS h;rcases h
 rename_i hj;have⟨c,h6,h⟩:=mS h;cases h;refine(ha E h1).bind λb1 U=>(he U h2).bind λb2 O=>?_
 have⟨k1,k2⟩:=O.set (O.lst h4).2 (.e (l.eraseIdx j.toNat));rw[hi];rwa[aX,(U.lst h3).1,(O.lst h4).1,G8,mM,W,HN];rw[if_pos hj];rwa[HZ,h6,Iy];refine⟨_,rfl,?_,?_⟩
 .rw[fZ];exact k1
 .rw[fZ];exact k2
def Em.seq{a b:CH}{c:CV}{l:B CV}(E:Em M a b)(h:mH a c=Z l):mH b (rn M c)=Z (Jf M l):=by
 have O:∀l:B Dt,Jf M (l.map .g)=l.map .g:=λl=>by simp[rn,IJ]
 unfold mH at h ⊢;cases c with
 |ref i=>
  dsimp only[rn]at h ⊢;cases q:a[i]? with
  |none=>rw[q]at h;cases h
  |some o=>rw[E.get q];rw[q]at h;cases o<;>first|(cases h;done)|(cases h;rfl)
 |g d=>cases d<;>first|(cases h;done)|(cases h;rw[O];rfl)
 |own w t=>cases t<;>first|(cases h;done)|(cases h;rw[O];rfl)
omit x in
def Em.pair{a b:CH}{c:CV}{p:rb×CV}(E:Em M a b)(h:cu a c=Z p):cu b (rn M c)=Z (p.1,rn M p.2):=by
 cases c with
 |ref i=>
  unfold cu at h ⊢;dsimp only[rn]at h ⊢;rcases h
  rename_i k c hc;have⟨k',h1,rfl⟩:=mS h;rw[E.get hc];rwa[Ho,Hz,Mi,rn,h1,Iy]
 |g d=>
  unfold cu at h;rcases h
  .rename_i k d e;cases e;have⟨k',h1,rfl⟩:=mS h;rwa[cu,rn,h1,Iy]
  .rename_i e;cases e
 |own w t=>cases h
def Em.pairs{a b:CH}(E:Em M a b):∀{l:B CV}{ps:B (rb×CV)},aP a l=Z ps->aP b (Jf M l)=Z (IP M ps)
 |[],ps,h=>by cases h;rfl
 |c::l,ps,h=>by have⟨p,h1,h⟩:=bS h;have⟨O,h2,rfl⟩:=mS h;show(cu b (rn M c)).bind _=_;rw[E.pair h1,G8,E.pairs h2];rfl
omit x in
def FE(ha:Tr rn fa):Tr rn (L9 m fa):=λ{M _ _ _ _ _} E h=>by
 have⟨p,h1,h⟩:=bS h;have⟨l,h2,h⟩:=bS h;have⟨ps,h3,h⟩:=bS h;rcases h
 rename_i U;refine(ha E h1).bind λb1 O=>?_
 have e1:(IP M ps).map (·.2)=(ps.map (·.2)).map (rn M):=by simp[IJ]
 have e2:(IP M ps).map (·.1)=ps.map (·.1):=by simp[IJ]
 dsimp only;rw[O.seq h2,G8,O.pairs h3,G8,e2,if_pos U];unfold kZ at h ⊢;rw[e1,e2,cJ,lm];split at h
 .exact O.fin h
 .split at h
  rotate_left
  .cases h
  rename_i hl;cases h;have⟨W,k2,k3⟩:=O.push (.dK ps);rw[if_pos hl];exact⟨_,by rw[<- k3];rfl,W,k2⟩
omit x in
def FG(O:Tr rn f):Tr rI (iE f):=λE h=>by
 have⟨p,h1,h⟩:=bS h;refine(O E h1).bind λb1 W=>?_
 rcases h
 rename_i d U;have⟨l,h2,h⟩:=mS h;cases h;rw[U];rwa[rn,h2,Iy];exact .here W
def FH{n:Nat}(hs:Tr Jf fs):Tr rI (iR n fs):=λE h=>by
 have⟨p,h1,h⟩:=bS h;have⟨is,h2,h⟩:=bS h;have⟨l,O,h⟩:=mS h;cases h;refine(hs E h1).bind λb1 U=>?_
 dsimp only;rw[pN,h2,G8,O];exact .here U
omit x in
def FI(O:Tr rn f):Tr rI (iN f):=λE h=>by
 have⟨p,h1,h⟩:=bS h;refine(O E h1).bind λb1 W=>?_
 rcases h
 all_goals
  rename_i d U;cases h;rw[U];exact .here W
omit x in
def Dk(W:Tr rn f):Tr rI (OU f):=λ{M _ _ _ _ _} E h=>by
 have⟨p,h1,h⟩:=bS h;refine(W E h1).bind λb1 O=>?_
 rcases h
 rename_i i hi;rcases h
 rename_i l hl;cases h;have e:fW (IP M l)=fW l:=by simp[fW,IJ]
 rw[hi];rwa[aX,O.get hl,Ho,e];have⟨U,k2⟩:=O.set hl (.wT l);exact⟨_,rfl,U,k2⟩
theorem pP{M:Nat->Nat}:∀{is:B Nat}{ds:B Dt}{D Hi:Sl},rR is ds D=Z Hi->rR is ds (Jm M D)=Z (Jm M Hi)
 |[],[],D,Hi,h=>by cases h;rfl
 |i::is,d::ds,D,Hi,h=>by have:=pP (M:=M) (is:=is) (ds:=ds) h;rwa[Jm,QH,Iy,rn]at this;exact this
 |[],_::_,_,_,h=>by cases h
 |_::_,[],_,_,h=>by cases h
def oj{pt:Pt}{d:Dt}(h:Hq pt d D=Z Hi):Hq pt d (Jm M D)=Z (Jm M Hi):=by
 cases pt with
 |one i=>cases h;rwa[Hq,Jm,QH,Iy,rn]
 |many is=>cases d<;>first|(cases h;done)|exact pP h
def FJ:gC src (Jm M D)=Jm M (gC src D):=by
 unfold gC Jm;rw[IV];refine M3 λo _=>?_
 cases o with
 |none=>rfl
 |some j=>
  show((List.map (Option.map (rn M)) D)[j]?.join).map lent=(((D[j]?).join).map lent).map (rn M);rw[HZ];cases q:D[j]? with
  |none=>rfl
  |some x=>cases x with
   |none=>rfl
   |some c=>show Z (lent (rn M c))=Z (rn M (lent c));rw[pM]
omit x in
theorem lr{pt:Pt}(U:Tr rI ft)(O:Tr rn fe):∀{l:B Dt}{a b:CH}{x:B CV}{a':CH},Em M a b->aF (Hq pt) ft fe D l a=Z (x,a')->IQ M b (aF (Hq pt) ft fe (Jm M D) l b) (Jf M x) a'
 |[],a,b,x,a',E,h=>by cases h;exact .here E
 |d::l,a,b,x,a',E,h=>by
  have⟨OT,h1,h⟩:=bS h;have⟨p,h2,h⟩:=bS h;show IQ M b ((Hq pt d (Jm M D)).bind _) _ _;rw[oj h1,G8];refine(U E h2).bind λb1 W=>?_
  dsimp only;split at h
  .rename_i hp;rw[if_pos hp];have⟨q,h3,h⟩:=bS h;rcases h
   rename_i hs;have⟨z,h4,h⟩:=mS h;cases h;refine(O W h3).bind λb2 E2=>?_
   dsimp only;rw[dW,if_pos hs];exact(lr U O E2 h4).map λ_=>rfl
  .rename_i hp;rw[if_neg hp];exact lr U O W h
omit x in
def FK{pt:Pt}(hi:Tr rI fi)(W:Tr rI ft)(U:Tr rn fe):Tr rn (Jj m src fi (Hq pt) ft fe):=λE h=>by
 have⟨p,h1,h⟩:=bS h;have⟨q,h2,h⟩:=bS h;rcases h
 rename_i hl;refine(hi E h1).bind λb1 E1=>?_
 dsimp only;rw[FJ];refine(lr W U E1 h2).bind λb2 O=>?_
 dsimp only;rw[if_pos ‹hl›];exact O.finL h
end
noncomputable def Og.hp:Og->CH
 |.nx _ ch|.rt _ ch|.bk _ ch|.ct _ ch=>ch
def Og.mv(M:Nat->Nat)(b:CH):Og->Og
 |.nx D _=>.nx (Jm M D) b
 |.rt c _=>.rt (rn M c) b
 |.bk D _=>.bk (Jm M D) b
 |.ct D _=>.ct (Jm M D) b
def LT(M:Nat->Nat)(b:CH)(y:ζ Og)(o:Og):Prop:=∃b',y=Z (o.mv M b')/\Em M o.hp b'/\Kp M b b'
def Jz(g:Fs):Prop:=∀{M D a o b},Em M a b->g D a=Z o->LT M b (g (Jm M D) b) o
section
variable{M:Nat->Nat}{a b:CH}{α:Type}
def IQ.HM{y:ζ (α×CH)}{x:α}{k:α×CH->ζ Og}{o:Og}(h:IQ M b y x a')(W:∀b',Em M a' b'->LT M b' (k (x,b')) o):LT M b (y.bind k) o:=by have⟨b1,rfl,E,f⟩:=h;have⟨b2,h2,U,O⟩:=W b1 E;exact⟨b2,h2,U,f.trans O⟩
def LT.bind{y:ζ Og}{o' o:Og}{k:Og->ζ Og}(h:LT M b y o')(W:∀b',Em M o'.hp b'->LT M b' (k (o'.mv M b')) o):LT M b (y.bind k) o:=by have⟨b1,rfl,E,f⟩:=h;have⟨b2,h2,U,O⟩:=W b1 E;exact⟨b2,h2,U,f.trans O⟩
def LT.nx(E:Em M a b):LT M b (Z (.nx (Jm M D) b)) (.nx D a):=⟨b,rfl,E,.refl⟩
def LT.rt{c:CV}(E:Em M a b):LT M b (Z (.rt (rn M c) b)) (.rt c a):=⟨b,rfl,E,.refl⟩
def LT.put{i:Nat}{w o:CO}(E:Em M a b)(O:a[i]?=Z w):LT M b (Z (.nx (Jm M D) (b.set (M i) (Ho M o)))) (.nx D (a.set i o)):=let ⟨h1,h2⟩:=E.set O o;⟨_,rfl,h1,h2⟩
end
variable{o':CO}{is:B Nat}
section
variable{f fa fb fk fe:Fg}{ft fu:FM Bool}{fs:FM (B CV)}{m:Md}{F:Fd}{g g1 g2:Fs}{i:Nat}
def Dl:Jz mr:=λE h=>by cases h;exact .nx E
def Dm(h1:Jz g1)(h2:Jz g2):Jz (i9 g1 g2):=λE h=>by
 have⟨o,U,h⟩:=bS h;refine(h1 E U).bind λb1 O=>?_
 cases o with
 |nx D ch=>exact h2 O h
 |_=>cases h;exact⟨b1,rfl,O,.refl⟩
def iz{c:CV}:Jm M (D.set i (Z c))=(Jm M D).set i (Z (rn M c)):=by rwa[Jm,QH,Iy]
omit x in
def FL(U:Jz g):Jz (Sy i g):=λ{M D a o b} E h=>by
 unfold Sy at h ⊢;rcases h
 rename_i t O;have⟨d,h1,h⟩:=bS h;rw[oh O];rwa[rn,h1,G8];have:=U E h;rw[iz]at this;exact this
def FN(O:Tr rn f):Jz (Sz f):=λE h=>by have⟨p,h1,rfl⟩:=mS h;have⟨b1,h2,U,k⟩:=O E h1;exact⟨b1,by unfold Sz;rw[h2];rfl,U,k⟩
omit x in
def FO(U:Tr rn f):Jz (Rj f):=λE h=>by
 have⟨p,h1,h⟩:=bS h;split at h<;>cases h
 rename_i O;refine(U E h1).HM λb1 W=>?_
 dsimp only;rw[dW,if_pos O];exact .rt W
def FP:Jz UK:=λE h=>by cases h;exact⟨_,rfl,E,.refl⟩
omit x in
def FQ(U:Tr rI ft)(h1:Jz g1)(h2:Jz g2):Jz (UL ft g1 g2):=λE h=>by
 have⟨p,W,h⟩:=bS h;refine(U E W).HM λb1 O=>?_
 dsimp only;split at h
 .rename_i hp;rw[if_pos hp];exact h1 O h
 .rename_i hp;rw[if_neg hp];exact h2 O h
omit x in
def Dn(U:Tr rn f):Jz (ja i f):=λE h=>by
 have⟨p,h1,h⟩:=bS h;split at h<;>cases h
 rename_i O;refine(U E h1).HM λb1 W=>?_
 dsimp only;rw[Fe,if_pos O,<- iz];exact .nx W
theorem lu{pt:Pt}(W:Jz g):∀{l:B Dt}{D:Sl}{a b:CH}{o:Og},Em M a b->bJ (Hq pt) g l D a=Z o->LT M b (bJ (Hq pt) g l (Jm M D) b) o
 |[],D,a,b,o,E,h=>by cases h;exact .nx E
 |d::l,D,a,b,o,E,h=>by
  have⟨OT,h1,h⟩:=bS h;have⟨o1,h2,h⟩:=bS h;show LT M b ((Hq pt d (Jm M D)).bind _) _;rw[oj h1,G8];refine(W E h2).bind λb1 U=>?_
  cases o1 with
  |nx O ch2=>exact lu W U h
  |ct O ch2=>exact lu W U h
  |bk O ch2=>cases h;exact .nx U
  |rt c ch2=>cases h;exact .rt U
def Do{pt:Pt}(hi:Tr rI fi)(U:Jz g):Jz (rT fi (Hq pt) g):=λE h=>by have⟨p,h1,h⟩:=bS h;exact(hi E h1).HM λb1 O=>lu U O h
theorem pQ{κ:Type}[DecidableEq κ]{M:Nat->Nat}{k:κ}{c:CV}:∀l:B (κ×CV),aV (IP M l) k (rn M c)=IP M (aV l k c)
 |[]=>rfl
 |p::l=>by
  have O:=pQ (M:=M) (k:=k) (c:=c) l;rwa[aV,IP,Hz]at O ⊢;split
  .rfl
  .rw[O];rfl
omit x in
def zq{o:CO}{d:Dt}{c:CV}(h:bR o d c=Z o'):bR (Ho M o) d (rn M c)=Z (Ho M o'):=by
 cases o with
 |e l=>have⟨j,h1,h⟩:=bS h;have⟨n,h2,rfl⟩:=mS h;rwa[bR,Ho,h1,G8,HN,h2,Iy,QH]
 |dK l|dT l=>
  have⟨j,h1,h⟩:=bS h;split at h<;>cases h
  rename_i hl;rwa[bR,Ho,h1,G8,HN,hl,if_true,pQ]
 |t l=>cases h
 |wT l=>cases h
 |ins c l=>cases h
omit x in
def Dp(ha:Tr rn fa)(hk:Tr rn fk)(he:Tr rn fe):Jz (UR fa fk fe):=λ{M _ _ _ _} E h=>by
 have⟨p,h1,h⟩:=bS h;have⟨q,h2,h⟩:=bS h;have⟨r,h3,h⟩:=bS h;rcases h
 rename_i j hj;rcases h
 rename_i W;have⟨d,h4,h⟩:=bS h;have⟨o',h5,rfl⟩:=mS h;have⟨o,U,h7⟩:=bS h5;refine(he E h1).HM λb1 E1=>(ha E1 h2).HM λb2 E2=>(hk E2 h3).HM λb3 O=>?_
 rw[hj];rwa[aX,dW,W,if_true,O.vw h4,G8,O.get U,zq h7,Iy];exact .put O U
def vK:cN (Jm M D) i=cN D i:=by
 unfold cN;rw[HZ];cases q:D[i]? with
 |none=>rfl
 |some x=>cases x with
  |none=>rfl
  |some c=>cases c<;>rfl
omit x in
def Dq(hk:Tr rn fk)(he:Tr rn fe):Jz (UT i fk fe):=λ{M D _ _ _} E h=>by
 have⟨p,h1,h⟩:=bS h;have⟨r,h3,h⟩:=bS h;rcases h
 rename_i x hx;have⟨d,h4,h⟩:=bS h;have⟨t,U,h⟩:=bS h;have⟨t',W,rfl⟩:=mS h;refine(he E h1).HM λb1 E1=>(hk E1 h3).HM λb3 O=>?_
 rw[hx];rwa[fY,O.vw h4,G8,vK,U,W,Iy];have e:(Jm M D).set i (Z (.own C t'))=Jm M _:=(iz (M:=M) (c:=.own C t')).symm;rw[e];exact .nx O
omit x in
def pR{c k:Nat}{o:CO}{x:CV}(h:ip c k o x=Z o'):ip c k (Ho M o) (rn M x)=Z (Ho M o'):=by
 cases o<;>try(cases h;done)
 rename_i W l;unfold ip at h ⊢;rwa[Ho,HN,dW];simp only at h;rcases h
 rename_i hc;rw[if_pos hc];split at h
 .rename_i U;rw[if_pos U];cases h;rwa[QH,Ho]
 .rename_i U;rw[if_neg U];split at h<;>cases h
  rename_i O;rw[if_pos O];rwa[Ho,KW,Hz,Mi]
omit x in
def FR{c k:Nat}(ha:Tr rn fa)(he:Tr rn fe):Jz (NF c k fa fe):=λ{M _ _ _ _} E h=>by
 have⟨p,h1,h⟩:=bS h;have⟨q,h2,h⟩:=bS h;rcases h
 rename_i j hj;have⟨o',W,rfl⟩:=mS h;have⟨o,U,h7⟩:=bS W;refine(he E h1).HM λb1 E1=>(ha E1 h2).HM λb2 O=>?_
 rw[hj];rwa[aX,O.get U,G8,pR h7,Iy];exact .put O U
omit x in
def FS{c k:Nat}{op:Int->Int->Int}(ha:Tr rn fa)(he:Tr rn fe):Jz (UU c k op fa fe):=λ{M _ _ _ _} E h=>by
 have⟨p,h1,h⟩:=bS h;rcases h
 rename_i j hj;rcases h
 rename_i c' l hl;rcases h
 rename_i hc;have⟨x,h2,h⟩:=bS h;have⟨n,h3,h⟩:=bS h;have⟨q,h4,h⟩:=bS h;have⟨n2,h5,h⟩:=bS h;have⟨o',h6,rfl⟩:=mS h;have⟨o,U,h8⟩:=bS h6;refine(ha E h1).HM λb1 W=>?_
 rw[hj];rwa[aX,W.get hl,Ho,hc,if_true,HZ,h2,Iy,G8,mM,h3];refine(he W h4).HM λb2 O=>?_
 have:=pR (M:=M) h8;rw[fY]at this;rwa[mM,h5,G8,O.get U,this,Iy];exact .put O U
omit x in
def FT{pt:Pt}(W:Tr rn fe):Jz (Xf pt fe):=λ{M D _ _ _} E h=>by
 have⟨p,h1,h⟩:=bS h;rcases h
 rename_i d O;have⟨Hi,h2,rfl⟩:=mS h;refine(W E h1).HM λb2 U=>?_
 rw[O];rwa[fY,oj h2,Iy];exact .nx U
theorem pS{M:Nat->Nat}:∀{is:B Nat}{l:B CV}{D Hi:Sl},kQ is l D=Z Hi->kQ is (l.map (rn M)) (Jm M D)=Z (Jm M Hi)
 |[],[],D,Hi,h=>by cases h;rfl
 |i::is,c::l,D,Hi,h=>by have:=pS (M:=M) (is:=is) (l:=l) h;rw[iz]at this;exact this
 |[],_::_,_,_,h=>by cases h
 |_::_,[],_,_,h=>by cases h
omit x in
def FU(U:Tr rn fe):Jz (SM is fe):=λ{M D _ _ _} E h=>by
 have⟨p,h1,h⟩:=bS h;rcases h
 rename_i i hi;rcases h
 rename_i l hl;have⟨Hi,h2,rfl⟩:=mS h;refine(U E h1).HM λb2 O=>?_
 rw[hi];rwa[aX,O.get hl,Ho,pS h2,Iy];exact .nx O
omit x in
def FV(W:Jz g):Jz (Qt j g):=λ{M D _ _ _} E h=>by
 unfold Qt at h ⊢;rcases h
 rename_i i hi;rcases h
 rename_i l0 O;have⟨o,h1,h2⟩:=bS h;rw[oh hi];rwa[aX,E.get O,Ho];refine(W E h1).bind λb1 U=>?_
 cases o with
 |nx Hi G0=>
  dsimp only at h2;split at h2<;>cases h2
  rename_i l hl;rwa[Og.mv,U.get hl,Ho];exact .put (o:=.dT l) U hl
 |_=>cases h2
omit x in
def FW(ha:Tr rn fa)(he:Tr rn fe):Jz (UW fa fe):=λ{M D _ _ _} E h=>by
 have⟨p,h1,h⟩:=bS h;have⟨q,h2,h⟩:=bS h;rcases h
 rename_i j W;have⟨l0,h3,h⟩:=bS h;have⟨l,h4,h⟩:=bS h;rcases h
 rename_i hl;cases h;refine(ha E h1).HM λb1 U=>(he U h2).HM λb2 O=>?_
 rw[W];rwa[aX,(U.lst h3).1,(O.lst h4).1,G8,HN,dW];rw[if_pos hl];have:=LT.put (D:=D) (o:=.e (l++[q.1])) O (O.lst h4).2;rwa[Ho,KW,Hz,Mi]at this;exact this
omit x in
def Dr(W:Tr rn fe):Jz (Py i fe):=λ{M D _ _ _} E h=>by
 have⟨q,h2,h⟩:=bS h;rcases h
 rename_i d l O hl;rcases h
 rename_i hz;cases h;refine(W E h2).HM λb2 U=>?_
 rw[O];rwa[fY,vK,hl];rw[if_pos hz];have e:(Jm M D).set i (Z (.own C (.e (l++[d]))))=Jm M _:=(iz (M:=M) (c:=.own C (.e (l++[d])))).symm;rw[e];exact .nx U
omit x in
def FX{t:Bool}(ha:Tr rn fa):Jz (Ru t fa):=λ{M _ _ _ _} E h=>by
 have⟨p,h1,h⟩:=bS h;rcases h
 rename_i j hj;have⟨o',h5,rfl⟩:=mS h;have⟨o,U,W⟩:=bS h5;refine(ha E h1).HM λb2 O=>?_
 have e:CY t (Ho M o)=Z (Ho M o'):=by cases o<;>cases t<;>first|(cases W;done)|(cases W;rfl)
 rw[hj];rwa[aX,O.get U,G8,e,Iy];exact .put O U
omit x in
def Em.dk{a b:CH}{i:Nat}{l:B (rb×CV)}(E:Em M a b)(h:iu a i=Z l):iu b (M i)=Z (IP M l)/\a[i]?=Z (.dK l):=by
 unfold iu at h ⊢;split at h<;>cases h
 rename_i q;rw[E.get q];exact⟨rfl,q⟩
omit x in
def FY(ha:Tr rn fa)(he:Tr rn fe):Jz (SL fa fe):=λ{M D _ _ _} E h=>by
 have⟨p,h1,h⟩:=bS h;have⟨q,h2,h⟩:=bS h;rcases h
 rename_i i j hi hj;have⟨l0,h3,h⟩:=bS h;have⟨l,h4,h⟩:=bS h;have⟨n,W,h⟩:=bS h;rcases h
 rename_i hl;cases h;refine(ha E h1).HM λb1 U=>(he U h2).HM λb2 O=>?_
 rw[hi,hj];have e:((IP M l++IP M n).map (·.1))=(l++n).map (·.1):=by simp[IJ]
 rwa[aX,(U.dk h3).1,(O.dk h4).1,(O.dk W).1,G8];rw[if_pos ⟨λz=>hl.1 (O.inj _ _ z),by rw[e];exact hl.2.1,‹hl.2.2›⟩];have:=LT.put (D:=D) (o:=.dK (l++n)) O (O.dk h4).2;rwa[Ho,IP,KW]at this;exact this
end
def TrN:En->Prop
 |.fn _ _ F|.me _ _ _ F|.mk _ _ F=>K5 F
section
variable{tb:Tb}
def aT:Tr rn nF:=λ_ h=>by cases h
def ae{α:Type}{R:(Nat->Nat)->α->α}:Tr R (λ_ _=>J):=λ_ h=>by cases h
def tr_E(ht:∀e∈tb.f,TrN e):∀e:E,Tr rn (G4 tb e)/\Tr rI (IX tb e)/\Tr Jf (II tb e)/\Tr rI (NG tb e)/\(∀f,OV tb e=Z f->Tr rn f)/\Tr rI (gw (G4 tb e)):=by
 have one:∀{e:E},Tr rn (G4 tb e)->Tr rI (IX tb e)->Tr Jf (II tb e)->Tr rI (NG tb e)->(∀f,OV tb e=Z f->Tr rn f)->Tr rn (G4 tb e)/\Tr rI (IX tb e)/\Tr Jf (II tb e)/\Tr rI (NG tb e)/\(∀f,OV tb e=Z f->Tr rn f)/\Tr rI (gw (G4 tb e)):=λh1 h2 h3 h4 h5=>⟨h1,h2,h3,h4,h5,vJ h1⟩
 have no:∀f,Z nF=Z f->Tr rn f:=λf h=>by cases h;exact aT
 intro e;induction e with
 |k d=>exact one Vv (@ae _ _) (@ae _ _) (@ae _ _) no
 |v i=>exact one tr_V (@ae _ _) (@ae _ _) (@ae _ _) no
 |g j=>
  refine one ?_ (@ae _ _) (@ae _ _) (@ae _ _) no;show Tr rn (Va tb.gc[j]?);cases tb.gc[j]? with
  |none=>show Tr rn nF;exact aT
  |some p=>show Tr rn (eK p.2);exact Vv
 |b2 o m x y O W=>exact one (tr_2 O.1 W.1) (@ae _ _) (@ae _ _) (@ae _ _) no
 |ng x O=>exact one (Dh O.1) (@ae _ _) (@ae _ _) (@ae _ _) no
 |an x y O W=>exact one (Dg O.1 W.1) (@ae _ _) (@ae _ _) (@ae _ _) no
 |cd c x y hc O W=>exact one (Di hc.2.1 O.1 W.1) (@ae _ _) (@ae _ _) (@ae _ _) no
 |tr x O=>refine one aT ?_ (@ae _ _) (@ae _ _) no;have h0:Tr rI (i8 (G4 tb x)):=Dc O.1;have h1:Tr rI (gw (G4 tb x)):=vJ O.1;cases x<;>first|exact @h0|exact @h1
 |tn x O=>exact one aT (Ff O.2.1) (@ae _ _) (@ae _ _) no
 |ta x y O W=>exact one aT (Fh O.2.1 W.2.1) (@ae _ _) (@ae _ _) no
 |to x y O W=>exact one aT (Fi O.2.1 W.2.1) (@ae _ _) (@ae _ _) no
 |bn o m as U=>exact one (tr_B U.2.2.1) (@ae _ _) (@ae _ _) (@ae _ _) no
 |ii c x O=>exact one (Fy O.1) (@ae _ _) (@ae _ _) (@ae _ _) no
 |ms o m x as O U=>exact one (Fz O.1 U.2.2.1) (@ae _ _) (@ae _ _) (@ae _ _) no
 |gt x k e O hk he=>exact one (FC O.1 hk.1 he.1) (@ae _ _) (@ae _ _) (@ae _ _) no
 |ca j as U=>
  refine one ?_ (@ae _ _) (@ae _ _) (@ae _ _) no;show Tr rn (Rv (II tb as) tb.f[j]?);cases h:tb.f[j]? with
  |none=>show Tr rn nF;exact aT
  |some q=>
   have hq:=ht _ (Il h);cases q with
   |fn x n F=>show Tr rn (LP n F (II tb as));exact Ft hq U.2.2.1
   |_=>show Tr rn nF;exact aT
 |me j o as ho U=>
  refine one ?_ (@ae _ _) (@ae _ _) (@ae _ _) no;show Tr rn (Rx (G4 tb o) (II tb as) tb.f[j]?);cases h:tb.f[j]? with
  |none=>show Tr rn nF;exact aT
  |some q=>
   have hq:=ht _ (Il h);cases q with
   |me c x n F=>show Tr rn (K4 c n F (G4 tb o) (II tb as));exact Fu hq ho.1 U.2.2.1
   |_=>show Tr rn nF;exact aT
 |mk j as U=>
  refine one ?_ (@ae _ _) (@ae _ _) (@ae _ _) no;show Tr rn (Vb (II tb as) tb.f[j]?);cases h:tb.f[j]? with
  |none=>show Tr rn nF;exact aT
  |some q=>
   have hq:=ht _ (Il h);cases q with
   |mk c n F=>show Tr rn (MB c n F (II tb as));exact Fv hq U.2.2.1
   |_=>show Tr rn nF;exact aT
 |«at» c f o ho=>exact one (Fo ho.1) (@ae _ _) (@ae _ _) (@ae _ _) no
 |ix x y O W=>exact one (Fn O.1 W.1) (@ae _ _) (@ae _ _) (@ae _ _) no
 |sl m x lo hi O hl hh=>exact one (Fw O.1 hl.2.2.2.2.1 hh.2.2.2.2.1) (@ae _ _) (@ae _ _) (@ae _ _) no
 |no=>exact one aT (@ae _ _) (@ae _ _) (@ae _ _) (λf h=>by cases h)
 |ls m as U=>exact one (Fp U.2.2.1) (@ae _ _) (@ae _ _) (@ae _ _) no
 |tu as U=>exact one (Fq U.2.2.1) (@ae _ _) (@ae _ _) (@ae _ _) no
 |dn m t=>exact one FA (@ae _ _) (@ae _ _) (@ae _ _) no
 |il m x O=>exact one (FD O.1) (@ae _ _) (@ae _ _) (@ae _ _) no
 |pp x y O W=>exact one (Dj O.1 W.1) (@ae _ _) (@ae _ _) (@ae _ _) no
 |dc m x O=>exact one (FE O.1) (@ae _ _) (@ae _ _) (@ae _ _) no
 |co m src pt it c e hi hc he=>exact one (FK hi.2.2.2.1 hc.2.1 he.1) (@ae _ _) (@ae _ _) (@ae _ _) no
 |ys=>exact one aT Fj (@ae _ _) (@ae _ _) no
 |it x O=>exact one aT (@ae _ _) (@ae _ _) (FG O.1) no
 |rg as U=>exact one aT (@ae _ _) (@ae _ _) (FH U.2.2.1) no
 |en x O=>exact one aT (@ae _ _) (@ae _ _) (FI O.1) no
 |ik x O=>exact one aT (@ae _ _) (@ae _ _) (Dk O.1) no
 |nil=>exact one aT (@ae _ _) Fk (@ae _ _) no
 |cons x as O U=>exact one aT (@ae _ _) (Fl O.1 U.2.2.1) (@ae _ _) (λf h=>by cases h;exact O.1)
def Vw(ht:∀e∈tb.f,TrN e):∀s:S,Jz (HL tb s):=by
 have O:=tr_E ht;intro s;induction s with
 |nil=>exact Dl
 |sq s r hs U=>exact Dm hs U
 |fz i r U=>exact FL U
 |set i e=>exact Dn (O e).1
 |un pt e=>exact FT (O e).1
 |put x k e=>exact Dp (O x).1 (O k).1 (O e).1
 |PC i k e=>exact Dq (O k).1 (O e).1
 |fl c f o e=>exact FR (O o).1 (O e).1
 |fa c f o x e=>exact FS (O x).1 (O e).1
 |dr e=>exact FN (O e).1
 |ap x e=>exact FW (O x).1 (O e).1
 |OX i e=>exact Dr (O e).1
 |cl t x=>exact FX (O x).1
 |up x e=>exact FY (O x).1 (O e).1
 |rt e=>exact FO (O e).1
 |rn=>exact FP
 |cd c x y W hy=>exact FQ (O c).2.1 W hy
 |fo pt it x W=>exact Do (O it).2.2.2.1 W
 |ul j s hs=>exact FV hs
 |ut is e=>exact FU (O e).1
end
variable{m:Nat}
omit x in
def pT{g:Fs}(U:Jz g):K5 (cQ m g):=λ{M cs a x a' b} E h=>by
 unfold cQ at h;have e:(cs.map (rn M)).map Z++I0 (m-(cs.map (rn M)).length) J=Jm M (cs.map Z++I0 (m-cs.length) J):=by simp[Jm,IJ]
 split at h<;>cases h
 .rename_i q;have⟨b1,h1,O,k⟩:=U E q;exact⟨b1,by unfold cQ;rw[e,h1];rfl,O,k⟩
 .rename_i q;have⟨b1,h1,O,k⟩:=U E q;exact⟨b1,by unfold cQ;rw[e,h1];rfl,O,k⟩
theorem jR{gc:B (Str×Dt)}:∀ds:B Df,∀e∈(aq gc ds).f,TrN e
 |[],e,h=>by cases h
 |d::r,e,h=>by
  have O:=jR (gc:=gc) r;rcases IE.mp h with rfl|h
  .have:K5 (cQ d.m (HL (aq gc r) d.b)):=pT (Vw O d.b);unfold Df.en;cases d.kd<;>exact @this
  .exact O e h
def aj{gc:B (Str×Dt)}(ds:B Df):K5 (FF gc ds):=by
 cases ds with
 |nil=>exact λ_ h=>by cases h
 |cons d r=>exact pT (Vw (jR r) d.b)
def bD(t:B Df):B En:=(aq gc t).f
def bDf{t:B Df}:(aq gc t).f=bD t:=rfl
def gc0:gc[0]?=Z ((PySem.Str.ofString "WIDE":Str),Dt.int 1099511627776):=rfl
def F0:=FF gc t1
def u0:bD t1=d0.en F0::bD t0:=rfl
def F1:=FF gc t2
def u1:bD t2=d1.en F1::bD t1:=rfl
def F2:=FF gc t3
def u2:bD t3=d2.en F2::bD t2:=rfl
def F3:=FF gc t4
def u3:bD t4=d3.en F3::bD t3:=rfl
def F4:=FF gc t5
def u4:bD t5=d4.en F4::bD t4:=rfl
def F5:=FF gc t6
def u5:bD t6=d5.en F5::bD t5:=rfl
def F6:=FF gc t7
def u6:bD t7=d6.en F6::bD t6:=rfl
def F7:=FF gc t8
def u7:bD t8=d7.en F7::bD t7:=rfl
def F8:=FF gc t9
def u8:bD t9=d8.en F8::bD t8:=rfl
def F9:=FF gc Vr
def u9:bD Vr=d9.en F9::bD t9:=rfl
def F10:=FF gc XF
def u10:bD XF=XE.en F10::bD Vr:=rfl
def Vx:=FF gc XG
def u11:bD XG=d11.en Vx::bD XF:=rfl
def F12:=FF gc XH
def u12:bD XH=d12.en F12::bD XG:=rfl
def Vy:=FF gc XI
def u13:bD XI=d13.en Vy::bD XH:=rfl
def F14:=FF gc XJ
def u14:bD XJ=d14.en F14::bD XI:=rfl
def F15:=FF gc XM
def u15:bD XM=d15.en F15::bD XJ:=rfl
def F16:=FF gc XN
def u16:bD XN=d16.en F16::bD XM:=rfl
def Vz:=FF gc XO
def u17:bD XO=d17.en Vz::bD XN:=rfl
def Op:=FF gc XS
def u18:bD XS=d18.en Op::bD XO:=rfl
def F19:=FF gc XT
def u19:bD XT=d19.en F19::bD XS:=rfl
def RG:=FF gc XU
def u20:bD XU=d20.en RG::bD XT:=rfl
def Qw:=FF gc XV
def u21:bD XV=d21.en Qw::bD XU:=rfl
def Qx:=FF gc XW
def u22:bD XW=d22.en Qx::bD XV:=rfl
def F23:=FF gc XX
def u23:bD XX=d23.en F23::bD XW:=rfl
def F24:=FF gc XY
def u24:bD XY=d24.en F24::bD XX:=rfl
def YS:=FF gc XZ
def u25:bD XZ=d25.en YS::bD XY:=rfl
def F26:=FF gc X0
def u26:bD X0=d26.en F26::bD XZ:=rfl
def YT:=FF gc X1
def u27:bD X1=d27.en YT::bD X0:=rfl
def F28:=FF gc X2
def u28:bD X2=d28.en F28::bD X1:=rfl
def F29:=FF gc X3
def u29:bD X3=d29.en F29::bD X2:=rfl
def F30:=FF gc X4
def u30:bD X4=d30.en F30::bD X3:=rfl
def F31:=FF gc X5
def u31:bD X5=d31.en F31::bD X4:=rfl
def F32:=FF gc X6
def u32:bD X6=d32.en F32::bD X5:=rfl
def PL:=FF gc X7
def u33:bD X7=d33.en PL::bD X6:=rfl
def VA:=FF gc X8
def u34:bD X8=d34.en VA::bD X7:=rfl
def F35:=FF gc X9
def u35:bD X9=d35.en F35::bD X8:=rfl
def SZ:=FF gc Yb
def u36:bD Yb=d36.en SZ::bD X9:=rfl
def YU:=FF gc Yc
def u37:bD Yc=d37.en YU::bD Yb:=rfl
def F38:=FF gc Yd
def u38:bD Yd=d38.en F38::bD Yc:=rfl
def F39:=FF gc Ye
def u39:bD Ye=d39.en F39::bD Yd:=rfl
def F40:=FF gc Yg
def u40:bD Yg=d40.en F40::bD Ye:=rfl
def F41:=FF gc Yh
def u41:bD Yh=d41.en F41::bD Yg:=rfl
def F42:=FF gc Yi
def u42:bD Yi=d42.en F42::bD Yh:=rfl
def YV:=FF gc Yj
def u43:bD Yj=d43.en YV::bD Yi:=rfl
def F44:=FF gc Yk
def u44:bD Yk=d44.en F44::bD Yj:=rfl
def F45:=FF gc Yl
def u45:bD Yl=d45.en F45::bD Yk:=rfl
def YW:=FF gc Ym
def u46:bD Ym=d46.en YW::bD Yl:=rfl
def F47:=FF gc Yn
def u47:bD Yn=d47.en F47::bD Ym:=rfl
def F48:=FF gc Yo
def u48:bD Yo=d48.en F48::bD Yn:=rfl
def F49:=FF gc Yp
def u49:bD Yp=d49.en F49::bD Yo:=rfl
def O0:=FF gc Rz
def u50:bD Rz=d50.en O0::bD Yp:=rfl
def F51:=FF gc Yq
def u51:bD Yq=SU.en F51::bD Rz:=rfl
def F52:=FF gc Yr
def u52:bD Yr=d52.en F52::bD Yq:=rfl
def F53:=FF gc Ys
def u53:bD Ys=d53.en F53::bD Yr:=rfl
def YX:=FF gc Yt
def u54:bD Yt=d54.en YX::bD Ys:=rfl
def F55:=FF gc Yu
def u55:bD Yu=d55.en F55::bD Yt:=rfl
def F56:=FF gc Yv
def u56:bD Yv=d56.en F56::bD Yu:=rfl
def VB:=FF gc Yw
def u57:bD Yw=d57.en VB::bD Yv:=rfl
def F58:=FF gc Yx
def u58:bD Yx=d58.en F58::bD Yw:=rfl
def F59:=FF gc Yy
def u59:bD Yy=d59.en F59::bD Yx:=rfl
def F60:=FF gc Yz
def u60:bD Yz=d60.en F60::bD Yy:=rfl
def F61:=FF gc RC
def u61:bD RC=d61.en F61::bD Yz:=rfl
def YY:=FF gc YA
def u62:bD YA=SV.en YY::bD RC:=rfl
def F63:=FF gc YB
def u63:bD YB=d63.en F63::bD YA:=rfl
def F64:=FF gc RE
def u64:bD RE=d64.en F64::bD YB:=rfl
def F65:=FF gc Vs
def u65:bD Vs=SW.en F65::bD RE:=rfl
def F66:=FF gc YD
def u66:bD YD=YC.en F66::bD Vs:=rfl
def F67:=FF gc YE
def u67:bD YE=d67.en F67::bD YD:=rfl
def F68:=FF gc YF
def u68:bD YF=d68.en F68::bD YE:=rfl
def F69:=FF gc YG
def u69:bD YG=d69.en F69::bD YF:=rfl
def F70:=FF gc YH
def u70:bD YH=d70.en F70::bD YG:=rfl
def F71:=FF gc YI
def u71:bD YI=d71.en F71::bD YH:=rfl
def F72:=FF gc YJ
def u72:bD YJ=d72.en F72::bD YI:=rfl
def F73:=FF gc YK
def u73:bD YK=d73.en F73::bD YJ:=rfl
def VC:=FF gc YL
def u74:bD YL=d74.en VC::bD YK:=rfl
def F75:=FF gc YM
def u75:bD YM=d75.en F75::bD YL:=rfl
def F76:=FF gc RF
def u76:bD RF=d76.en F76::bD YM:=rfl
def F77:=FF gc YN
def u77:bD YN=SX.en F77::bD RF:=rfl
def F78:=FF gc YO
def u78:bD YO=d78.en F78::bD YN:=rfl
def F79:=FF gc YQ
def u79:bD YQ=d79.en F79::bD YO:=rfl
def F80:=FF gc SY
def u80:bD SY=d80.en F80::bD YQ:=rfl
def F81:=FF gc Vu
def u81:bD Vu=Vt.en F81::bD SY:=rfl
def F82:=FF gc t83
def u82:bD t83=YR.en F82::bD Vu:=rfl
def qq:=(by and_intros<;>(show cQ _ (HL (aq _ _) _)=_;rwa[L2.G7,L2.fy,L2.Hl,L2.HV,L2.Jl,L2.NI,L2.Ld,L2.KP,L2.KB,L2.Oo,L2.vH,L2.sC,L2.ll,L2.vI,L2.mL,L2.sL,L2.xLit,L2.xAdd,L2.xSub,L2.xMul,L2.xMod,L2.xDiv,L2.xIx,L2.Ik,L2.PK,L2.MF,L2.tsG,L2.KQ,L2.MG,L2.Hr,L2.Hy,L2.LR,L2.IC,L2.XD,L2.bDf,L2.Rv,L2.Rx,L2.Vb,L2.Va,L2.zk0,L2.zk1,L2.zk2,L2.zk3,L2.zk5,L2.zk6,L2.zk7,L2.zk8,L2.zk9,L2.zk10,L2.zk11,L2.zk12,L2.zk13,L2.zk14,L2.zk15,L2.zk16,L2.zk17,L2.zk18,L2.zk19,L2.zk20,L2.zk21,L2.zk22,L2.zk23,L2.zk24,L2.zk25,L2.zk26,L2.zk27,L2.zk28,L2.zk29,L2.zk30,L2.zk31,L2.zk32,L2.zk33,L2.zk34,L2.zk35,L2.zk36,L2.zk37,L2.zk38,L2.zk39,L2.zk40,L2.zk41,L2.zk42,L2.zk43,L2.zk44,L2.zk45,L2.zk46,L2.zk47,L2.zk48,L2.zk50,L2.zk51,L2.zk52,L2.zk53,L2.zk54,L2.zk55,L2.zk56,L2.zk57,L2.zk58,L2.zk60,L2.zk61,L2.zk62,L2.Df.en,L2.iw,L2.vv,L2.kI,L2.kS,L2.A1,L2.A2,L2.A3,L2.A4,L2.A5,L2.gc0,L2.d0,L2.d1,L2.d2,L2.d3,L2.d4,L2.d5,L2.d6,L2.d7,L2.d8,L2.d9,L2.XE,L2.d11,L2.d12,L2.d13,L2.d14,L2.d15,L2.d16,L2.d17,L2.d18,L2.d19,L2.d20,L2.d21,L2.d22,L2.d23,L2.d24,L2.d25,L2.d26,L2.d27,L2.d28,L2.d29,L2.d30,L2.d31,L2.d32,L2.d33,L2.d34,L2.d35,L2.d36,L2.d37,L2.d38,L2.d39,L2.d40,L2.d41,L2.d42,L2.d43,L2.d44,L2.d45,L2.d46,L2.d47,L2.d48,L2.d49,L2.d50,L2.SU,L2.d52,L2.d53,L2.d54,L2.d55,L2.d56,L2.d57,L2.d58,L2.d59,L2.d60,L2.d61,L2.SV,L2.d63,L2.d64,L2.SW,L2.YC,L2.d67,L2.d68,L2.d69,L2.d70,L2.d71,L2.d72,L2.d73,L2.d74,L2.d75,L2.d76,L2.SX,L2.d78,L2.d79,L2.d80,L2.Vt,L2.YR,L2.u0,L2.u1,L2.u2,L2.u3,L2.u4,L2.u5,L2.u6,L2.u7,L2.u8,L2.u9,L2.u10,L2.u11,L2.u12,L2.u13,L2.u14,L2.u15,L2.u16,L2.u17,L2.u18,L2.u19,L2.u20,L2.u21,L2.u22,L2.u23,L2.u24,L2.u25,L2.u26,L2.u27,L2.u28,L2.u29,L2.u30,L2.u31,L2.u32,L2.u33,L2.u34,L2.u35,L2.u36,L2.u37,L2.u38,L2.u39,L2.u40,L2.u41,L2.u42,L2.u43,L2.u44,L2.u45,L2.u46,L2.u47,L2.u48,L2.u49,L2.u50,L2.u51,L2.u52,L2.u53,L2.u54,L2.u55,L2.u56,L2.u57,L2.u58,L2.u59,L2.u60,L2.u61,L2.u62,L2.u63,L2.u64,L2.u65,L2.u66,L2.u67,L2.u68,L2.u69,L2.u70,L2.u71,L2.u72,L2.u73,L2.u74,L2.u75,L2.u76,L2.u77,L2.u78,L2.u79,L2.u80,L2.u81,L2.u82,KU,R0];rfl):F0=_/\F1=_/\F2=_/\F3=_/\F4=_/\F5=_/\F8=_/\F9=_/\F12=_/\Vy=_/\Vz=_/\Op=_/\RG=_/\Qw=_/\Qx=_)
def q0:=qq.1
def q1:=qq.2.1
def q2:=qq.2.2.1
def q3:=qq.2.2.2.1
def q4:=qq.2.2.2.2.1
def q5:=qq.2.2.2.2.2.1
def q8:=qq.2.2.2.2.2.2.1
def q9:=qq.2.2.2.2.2.2.2.1
def q12:=qq.2.2.2.2.2.2.2.2.1
def q13:=qq.2.2.2.2.2.2.2.2.2.1
noncomputable def Kr(n:Nat):CV->Bool
 |.ref i=>decide (i<n)
 |_=>C
noncomputable def Qy(n:Nat):CO->Bool
 |.e l=>l.all (Kr n)
 |.t l=>l.all (Kr n)
 |.dK l=>l.all λp=>Kr n p.2
 |.dT l|.wT l=>l.all λp=>Kr n p.2
 |.ins _ l=>l.all (Kr n)
def Cl(cs:CH):Prop:=cs.all (Qy cs.length)=C
structure At(M:Nat->Nat)(cs b:CH):Prop where
 inj:∀i j,i<cs.length->j<cs.length->M i=M j->i=j
 get:∀{i o},cs[i]?=Z o->b[M i]?=Z (Ho M o)
noncomputable def Kf(M:Nat->Nat)(n m:Nat):Nat->Nat:=λi=>if i<n then M i else m+(i-n)
variable{Nr:CH}
section
variable{M Ha Y:Nat->Nat}{a b cs ds:CH}{n:Nat}
def vL{c:CV}(h:Kr n c=C)(e:∀i,i<n->M i=Ha i):rn M c=rn Ha c:=by
 cases c with
 |ref i=>simp only[rn,e i (by simpa[Kr] using h)]
 |_=>rfl
def pU{l:B CV}(h:l.all (Kr n)=C)(e:∀i,i<n->M i=Ha i):l.map (rn M)=l.map (rn Ha):=M3 λc hc=>vL (Kk.mp h c hc) e
def Ds{o:CO}(h:Qy n o=C)(e:∀i,i<n->M i=Ha i):Ho M o=Ho Ha o:=by
 cases o with
 |e l|t l|ins c l=>rwa[Ho,pU h e]
 |dK l|dT l|wT l=>rwa[Ho,IP];rw[M3 λp hp=>by rw[vL (Kk.mp h p hp) e]]
def FZ{c:CV}:rn M (rn Y c)=rn (λi=>M (Y i)) c:=by cases c<;>rfl
def zr{o:CO}:Ho M (Ho Y o)=Ho (λi=>M (Y i)) o:=by cases o<;>rwa[Ho,IP,IV,IJ,FZ]
def At.lt(h:At M cs b){i:Nat}(hi:i<cs.length):M i<b.length:=af (h.get (gQ hi))
def At.em(h:At M cs b)(hc:Cl cs):Em (Kf M cs.length b.length) cs b:=by
 have U:∀i,i<cs.length->Kf M cs.length b.length i=M i:=λi hi=>if_pos hi
 have e2:∀i,cs.length<=i->Kf M cs.length b.length i=b.length+(i-cs.length):=λi hi=>if_neg Θ
 refine⟨λi j e=>?_,λ{i o} hi=>?_,λk=>by rw[e2 _ Θ];lia⟩
 .rcases MM i cs.length with hi|hi<;>rcases MM j cs.length with O|O
  .rw[U i hi,U j O]at e;exact h.inj i j hi O e
  .rw[U i hi,e2 j O]at e;have:=h.lt hi;lia
  .rw[e2 i hi,U j O]at e;have:=h.lt O;lia
  .rw[e2 i hi,e2 j O]at e;lia
 .have hl:=af hi;rw[U i hl,h.get hi,Ds (Kk.mp hc o (Il hi)) λk W=>(U k W).symm]
def At.comp(h:Em M a b)(k:At Y ds a):At (λi=>M (Y i)) ds b:=⟨λi j hi O e=>k.inj i j hi O (h.inj _ _ e),λhi=>by rw[h.get (k.get hi),zr]⟩
structure Fr(M:Nat->Nat)(n:Nat)(b b':CH):Prop where
 le:b.length<=b'.length
 kp:∀j,j<b.length->(∀i,i<n->M i≠j)->b'[j]?=b[j]?
def Sb(M:Nat->Nat)(n:Nat)(b:CH)(Ha:Nat->Nat)(n':Nat):Prop:=∀i,i<n'->(∃k,k<n/\Ha i=M k)\/b.length<=Ha i
def Em.fr(h:At M cs b)(hc:Cl cs)(E:Em (Kf M cs.length b.length) a b')(k:Kp (Kf M cs.length b.length) b b')(hl:cs.length<=a.length):Fr M cs.length b b':=by
 have U:=E.nw 0;have:Kf M cs.length b.length (a.length+0)=b.length+(a.length-cs.length):=if_neg Θ;refine⟨Θ,λj O hi=>k j λi=>?_⟩;unfold Kf
 split
 .exact hi i (by assumption)
 .lia
def Rn(F:Fd)(args:B CV)(cs:CH)(d:Dt)(ds:CH):Prop:=∀ M b,At M cs b->∃ Ha b',F (Jf M args) b=Z (.g d,b')/\At Ha ds b'/\Ha 0=M 0/\Fr M cs.length b b'/\Sb M cs.length b Ha ds.length
def At.go{F:Fd}{args:B CV}{x:CV}(hF:K5 F)(h:At M cs b)(hc:Cl cs)(U:args.all (Kr cs.length)=C)(W:F args cs=Z (x,Nr)):∃b',F (Jf M args) b=Z (rn (Kf M cs.length b.length) x,b')/\Em (Kf M cs.length b.length) Nr b'/\Kp (Kf M cs.length b.length) b b':=by
 have⟨b',h1,h2,O⟩:=hF (h.em hc) W;have e:Jf (Kf M cs.length b.length) args=Jf M args:=pU U λi hi=>if_pos hi
 rw[e]at h1;exact⟨b',h1,h2,O⟩
def Rn.of{F:Fd}{args:B CV}{d:Dt}(hF:K5 F)(hc:Cl cs)(W:args.all (Kr cs.length)=C)(U:F args cs=Z (.g d,Nr))(hl:cs.length<=Nr.length)(hs:At Y ds Nr)(h0:Y 0=0)(O:0<cs.length):Rn F args cs d ds:=λM b h=>by
 have⟨b',h1,E,k⟩:=h.go hF hc W U;refine⟨_,b',h1,At.comp E hs,by show Kf _ _ _ (Y 0)=_;rw[h0];exact if_pos O,Em.fr h hc E k hl,λi hi=>?_⟩;show(∃j,j<cs.length/\Kf M cs.length b.length (Y i)=M j)\/_<=Kf M cs.length b.length (Y i);unfold Kf
 split
 .exact .inl ⟨Y i,by assumption,rfl⟩
 .exact .inr Θ
def AD{c:CV}:rn (λi=>i) c=c:=by cases c<;>rfl
def Du{o:CO}:Ho (λi=>i) o=o:=by
 have h1:∀l:B CV,l.map (rn λi=>i)=l:=λl=>by
  have:(rn λi=>i)=id:=funext λc=>AD
  rw[this,List.map_id]
 cases o<;>rwa[Ho,IP,h1,AD]<;>simp
def At.same:At (λi=>i) cs cs:=⟨λ_ _ _ _ e=>e,λh=>by rw[Du];exact h⟩
def Rn.here{F:Fd}{args:B CV}{d:Dt}(hF:K5 F)(hc:Cl cs)(U:args.all (Kr cs.length)=C)(W:F args cs=Z (.g d,ds))(hl:cs.length<=ds.length)(O:0<cs.length):Rn F args cs d ds:=.of hF hc U W hl .same rfl O
def Fr.at{n:Nat}(f:Fr M n b b')(h:At Y ds b)(U:∀i j,i<n->j<ds.length->M i≠Y j):At Y ds b':=⟨h.inj,λ{j o} O=>by have hl:=af O;rw[f.kp _ (h.lt hl) λi hi=>U i j hi hl];exact h.get O⟩
def Sb.apart{n n':Nat}(s:Sb M n b Ha n')(U:∀i j,i<n->j<m->M i≠Y j)(hl:∀j,j<m->Y j<b.length):∀i j,i<n'->j<m->Ha i≠Y j:=λi j hi O e=>by
 rcases s i hi with ⟨k,W,h⟩|h
 .exact U k j W O (h.symm.trans e)
 .have:=hl j O;lia
end
section
variable{pt:Pt}{ft:FM Bool}{fe:Fg}{D:Sl}{ch:CH}{α:Type}
theorem aM{f g:α->Dt}:∀{l:B α},(∀x∈l,∃O,Hq pt (f x) D=Z O/\ft O ch=Z (C,ch)/\fe O ch=Z (.g (g x),ch))->aF (Hq pt) ft fe D (l.map f) ch=Z (l.map λx=>.g (g x),ch)
 |[],_=>rfl
 |x::l,h=>by
  have⟨O,h1,h2,h3⟩:=h x Ξ;have U:=aM (l:=l) λy W=>h y (by simp[W])
  rwa[Hz,aF,h1,G8,h2,if_true,h3,CV.sol,U,Iy]
theorem cb{f g:α->Dt}{p:α->Bool}:∀{l:B α},(∀x∈l,∃O,Hq pt (f x) D=Z O/\ft O ch=Z (p x,ch)/\(p x=C->fe O ch=Z (.g (g x),ch)))->aF (Hq pt) ft fe D (l.map f) ch=Z ((l.filter p).map λx=>.g (g x),ch)
 |[],_=>rfl
 |x::l,h=>by
  have⟨O,h1,h2,h3⟩:=h x Ξ;have U:=cb (l:=l) λy W=>h y (by simp[W])
  cases hp:p x with
  |true=>rwa[Hz,aF,h1,G8,h2,hp,if_true,h3 hp,CV.sol,U,Iy,za1 hp]
  |false=>have:List.filter p (x::l)=List.filter p l:=za2 (by simp[hp]);rwa[Hz,aF,h1,G8,h2,hp,Ou,if_false,U,this]
theorem pV{f:α->Dt}{P:Dt->Prop}:∀{l:B α},(∀x∈l,∃O d,Hq pt (f x) D=Z O/\ft O ch=Z (C,ch)/\fe O ch=Z (.g d,ch)/\P d)->∃ds:B Dt,aF (Hq pt) ft fe D (l.map f) ch=Z (ds.map .g,ch)/\(∀d∈ds,P d)/\ds.length=l.length
 |[],_=>⟨[],rfl,Ξ,rfl⟩
 |x::l,h=>by
  have⟨O,d,h1,h2,h3,hp⟩:=h x Ξ;have⟨ds,h4,h5,U⟩:=pV (l:=l) λy W=>h y (by simp[W])
  exact⟨d::ds,by rwa[Hz,aF,h1,G8,h2,if_true,h3,CV.sol,h4,Iy],‹⟨hp,h5⟩›,by simp[U]⟩
theorem dg{β γ:Type}{f:α->Dt}{g:β->Dt}{h:β->γ}{h':α->γ}{Q:β->Prop}:∀{l:B α},(∀x∈l,∃O y,Hq pt (f x) D=Z O/\ft O ch=Z (C,ch)/\fe O ch=Z (.g (g y),ch)/\Q y/\h y=h' x)->∃ys:B β,aF (Hq pt) ft fe D (l.map f) ch=Z ((ys.map g).map .g,ch)/\(∀y∈ys,Q y)/\ys.map h=l.map h'
 |[],_=>⟨[],rfl,Ξ,rfl⟩
 |x::l,U=>by
  have⟨O,y,h1,h2,h3,W,hh⟩:=U x Ξ;have⟨ys,h4,h5,h6⟩:=dg (l:=l) λz hz=>U z (by simp[hz])
  exact⟨y::ys,by rwa[Hz,aF,h1,G8,h2,if_true,h3,CV.sol,h4,Iy],λz hz=>by rcases IE.mp hz with rfl|hz;exact W;exact h5 z hz,by simp[hh,h6]⟩
def vM{g:α->Dt}{l:B α}:dats (l.map λx=>.g (g x))=Z (l.map g):=by
 have:(l.map λx=>CV.g (g x))=(l.map g).map .g:=by simp
 rw[this,cg]
def dh{m:Md}{g:α->Dt}{l:B α}:finL m (l.map λx=>.g (g x)) ch=fin m ch (.e (l.map g)):=by unfold finL;rw[vM]
end
variable{ds:B Dt}{MD:Sl}{fe:Fg}
section
variable{m:Md}{g:Dt->Dt->ζ T}{fa fb f:Fg}{D Hi:Sl}{ch ch1 ch2:CH}{x y c:CV}{dx dy:Dt}{t:T}{g1 g2:Fs}{o:Og}{i n:Nat}
def pW(W:fa D ch=Z (x,ch1))(hb:fb D ch1=Z (y,ch2))(O:vw ch2 x=Z dx)(hy:vw ch2 y=Z dy)(U:g dx dy=Z t):e2 m g fa fb D ch=fin m ch2 t:=by unfold e2;rw[W,G8,hb,G8];dsimp only;rw[O,G8,hy,G8,U];rfl
def zt{a b:B Dt}(h:a.length+b.length<=G6):Hs.g (.e a) (.e b)=Z (.e (a++b)):=by show Jh c5 ig _ _=_;unfold Jh c5;rwa[h,if_true]
def dX(h:f D ch=Z (c,ch1))(O:c.kp=C):ja i f D ch=Z (.nx (D.set i (Z c)) ch1):=by unfold ja;rw[h,G8];dsimp only;rw[if_pos O]
def jS(h:f D ch=Z (c,ch1))(O:c.sol=C):Rj f D ch=Z (.rt c ch1):=by unfold Rj;rw[h,G8];dsimp only;rw[if_pos O]
def bc(h1:g1 D ch=Z (.nx Hi ch1))(h2:g2 Hi ch1=Z o):i9 g1 g2 D ch=Z o:=by unfold i9;rw[h1];exact h2
def jT(h1:g1 D ch=Z (.rt c ch1)):i9 g1 g2 D ch=Z (.rt c ch1):=by unfold i9;rw[h1];rfl
def Dv{pt:Pt}{g:Fs}{d:Dt}{r:B Dt}(h1:Hq pt d D=Z Hi)(h2:g Hi ch=Z (.rt c ch1)):bJ (Hq pt) g (d::r) D ch=Z (.rt c ch1):=by show(Hq pt d D).bind _=_;rw[h1,G8,h2];rfl
def aY{pt:Pt}{g:Fs}{d:Dt}{r:B Dt}{Oe:Sl}(h1:Hq pt d D=Z Hi)(h2:g Hi ch=Z (.nx Oe ch1)):bJ (Hq pt) g (d::r) D ch=bJ (Hq pt) g r Oe ch1:=by show(Hq pt d D).bind _=_;rw[h1,G8,h2];rfl
def ay{pt:Pt}{g:Fs}(h1:fi D ch=Z (ds,ch1))(h2:bJ (Hq pt) g ds D ch1=Z o):rT fi (Hq pt) g D ch=Z o:=by unfold rT;rw[h1];exact h2
def rng1{j:Int}(h:cM j=C):Qh 1 [j]=Z (au 0 j.toNat):=by rwa[Qh,h,if_true]
def vN{fs:FM (B CV)}{j:Int}(h:fs D ch=Z ([.g (.int j)],ch1))(hb:cM j=C):iR 1 fs D ch=Z (au 0 j.toNat,ch1):=by unfold iR;rw[h];rwa[G8,gr,Iy,rng1 hb]
def di{fs:FM (B CV)}(h:fs D ch=Z ([.g (.int j)],ch1))(hb:cM (j:Int)=C):iR 1 fs D ch=Z (au 0 j,ch1):=by have e:=vN h hb;rw[Ow]at e;exact e
def Dw{g:Dt->B Dt->ζ T}{fs:FM (B CV)}{s:Str}{d:Dt}(O:fa D ch=Z (.g (.str s),ch))(hs:fs D ch=Z ([.g d],ch))(U:g (.str s) [d]=Z t):Rq m g fa fs D ch=fin m ch t:=by unfold Rq;rw[O,G8];dsimp only;rw[hs,G8];show(g (.str s) [d]).bind _=_;rw[U];rfl
def cw(h:f D ch=Z (c,ch1)):G3 f He D ch=Z ([c],ch1):=by unfold G3;rw[h];rfl
def bh{pt:Pt}{ft:FM Bool}{es:B Dt}(hi:fi D ch=Z (ds,ch))(O:gC src D=MD)(h:aF (Hq pt) ft fe MD ds ch=Z (es.map .g,ch))(hl:es.length<=G6):Jj .v src fi (Hq pt) ft fe D ch=Z (.g (.e es),ch):=by unfold Jj;rw[hi,G8,O];dsimp only;rw[h,G8];dsimp only;rw[if_pos (by rw[HN];exact hl)];unfold finL;rw[cg];rfl
def f7{g:Fs}(h:g (cs.map Z++I0 (n-cs.length) J) ch=Z (.rt c ch1)):cQ n g cs ch=Z (c,ch1):=by unfold cQ;rw[h]
def Dx{g:Fs}(h:g (cs.map Z++I0 (n-cs.length) J) ch=Z (.nx Hi ch1)):cQ n g cs ch=Z (.g .ek,ch1):=by unfold cQ;rw[h]
end
variable{YZ:CH}
section
variable{F:Fd}{M Hh IF:Nat->Nat}{cs b b1 b2:CH}{args:B CV}{d:Dt}{n n1 n2:Nat}
def At.pure(hF:K5 F)(h:At M cs b)(hc:Cl cs)(ha:args.all (Kr cs.length)=C)(W:F args cs=Z (.g d,cs)):F (Jf M args) b=Z (.g d,b):=by
 have⟨b',h1,E,K⟩:=h.go hF hc ha W;have U:=E.nw 0;have e0:Kf M cs.length b.length (cs.length+0)=b.length+0:=by unfold Kf;rw[if_neg Θ];lia
 rw[e0]at U
 have:b'=b:=by
  refine QG λj=>?_
  by_cases O:∃i,Kf M cs.length b.length i=j
  .have⟨i,rfl⟩:=O;rcases MM i cs.length with hi|hi
   .rw[E.get (gQ hi),(h.em hc).get (gQ hi)]
   .have:Kf M cs.length b.length i=b.length+(i-cs.length):=if_neg Θ;rw[this,Oy Θ,Oy Θ]
  .exact K j λi e=>O ⟨i,e⟩
 rw[this]at h1;exact h1
def Fr.trans(f:Fr M n b b1)(s:Sb M n b Hh n1)(g:Fr Hh n1 b1 b2):Fr M n b b2:=⟨JS f.le g.le,λj O hi=>by
 rw[g.kp j (KG O f.le) λi h e=>?_,f.kp j O hi];rcases s i h with ⟨k,U,q⟩|q
 .exact hi k U (q.symm.trans e)
 .lia⟩
def Sb.trans(f:Fr M n b b1)(s:Sb M n b Hh n1)(t:Sb Hh n1 b1 IF n2):Sb M n b IF n2:=λi hi=>by
 rcases t i hi with ⟨k,O,q⟩|q
 .rw[q];exact s k O
 .exact .inr (JS f.le q)
structure Mv(M:Nat->Nat)(cs b:CH)(Ha:Nat->Nat)(Nr b':CH):Prop where
 at_:At Ha Nr b'
 zero:Ha 0=M 0
 fr:Fr M cs.length b b'
 sb:Sb M cs.length b Ha Nr.length
def Mv.trans{O:CH}(h:Mv M cs b Hh YZ b1)(k:Mv Hh YZ b1 IF O b2):Mv M cs b IF O b2:=⟨k.at_,k.zero.trans h.zero,h.fr.trans h.sb k.fr,h.sb.trans h.fr k.sb⟩
def Rn.mv(r:Rn F args cs d YZ)(h:At M cs b):∃ Ha b',F (Jf M args) b=Z (.g d,b')/\Mv M cs b Ha YZ b':=let ⟨Ha,b',h1,h2,h3,h4,h5⟩:=r M b h;⟨Ha,b',h1,h2,h3,h4,h5⟩
end
section
variable{F:Fd}{ch a a':CH}{args:B CV}{x:CV}
def lw:Em (ch.length + ·) a (ch++a.map (Ho (ch.length + ·))):=by refine⟨λi j h=>Nat.add_left_cancel h,λ{i o} h=>?_,λk=>by simp;lia⟩;rw[gR Θ,P8,HZ,h];rfl
def zu(E:Em (ch.length + ·) a' b')(K:Kp (ch.length + ·) (ch++a.map (Ho (ch.length + ·))) b'):b'=ch++a'.map (Ho (ch.length + ·)):=by
 have hl:ch.length+(a'.length+0)=b'.length+0:=E.nw 0;refine QG λj=>?_
 rcases MM j ch.length with O|O
 .rw[K j λi e=>by have e:ch.length+i=j:=e;lia,gL O,gL O]
 .have⟨i,rfl⟩:=Nat.exists_eq_add_of_le O;rw[gR Θ,P8,HZ];rcases MM i a'.length with hi|hi
  .rw[gQ hi];exact E.get (gQ hi)
  .rw[Oy hi,Oy Θ];rfl
def K5.tail(O:K5 F)(h:F args a=Z (x,a')):F (Jf (ch.length + ·) args) (ch++a.map (Ho (ch.length + ·)))=Z (rn (ch.length + ·) x,ch++a'.map (Ho (ch.length + ·))):=by have⟨b',h1,E,K⟩:=O lw h;rw[h1,zu E K]
def gJ{c n:Nat}{fs:FM (B CV)}(W:K5 F)(hs:fs D ch=Z (ds.map .g,ch))(U:n=ds.length+1)(h:F (.ref 0::ds.map .g) [.ins c []]=Z (.g .ek,a'))(hl:0<a'.length):MB c n F fs D ch=Z (.ref ch.length,ch++a'.map (Ho (ch.length + ·))):=by
 have e:=W.tail (ch:=ch) h;have O:Jf (ch.length + ·) (.ref 0::ds.map .g)=.ref ch.length::ds.map .g:=by simp[rn,IJ]
 have e2:ch++[CO.ins c []].map (Ho (ch.length + ·))=ch++[.ins c []]:=rfl;rw[O,e2]at e;unfold MB Kc;rw[hs,G8];dsimp only;rw[if_pos ⟨by simp[U],by simp[CV.old]⟩,e,G8];rwa[rn];rw[if_pos (by simp;lia)]
end
inductive An where
 |v (n:Nat) (x:CV×CH)|o (n:Nat) (x:Og)|t (n:Nat) (x:T)|c (n:Nat) (x:CV)|p (n:Nat) (x:CO)|d (n:Nat) (x:Dt)|h (n:Nat) (x:CO)
abbrev Qs:=B An×B Prop
def All:B Prop->Prop
 |[]=>True
 |p::l=>p/\All l
noncomputable def kK{α:Type}(f:An->ζ (Nat×α))(m:Nat->α->An)(v:ζ α):Qs->ζ (α×Qs)
 |(a::g,L)=>(match f a with
  |some (0,x)=>Z (x,g,(v=Z x)::L)
  |some (n+1,x)=>v.map λy=>(y,m n x::g,L)
  |none=>v.map λy=>(y,a::g,L))
 |s=>v.map λy=>(y,s)
def cz{α:Type}{f:An->ζ (Nat×α)}{m:Nat->α->An}{v:ζ α}{s s':Qs}{r:α}(h:kK f m v s=Z (r,s'))(a:All s'.2):v=Z r/\All s.2:=by
 obtain⟨_|⟨x,g⟩,L⟩:=s
 .have⟨y,h1,h2⟩:=mS h;cases h2;exact⟨h1,a⟩
 .unfold kK at h;dsimp only at h;split at h
  .cases h;exact a
  .have⟨y,h1,h2⟩:=mS h;cases h2;exact⟨h1,a⟩
  .have⟨y,h1,h2⟩:=mS h;cases h2;exact⟨h1,a⟩
abbrev kA:=kK (λa=>match a with|.v n x=>Z (n,x)|_=>J) An.v
abbrev kO:=kK (λa=>match a with|.o n x=>Z (n,x)|_=>J) An.o
abbrev kT:=kK (λa=>match a with|.t n x=>Z (n,x)|_=>J) An.t
abbrev kC:=kK (λa=>match a with|.c n x=>Z (n,x)|_=>J) An.c
abbrev kD:=kK (λa=>match a with|.d n x=>Z (n,x)|_=>J) An.d
abbrev kH:=kK (λa=>match a with|.h n x=>Z (n,x)|_=>J) An.h
abbrev kP:=kK (λa=>match a with|.p n x=>Z (n,x)|_=>J) An.p
abbrev QM(α:Type):=Sl->CH->Qs->ζ ((α×CH)×Qs)
def IR{α:Type}(x:QM α)(f:FM α):Prop:=∀ D ch s r s',x D ch s=Z (r,s')->All s'.2->f D ch=Z r/\All s.2
def Sns(x:Sl->CH->Qs->ζ (Og×Qs))(f:Fs):Prop:=∀ D ch s r s',x D ch s=Z (r,s')->All s'.2->f D ch=Z r/\All s.2
noncomputable def qP{α:Type}(f:FM α):QM α:=λD ch s=>(f D ch).map λy=>(y,s)
def qW(f:Fg):QM CV:=λD ch s=>kA (f D ch) s
def qT(v:CH->ζ T)(m:Md):QM CV:=λ_ ch s=>(kT (v ch) s).bind λp=>(fin m ch p.1).map λy=>(y,p.2)
def qC(v:CH->ζ CV):QM CV:=λ_ ch s=>(kC (v ch) s).map λp=>((p.1,ch),p.2)
def IR.to{α:Type}{x:QM α}{f g:FM α}(h:IR x f)(e:f=g):IR x g:=e▸h
def IR.p{α:Type}{f:FM α}:IR (qP f) f:=λ_ _ _ _ _ h a=>by have⟨y,h1,h2⟩:=mS h;cases h2;exact⟨h1,a⟩
def IR.w{f:Fg}:IR (qW f) f:=λ_ _ _ _ _ h a=>cz h a
def IR.t{v:CH->ζ T}{m:Md}:IR (qT v m) (λ_ ch=>(v ch).bind (fin m ch)):=λD ch s r s' h a=>by have⟨p,h1,h⟩:=bS h;have⟨y,h2,h⟩:=mS h;cases h;have⟨U,O⟩:=cz h1 a;exact⟨by show(v ch).bind _=_;rw[U];exact h2,O⟩
def IR.c{v:CH->ζ CV}:IR (qC v) (λ_ ch=>(v ch).map λc=>(c,ch)):=λD ch s r s' h a=>by have⟨p,h1,h⟩:=mS h;cases h;have⟨U,O⟩:=cz h1 a;exact⟨by show(v ch).map _=_;rw[U];rfl,O⟩
def qV{α:Type}(c:CV)(k:Dt->QM α):QM α:=λD ch s=>(match c with
 |.ref i=>(kD (vw ch (.ref i)) s).bind λp=>k p.1 D ch p.2
 |c=>(vw ch c).bind λd=>k d D ch s)
def IR.vw{α:Type}{c:CV}{k:Dt->QM α}{j:Dt->FM α}(h:∀d,IR (k d) (j d)):IR (qV c k) (λD ch=>(vw ch c).bind λd=>j d D ch):=λD ch s r s' e a=>by
 unfold qV at e;split at e
 .have⟨d,h1,h2⟩:=bS e;have⟨U,O⟩:=h _ _ _ _ _ _ h2 a;have⟨W,i4⟩:=cz h1 O;exact⟨by show(L2.vw ch _).bind _=_;rw[W];exact U,i4⟩
 .have⟨d,h1,h2⟩:=bS e;have⟨U,O⟩:=h d _ _ _ _ _ h2 a;exact⟨by show(L2.vw ch _).bind _=_;rw[h1];exact U,O⟩
def qVs{α:Type}:B CV->(B Dt->QM α)->QM α
 |[],k=>k []
 |c::cs,k=>qV c λd=>qVs cs λds=>k (d::ds)
theorem IR.vws{α:Type}:∀{cs:B CV}{k:B Dt->QM α}{j:B Dt->FM α},(∀d,IR (k d) (j d))->IR (qVs cs k) (λD ch=>(vws ch cs).bind λd=>j d D ch)
 |[],k,j,h=>(h []).to rfl
 | c::cs,k,j,h=>(IR.vw (j:=λd=>_) λd=>IR.vws (cs:=cs) (j:=λds=>j (d::ds)) λds=>h (d::ds)).to (by
     funext D ch;show _=((L2.vw ch c).bind λd=>(L2.vws ch cs).map (d::·)).bind _;cases L2.vw ch c with
     |none=>rfl
     |some d=>cases L2.vws ch cs<;>rfl)
noncomputable def qB{α β:Type}(x:QM α)(k:α->QM β):QM β:=λD ch s=>(x D ch s).bind λp=>k p.1.1 D p.1.2 p.2
def IR.b{α β:Type}{x:QM α}{f:FM α}{k:α->QM β}{j:α->FM β}(h:IR x f)(hk:∀c,IR (k c) (j c)):IR (qB x k) (λD ch=>(f D ch).bind λp=>j p.1 D p.2):=λD ch s r s' e a=>by have⟨p,h1,h2⟩:=bS e;have⟨W,U⟩:=hk _ _ _ _ _ _ h2 a;have⟨O,i4⟩:=h _ _ _ _ _ h1 U;exact⟨by show(f D ch).bind _=_;rw[O];exact W,i4⟩
omit x in
def IR.i{α:Type}{c:Prop}[Decidable c]{x:QM α}{f:FM α}(h:c->IR x f):IR (λD ch s=>if c then x D ch s else J) (λD ch=>if c then f D ch else J):=λD ch s r s' e a=>by
 split at e
 .rename_i q;have⟨O,U⟩:=h q _ _ _ _ _ e a;exact⟨by show(if c then _ else _)=_;rw[if_pos q];exact O,U⟩
 .cases e
def Y0(x:QM (B CV))(f:FM (B CV)):ζ En->QM CV
 |some (.fn _ n F)=>qB x λcs=>λD ch s=>if cs.length=n/\cs.all CV.old=C then qW (λ_ ch=>F cs ch) D ch s else J
 |o=>qW (Rv f o)
def Y1(x:QM CV)(f:Fg)(y:QM (B CV))(g:FM (B CV)):ζ En->QM CV
 | some (.me c _ n F)=>qB x λx=>λD ch s=>(match x with
     |.ref i=>(kH ch[i]? s).bind λp=>(match p.1 with
      |.ins O _=>if O=c then qB y (λcs=>λD ch s=>if(CV.ref i::cs).length=n/\(CV.ref i::cs).all CV.old=C then qW (λ_ ch=>F (.ref i::cs) ch) D ch s else J) D ch p.2 else J
      |_=>J)
     |_=>J)
 |o=>qW (Rx f g o)
mutual
def xE(tb:Tb):E->QM CV
 |.b2 o m a b=>qB (xE tb a) λc=>qB (xE tb b) λd=>qV c λx=>qV d λy=>qT (λ_=>o.g x y) m
 |.cd t a b=>qB (xT tb t) λc=>if c then xE tb a else xE tb b
 |.bn o m as=>qB (xA tb as) λcs=>qVs cs λds=>qT (λ_=>o.g ds) m
 |.ii c a=>qB (xE tb a) λd=>qP λ_ ch=>(vw ch d).bind λd=>Z (.g (.bl (c9 c d)),ch)
 |.gt a k e=>qB (xE tb a) λx=>λD ch s=>if im ch x then qB (xE tb k) (λy=>qB (xE tb e) λz=>qV y λk=>λD ch s=>if z.sol then qC (λch=>getV ch x k z) D ch s else J) D ch s else J
 |.an a b=>qB (xE tb a) λc=>λD ch s=>(eQ c).bind λw=>if w then xE tb b D ch s else Z ((.g (.bl ξ),ch),s)
 |.ca j as=>Y0 (xA tb as) (II tb as) tb.f[j]?
 |.me j o as=>Y1 (xE tb o) (G4 tb o) (xA tb as) (II tb as) tb.f[j]?
 |.at c f o=>qB (xE tb o) λx=>λD ch s=>(match x with
  |.ref i=>(kH ch[i]? s).bind λp=>(match p.1 with
   |.ins c' l=>if c'=c then(l[f]?).map λx=>((x,ch),p.2)else J
   |_=>J)
  |_=>J)
 |.ix a b=>qB (xE tb a) λc=>qB (xE tb b) λd=>qV d λd=>qC λch=>ixV ch c d
 |.ls m as=>qB (xA tb as) λcs=>qP λ_ ch=>if cs.length<=G6 then finL m cs ch else J
 |.tu as=>qB (xA tb as) λcs=>qP λ_ ch=>if cs.length<=G6 then(match dats cs with
  |some ds=>Z (.g (.t ds),ch)
  |none=>if cs.all CV.sol then Z (.ref ch.length,ch++[.t cs])else J)else J
 |.k d=>qP (eK d)
 |.v i=>qP (eV i)
 |.g j=>qP (G4 tb (.g j))
 |e=>qW (G4 tb e)
def xT(tb:Tb):E->QM Bool
 |.tr (.b2 o m a b)=>qB (qB (xE tb a) λc=>qB (xE tb b) λd=>qV c λx=>qV d λy=>qT (λ_=>o.g x y) m) λc=>qP λ_ ch=>(eQ c).map λb=>(b,ch)
 |.tr a=>qB (xE tb a) λc=>qP λ_ ch=>(vw ch c).bind λd=>(rG d).map λb=>(b,ch)
 |.tn a=>qB (xT tb a) λb=>qP λ_ ch=>Z (!b,ch)
 |.ta a b=>qB (xT tb a) λc=>if c then xT tb b else qP λ_ ch=>Z (ξ,ch)
 |.to a b=>qB (xT tb a) λc=>if c then qP (λ_ ch=>Z (C,ch))else xT tb b
 |e=>qP (IX tb e)
def xA(tb:Tb):E->QM (B CV)
 |.nil=>qP He
 |.cons a as=>qB (xE tb a) λc=>qB (xA tb as) λcs=>qP λ_ ch=>Z (c::cs,ch)
 |e=>qP (II tb e)
end
def IR.f{α:Type}{x:QM Bool}{c:FM Bool}{y z:QM α}{f g:FM α}(h:IR x c)(hy:IR y f)(hz:IR z g):IR (qB x λb=>if b then y else z) (λD ch=>(c D ch).bind λp=>if p.1 then f D p.2 else g D p.2):=λD ch s r s' e al=>by
 have⟨⟨⟨b,ch1⟩,s1⟩,h1,e⟩:=bS e;cases b with
 |true=>have⟨W,U⟩:=hy _ _ _ _ _ e al;have⟨O,i4⟩:=h _ _ _ _ _ h1 U;exact⟨by show(c D ch).bind _=_;rw[O];exact W,i4⟩
 |false=>have⟨W,U⟩:=hz _ _ _ _ _ e al;have⟨O,i4⟩:=h _ _ _ _ _ h1 U;exact⟨by show(c D ch).bind _=_;rw[O];exact W,i4⟩
def Y0.ok{x:QM (B CV)}{f:FM (B CV)}(h:IR x f)(o:ζ En):IR (Y0 x f o) (Rv f o):=by
 cases o with
 |none=>exact .w
 |some q=>cases q<;>first|exact h.b (j:=λcs=>Kc _ _ cs) λcs=>.i λ_=>.w|exact .w
omit x in
def Y1.ok{x:QM CV}{f:Fg}{y:QM (B CV)}{g:FM (B CV)}(hx:IR x f)(hy:IR y g)(o:ζ En):IR (Y1 x f y g o) (Rx f g o):=by
 cases o with
 |none=>exact .w
 |some q=>
  cases q<;>first|exact .w|skip
  rename_i c m n F;intro D ch s r s' e al;have⟨⟨⟨x,ch1⟩,s1⟩,h1,e⟩:=bS e;dsimp only at e;split at e
  .rename_i i;have⟨⟨o1,s2⟩,g1,e⟩:=bS e;dsimp only at e;split at e
   .split at e
    .rename_i hc;have⟨W,O⟩:=(hy.b (j:=λcs=>Kc n F (.ref i::cs)) λcs=>.i λ_=>.w) _ _ _ _ _ e al;have⟨g2,O⟩:=cz g1 O;have⟨U,i4⟩:=hx _ _ _ _ _ h1 O;refine⟨?_,i4⟩;show K4 c n F f g D ch=_;unfold K4;rw[U,G8];dsimp only;rw[g2];dsimp only;rw[if_pos hc];exact W
    .cases e
   .cases e
  .cases e
omit x in
def dY(tb:Tb)(e:E):IR (xE tb e) (G4 tb e)/\IR (xT tb e) (IX tb e)/\IR (xA tb e) (II tb e):=by
 induction e with
 |b2 o m a b O hb=>exact⟨(O.1).b (j:=λc=>_) λc=>(hb.1).b (j:=λd=>_) λd=>.vw (j:=λx=>_) λx=>.vw (j:=λy=>_) λy=>.t,.p,.p⟩
 |cd t a b ht O hb=>exact⟨ht.2.1.f O.1 hb.1,.p,.p⟩
 |bn o m as h=>exact⟨(h.2.2).b (j:=λcs=>kB m o.g cs) λcs=>.vws (j:=λds=>_) λds=>.t,.p,.p⟩
 |ii c a h=>exact⟨(h.1).b (j:=λc=>_) λc=>.p,.p,.p⟩
 |gt a k e O hk he=>
  refine⟨(O.1).b (j:=λx D ch=>if im ch x then(G4 tb k D ch).bind λq=>(G4 tb e D q.2).bind λr=>(vw r.2 q.1).bind λk=>if r.1.sol then(getV r.2 x k r.1).map λc=>(c,r.2)else J else J) λx D ch s r s' h al=>?_,.p,.p⟩;split at h
  .rename_i q;have⟨i1,W⟩:=((hk.1).b (j:=λy=>_) λy=>(he.1).b (j:=λz=>_) λz=>.vw (j:=λk=>_) λk=>.i λ_=>.c) _ _ _ _ _ h al;exact⟨by dsimp only;rw[if_pos q];exact i1,W⟩
  .cases h
 |an a b O hb=>
  refine⟨?_,.p,.p⟩;intro D ch s r s' e al;have⟨⟨⟨c,ch1⟩,s1⟩,h1,e⟩:=bS e;have⟨w,h2,e⟩:=bS e;cases w with
  |true=>have⟨i1,W⟩:=hb.1 _ _ _ _ _ e al;have⟨U,i4⟩:=O.1 _ _ _ _ _ h1 W;exact⟨by show(G4 tb a D ch).bind _=_;rw[U,G8];show(eQ c).bind _=_;rw[h2];exact i1,i4⟩
  |false=>cases e;have⟨U,i4⟩:=O.1 _ _ _ _ _ h1 al;exact⟨by show(G4 tb a D ch).bind _=_;rw[U,G8];show(eQ c).bind _=_;rw[h2];rfl,i4⟩
 |ca j as h=>exact⟨Y0.ok h.2.2 _,.p,.p⟩
 |me j o as ho h=>exact⟨Y1.ok ho.1 h.2.2 _,.p,.p⟩
 |«at» c f o h=>
  refine⟨?_,.p,.p⟩;intro D ch s r s' e al;have⟨⟨⟨x,ch1⟩,s1⟩,h1,e⟩:=bS e;dsimp only at e;split at e
  .have⟨⟨o1,s2⟩,g1,e⟩:=bS e;dsimp only at e;split at e
   .split at e
    .rename_i hc;have⟨y,g2,e⟩:=mS e;cases e;have⟨g3,g4⟩:=cz g1 al;have⟨U,i4⟩:=h.1 _ _ _ _ _ h1 g4;refine⟨?_,i4⟩;show(G4 tb o D ch).bind _=_;rw[U,G8];dsimp only;rw[g3];dsimp only;rw[if_pos hc,g2];rfl
    .cases e
   .cases e
  .cases e
 |ix a b O hb=>exact⟨(O.1).b (j:=λc=>_) λc=>(hb.1).b (j:=λd=>_) λd=>.vw (j:=λd=>_) λd=>.c,.p,.p⟩
 |ls m as h=>exact⟨(h.2.2).b (j:=λcs=>_) λcs=>.p,.p,.p⟩
 |tu as h=>exact⟨(h.2.2).b (j:=λcs=>_) λcs=>.p,.p,.p⟩
 |tr a h=>refine⟨.w,?_,.p⟩;cases a<;>first|exact(h.1).b (j:=λc _ ch=>(vw ch c).bind λd=>(rG d).map λb=>(b,ch)) λc=>.p|exact(h.1).b (j:=λc _ ch=>(eQ c).map λb=>(b,ch)) λc=>.p
 |tn a h=>exact⟨.w,λD ch s r s' e al=>by have⟨p,h1,h2⟩:=bS e;cases h2;have⟨i1,W⟩:=h.2.1 _ _ _ _ _ h1 al;exact⟨by show(IX tb a D ch).map _=_;rw[i1];rfl,W⟩,.p⟩
 |ta a b O hb=>exact⟨.w,O.2.1.f hb.2.1 .p,.p⟩
 |to a b O hb=>exact⟨.w,O.2.1.f .p hb.2.1,.p⟩
 |nil=>exact⟨.w,.p,.p⟩
 |cons a as O h=>exact⟨.w,.p,λD ch s r s' e al=>by have⟨p,h1,e⟩:=bS e;have⟨q,h2,e⟩:=bS e;cases e;have⟨i1,W⟩:=h.2.2 _ _ _ _ _ h2 al;have⟨U,i4⟩:=O.1 _ _ _ _ _ h1 W;exact⟨by show(G4 tb a D ch).bind _=_;rw[U,G8,i1];rfl,i4⟩⟩
 |k d=>exact⟨.p,.p,.p⟩
 |v i=>exact⟨.p,.p,.p⟩
 |g j=>exact⟨.p,.p,.p⟩
 |_=>exact⟨.w,.p,.p⟩
noncomputable def sB(x y:Sl->CH->Qs->ζ (Og×Qs)):Sl->CH->Qs->ζ (Og×Qs):=λD ch s=>(x D ch s).bind λp=>match p.1 with
 |.nx Hi G0=>y Hi G0 p.2
 |o=>Z (o,p.2)
noncomputable def sA{α:Type}(x:QM α)(k:α->Sl->CH->ζ Og):Sl->CH->Qs->ζ (Og×Qs):=λD ch s=>(x D ch s).bind λp=>(k p.1.1 D p.1.2).map λo=>(o,p.2)
def sK{α:Type}(x:QM α)(k:α->Sl->CH->ζ Og):Sl->CH->Qs->ζ (Og×Qs):=λD ch s=>(x D ch s).bind λp=>kO (k p.1.1 D p.1.2) p.2
def qqBq(x y:QM CV):QM (CV×CV):=qB x λc=>qB y λd=>qP λ_ ch=>Z ((c,d),ch)
def S0(l:B CV)(c:CV):ζ CO:=if l.length<G6/\c.sol=C then Z (.e (l++[c]))else J
def isL:CO->ζ (B CV)
 |.e l=>Z l
 |_=>J
def vO{i:Nat}{o:CO}{l:B CV}(h:ch[i]?=Z o)(k:isL o=Z l):cO ch i=Z l:=by unfold cO;rw[h];cases o<;>first|(cases k;done)|exact k
def xS(tb:Tb):S->Sl->CH->Qs->ζ (Og×Qs)
 |.nil=>λD ch s=>Z (.nx D ch,s)
 |.sq a b=>sB (xS tb a) (xS tb b)
 |.set i e=>sA (xE tb e) λc D ch=>if c.kp then Z (.nx (D.set i (Z c)) ch)else J
 |.rt e=>sA (xE tb e) λc _ ch=>if c.sol then Z (.rt c ch)else J
 |.rn=>λ_ ch s=>Z (.rt (.g .ek) ch,s)
 |.dr e=>sA (xE tb e) λ_ D ch=>Z (.nx D ch)
 |.cd c a b=>λD ch s=>(xT tb c D ch s).bind λp=>if p.1.1 then xS tb a D p.1.2 p.2 else xS tb b D p.1.2 p.2
 |.fl c f o e=>sA (qqBq (xE tb e) (xE tb o)) λp D ch=>(match p.2 with
  |.ref i=>((ch[i]?).bind λo=>ip c f o p.1).map λo'=>.nx D (ch.set i o')
  |_=>J)
 |.put a k e=>λD ch s=>(qB (xE tb e) (λv=>qB (xE tb a) λo=>qB (xE tb k) λw=>qP λ_ ch=>Z ((v,o,w),ch)) D ch s).bind λq=>(match q.1.1.2.1 with
  |.ref i=>if q.1.1.1.sol then(vw q.1.2 q.1.1.2.2).bind λd=>(kH q.1.2[i]? q.2).bind λo=>(kP (bR o.1 d q.1.1.1) o.2).map λr=>(.nx D (q.1.2.set i r.1),r.2)else J
  |_=>J)
 |.ap a e=>λD ch s=>(xE tb a D ch s).bind λp=>(xE tb e D p.1.2 p.2).bind λq=>(match p.1.1 with
  |.ref i=>(kH p.1.2[i]? q.2).bind λo=>(kH q.1.2[i]? o.2).bind λO=>(isL o.1).bind λ_=>(isL O.1).bind λl=>(kP (S0 l q.1.1) O.2).map λr=>(.nx D (q.1.2.set i r.1),r.2)
  |_=>J)
 |.OX i e=>sK (xE tb e) λc D ch=>Py i (λ_ ch=>Z (c,ch)) D ch
 |s=>λD ch q=>kO (HL tb s D ch) q
omit x in
def vP(tb:Tb)(s:S):Sns (xS tb s) (HL tb s):=by
 induction s with
 |nil=>intro D ch s r s' e al;cases e;exact⟨rfl,al⟩
 |sq a b ha hb=>
  intro D ch s r s' e al;have⟨⟨o,s1⟩,h1,e⟩:=bS e;cases o with
  |nx OT ch1=>have⟨i1,W⟩:=hb _ _ _ _ _ e al;have⟨O,U⟩:=ha _ _ _ _ _ h1 W;exact⟨by show(HL tb a D ch).bind _=_;rw[O];exact i1,U⟩
  |_=>cases e;have⟨O,U⟩:=ha _ _ _ _ _ h1 al;exact⟨by show(HL tb a D ch).bind _=_;rw[O];rfl,U⟩
 |set i e=>intro D ch s r s' h al;have⟨p,h1,h⟩:=bS h;have⟨o,h2,h⟩:=mS h;cases h;have⟨O,U⟩:=(dY tb e).1 _ _ _ _ _ h1 al;exact⟨by show(G4 tb e D ch).bind _=_;rw[O];exact h2,U⟩
 |rt e=>intro D ch s r s' h al;have⟨p,h1,h⟩:=bS h;have⟨o,h2,h⟩:=mS h;cases h;have⟨O,U⟩:=(dY tb e).1 _ _ _ _ _ h1 al;exact⟨by show(G4 tb e D ch).bind _=_;rw[O];exact h2,U⟩
 |rn=>intro D ch s r s' e al;cases e;exact⟨rfl,al⟩
 |dr e=>intro D ch s r s' h al;have⟨p,h1,h⟩:=bS h;cases h;have⟨O,U⟩:=(dY tb e).1 _ _ _ _ _ h1 al;exact⟨by show(G4 tb e D ch).map _=_;rw[O];rfl,U⟩
 |cd c a b ha hb=>
  intro D ch s r s' e al;have⟨⟨⟨w,ch1⟩,s1⟩,h1,e⟩:=bS e;cases w with
  |true=>have⟨i1,W⟩:=ha _ _ _ _ _ e al;have⟨O,U⟩:=(dY tb c).2.1 _ _ _ _ _ h1 W;exact⟨by show(IX tb c D ch).bind _=_;rw[O];exact i1,U⟩
  |false=>have⟨i1,W⟩:=hb _ _ _ _ _ e al;have⟨O,U⟩:=(dY tb c).2.1 _ _ _ _ _ h1 W;exact⟨by show(IX tb c D ch).bind _=_;rw[O];exact i1,U⟩
 |fl c f o e=>intro D ch s r s' h al;have⟨p,h1,h⟩:=bS h;have⟨w,h2,h⟩:=mS h;cases h;have⟨q1,k1,h1⟩:=bS h1;have⟨q2,k2,h1⟩:=bS h1;cases h1;have⟨i1,W⟩:=(dY tb o).1 _ _ _ _ _ k2 al;have⟨O,U⟩:=(dY tb e).1 _ _ _ _ _ k1 W;exact⟨by show(G4 tb e D ch).bind _=_;rw[O,G8,i1];exact h2,U⟩
 |put a k e=>
  intro D ch s r s' h al;have⟨_,h1,h⟩:=bS h;have⟨⟨⟨v,c1⟩,s1⟩,k1,h1⟩:=bS h1;have⟨⟨⟨o,c2⟩,s2⟩,k2,h1⟩:=bS h1;have⟨⟨⟨w,c3⟩,s3⟩,k3,h1⟩:=bS h1;cases h1;dsimp only at h;split at h
  .rename_i i;split at h
   .rename_i hs;have⟨d,g1,h⟩:=bS h;have⟨c,g2,h⟩:=bS h;have⟨c',g3,h⟩:=mS h;cases h;have⟨g4,al⟩:=cz g3 al;have⟨g2,al⟩:=cz g2 al;have⟨i5,i6⟩:=(dY tb k).1 _ _ _ _ _ k3 al;have⟨i1,W⟩:=(dY tb a).1 _ _ _ _ _ k2 i6;have⟨O,U⟩:=(dY tb e).1 _ _ _ _ _ k1 W;refine⟨?_,U⟩;show(G4 tb e D ch).bind _=_;rw[O,G8,i1,G8,i5,G8];dsimp only;rw[if_pos hs,g1,G8,g2,G8,g4];rfl
   .cases h
  .cases h
 |ap a e=>
  intro D ch s r s' h al;have⟨⟨⟨v,ch1⟩,s1⟩,h1,h⟩:=bS h;have⟨⟨⟨w,ch2⟩,s2⟩,h2,h⟩:=bS h;dsimp only at h;split at h
  .have⟨⟨o1,s3⟩,f1,h⟩:=bS h;have⟨⟨o2,s4⟩,f2,h⟩:=bS h;have⟨_,g1,h⟩:=bS h;have⟨l,g2,h⟩:=bS h;have⟨c',g3,h⟩:=mS h;cases h;have⟨g4,al⟩:=cz g3 al;have⟨f3,al⟩:=cz f2 al;have⟨f4,al⟩:=cz f1 al
   replace g1:=vO f4 g1
   replace g2:=vO f3 g2
   have⟨i1,W⟩:=(dY tb e).1 _ _ _ _ _ h2 al;have⟨O,U⟩:=(dY tb a).1 _ _ _ _ _ h1 W;refine⟨?_,U⟩;show(G4 tb a D ch).bind _=_;rw[O,G8,i1,G8];dsimp only;rw[g1,G8,g2,G8];unfold S0 at g4;split at g4
   .rename_i hc;rw[if_pos hc,JU g4]
   .cases g4
  .cases h
 |OX i e=>intro D ch s r s' h al;have⟨p,h1,h⟩:=bS h;have⟨h2,al⟩:=cz h al;have⟨O,U⟩:=(dY tb e).1 _ _ _ _ _ h1 al;exact⟨by show(G4 tb e D ch).bind _=_;rw[O];exact h2,U⟩
 |_=>exact λD ch s r s' h al=>cz h al
inductive Oa:List An->List Prop->Prop
 |nil:Oa [] []
 |v (n:Nat) {w:Option (CV×CH)} {x:CV×CH} {g:List An} {L:List Prop} (h:w=Z x) (t:Oa g L):Oa (.v n x::g) ((w=Z x)::L)
 |o (n:Nat) {w:Option Og} {x:Og} {g:List An} {L:List Prop} (h:w=Z x) (t:Oa g L):Oa (.o n x::g) ((w=Z x)::L)
 |t (n:Nat) {w:Option T} {x:T} {g:List An} {L:List Prop} (h:w=Z x) (t:Oa g L):Oa (.t n x::g) ((w=Z x)::L)
 |c (n:Nat) {w:Option CV} {x:CV} {g:List An} {L:List Prop} (h:w=Z x) (t:Oa g L):Oa (.c n x::g) ((w=Z x)::L)
 |h (n:Nat) {w:Option CO} {x:CO} {g:List An} {L:List Prop} (h:w=Z x) (t:Oa g L):Oa (.h n x::g) ((w=Z x)::L)
 |d (n:Nat) {w:Option Dt} {x:Dt} {g:List An} {L:List Prop} (h:w=Z x) (t:Oa g L):Oa (.d n x::g) ((w=Z x)::L)
 |p (n:Nat) {w:Option CO} {x:CO} {g:List An} {L:List Prop} (h:w=Z x) (t:Oa g L):Oa (.p n x::g) ((w=Z x)::L)
def Oa.all{g:B An}{L:B Prop}(h:Oa g L):All L:=by
 induction h with
 |nil=>trivial
 |v _ h _ O|o _ h _ O|t _ h _ O|c _ h _ O|p _ h _ O|d _ h _ O|h _ h _ O=>exact⟨h,O⟩
def gK{L ρ:B Prop}(h:All L)(k:All ρ):All (L.reverseAux ρ):=by
 induction L generalizing ρ with
 |nil=>exact k
 |cons p l O=>exact O h.2 ⟨h.1,k⟩
def xF(gc:B (Str×Dt))(g:B An):B Df->B CV->CH->ζ ((CV×CH)×B Prop)
 |[],_,_=>J
 |d::r,cs,ch=>match xS (aq gc r) d.b (cs.map Z++I0 (d.m-cs.length) J) ch (g,[])with
  |some (.rt c G0,[],L)=>Z ((c,G0),L)
  |some (.nx _ G0,[],L)=>Z ((.g .ek,G0),L)
  |_=>J
omit x in
def Ga{gc:B (Str×Dt)}{ds:B Df}{g:B An}{L:B Prop}{r:CV×CH}(a:Oa g L)(h:xF gc g ds cs ch=Z (r,L.reverse)):FF gc ds cs ch=Z r:=by
 cases ds with
 |nil=>cases h
 |cons d ds=>
  have al:All L.reverse:=gK a.all trivial;show cQ _ _ _ _=_;unfold cQ
  replace h:(match xS (aq gc ds) d.b (cs.map Z++I0 (d.m-cs.length) J) ch (g,[])with|some (.rt c G0,[],L)=>Z ((c,G0),L)|some (.nx _ G0,[],L)=>Z ((CV.g .ek,G0),L)|_=>J)=Z (r,L.reverse):=h
  split at h
  .rename_i q;cases h;rw[((vP _ _) _ _ _ _ _ q al).1]
  .rename_i q;cases h;rw[((vP _ _) _ _ _ _ _ q al).1]
  .cases h
def xR{gc:B (Str×Dt)}{ds:B Df}{g:B An}{L:B Prop}{r:CV×CH}(a:Oa g L)(h:xF gc g ds cs ch=Z (r,L.reverse):=by kernel_rfl):FF gc ds cs ch=Z r:=Ga a h
def K6{s:S}{g:B An}{L:B Prop}{o:Og}(a:Oa g L)(h:xS tb s D ch (g,[])=Z (o,([],L.reverse)):=by kernel_rfl):HL tb s D ch=Z o:=(vP tb s _ _ _ _ _ h (gK a.all trivial)).1
noncomputable def foB:S->S
 |.sq (.fo _ _ b) _=>b
 |.sq _ b=>foB b
 |_=>.nil
def vl{i:Nat}{L:B Dt}(h:ch[i]?=Z (.e (L.map .g))):vw ch (.ref i)=Z (.e L):=by show(ch[i]?).bind Qg=_;rw[h];show(dats (L.map .g)).map Dt.e=_;rw[cg];rfl
def ofS{a b:String}:(Jv a=Jv b)=(a=b):=by refine propext ⟨λh=>?_,λh=>h▸rfl⟩;rw[zb8,zb8]at h;exact String.toList_inj.mp ((List.map_inj_right λ_ _=>Char.toNat_inj.mp).mp (congrArg (·.cps.toList) h))
abbrev Tn:=(Str×Nat)×Int
noncomputable def Tn.d(t:Tn):Dt:=.t [.t [.str t.1.1,.int t.1.2],.int t.2]
abbrev Bx:=Str×Int
noncomputable def Bx.d(t:Bx):Dt:=.t [.str t.1,.int t.2]
structure Pg where
 r:Nat
 dn:Int
 he:Int
 sy:Int
 bs:List Bx
 ts:List Tn
def Pg.h(p:Pg):B Dt:=[.int p.r,.int p.dn,.int p.he,.int p.sy]
abbrev Pg.b(p:Pg):B Dt:=p.bs.map Bx.d
abbrev Pg.t(p:Pg):B Dt:=p.ts.map Tn.d
def Pg.d(p:Pg):Dt:=.t [.int p.r,.int p.dn,.int p.he,.int p.sy,.e p.b,.e p.t]
def up(f:Bool->Pg)(b:Bool)(p:Pg):Bool->Pg:=λx=>if x=b then p else f x
inductive Sm where
 |put (n:Str) (p:Nat) (v:Int)|wake|Nt (a:Nat) (b c d:Int)|box (n:Str) (v:Int)|log (n:Str) (p:Nat) (v:Int)|LU
noncomputable def Sm.d:Sm->Dt
 |.put n p v=>.t [.str "put",.str n,.int p,.int v]
 |.wake=>.t [.str "wake"]
 |.Nt a b c d=>.t [.str "begin",.int a,.int b,.int c,.int d]
 |.box n v=>.t [.str "box",.str n,.int v]
 |.log n p v=>.t [.str "log",.str n,.int p,.int v]
 |.LU=>.t [.str "turn"]
structure Fx where
 rows:List Dt
 Nu:List Dt
 sk:List rb
 sv:List Dt
 tw:List Dt
 kk:List rb
 kv:List Dt
 inc:List Dt
structure HS where
 x:Fx
 mu:List Sm
 pg:Bool->Pg
 c:Bool
 res:Option Int
 fst:List (rb×Dt)
 unl:Bool
 K7:Int
def cI:Bool->Int
 |true=>1
 |false=>0
def rD:ζ Int->Dt
 |none=>.ek
 |some i=>.int i
noncomputable abbrev dl(l:B Dt):CO:=.e (l.map .g)
noncomputable def dp{κ:Type}(l:B (κ×Dt)):B (κ×CV):=l.map λp=>(p.1,.g p.2)
def dZ{κ:Type}{l:B (κ×Dt)}:(dp l).map (·.1)=l.map (·.1):=by simp[dp,IJ]
def dA{κ:Type}{l:B (κ×Dt)}:dats ((dp l).map (·.2))=Z (l.map (·.2)):=by
 have e:(dp l).map (·.2)=(l.map (·.2)).map .g:=by simp[dp,IJ]
 rw[e,cg]
def om{κ:Type}{l:B (κ×Dt)}:((dp l).map (·.1)).zip (l.map (·.2))=l:=by
 rw[dZ];induction l with
 |nil=>rfl
 |cons p l O=>rwa[Hz,List.zip_cons_cons,O]
def f8{κ:Type}{l:B (κ×Dt)}:(dp l).length=l.length:=by simp[dp]
noncomputable abbrev I(i:Int):CV:=.g (.int i)
def hO(S:HS)(lv O:CV):CO:=.ins 3 [.g (.t S.x.rows),.g (.e S.x.Nu),.g (.HC S.x.sk S.x.sv),.g (.e S.x.tw),.g (.HC S.x.kk S.x.kv),.g (.e S.x.inc),.ref 1,.ref 2,I S.K7,lv,O]
def O3(S:HS)(lv:CV)(rf:B (rb×CV))(O b1 t0 t1:Nat)(tl:CH):CH:=hO S lv (.ref 3)::.ins 2 [.ref 4,.ref 5,.ref 6,.ref 7,I (cI S.c),.g (rD S.res)]::.ins 0 [.ref 8,.g (.bl S.unl)]::dl (S.mu.map Sm.d)::.dK rf::.e [.g (.t (S.pg ξ).h),.g (.t (S.pg C).h)]::.e [.ref O,.ref b1]::.e [.ref t0,.ref t1]::.dK (dp S.fst)::dl (S.pg ξ).b::dl (S.pg C).b::dl (S.pg ξ).t::dl (S.pg C).t::tl
abbrev hb(S:HS)(lv:CV)(rf:B (rb×CV))(tl:CH):CH:=O3 S lv rf 9 10 11 12 tl
variable{rf:B (rb×CV)}{tl:CH}
def Dy{S:HS}{lv:CV}:(hb S lv rf tl)[0]?=Z (.ins 3 [.g (.t S.x.rows),.g (.e S.x.Nu),.g (.HC S.x.sk S.x.sv),.g (.e S.x.tw),.g (.HC S.x.kk S.x.kv),.g (.e S.x.inc),.ref 1,.ref 2,I S.K7,lv,.ref 3]):=rfl
def TN{S:HS}{lv:CV}:(hb S lv rf tl)[3]?=Z (.e ((S.mu.map Sm.d).map .g)):=rfl
def VD{S:HS}{lv:CV}{k:Nat}:(hb S lv rf tl)[k+13]?=tl[k]?:=rfl
local macro_rules|`(tactic|simp! only[$x,*]$(l)?)=>do
 let a:=mL0 "cQ i9 mr Rj UK UL ja Sz NF UU sAu UR UW Ru e2 HR L6 eV eK Je Mz eB kB LP Kc K4 UI UP UQ Rt gw i8 UH Sv uF G3 He"
 `(tactic|simp only[$a,*,$x,*]$(l)?)
local macro_rules|`(tactic|simp![$x,*]$(l)?)=>do
 let a:=mL0 ("Iw bG My Ji KI "++mD0)
 `(tactic|simp[PySem.sizeLine_eq,$a,*,$x,*]$(l)?)
local macro_rules|`(tactic|dsimp![$x,*]$(l)?)=>do
 let a:=mL0 mD0
 `(tactic|simp[PySem.sizeLine_eq,$a,*,$x,*]$(l)?)
variable{G0:CH}{a:Nat}
section
variable{S:HS}{lv:CV}{rf:B (rb×CV)}{tl:CH}
def vQ:RG [.ref 0] (hb S lv rf tl)=Z (I (cI S.c),hb S lv rf tl):=rfl
def pX(b:Bool):Op [.ref 0,I (cI b)] (hb S lv rf tl)=Z (.g (S.pg b).d,hb S lv rf tl):=by
 cases b
 .have h:Vz [.ref 1,I 0] (hb S lv rf tl)=Z (.g (S.pg ξ).d,hb S lv rf tl):=xR (.d 0 (vl (ch:=hb S lv rf tl) (i:=9) (L:=(S.pg ξ).b) rfl) (.d 0 (vl (ch:=hb S lv rf tl) (i:=11) (L:=(S.pg ξ).t) rfl) .nil));exact xR (.v 0 h .nil)
 .have h:Vz [.ref 1,I 1] (hb S lv rf tl)=Z (.g (S.pg C).d,hb S lv rf tl):=xR (.d 0 (vl (ch:=hb S lv rf tl) (i:=10) (L:=(S.pg C).b) rfl) (.d 0 (vl (ch:=hb S lv rf tl) (i:=12) (L:=(S.pg C).t) rfl) .nil));exact xR (.v 0 h .nil)
def mN:YS [.ref 0] (hb S lv rf tl)=Z (.g (.bl S.res.isSome),hb S lv rf tl):=by have⟨x,pl,pg,c,O,fs,un,U⟩:=S;cases O<;>exact xR .nil
def iA:F28 [.ref 1] (hb S lv rf tl)=Z (I (cI (!S.c)),hb S lv rf tl):=by have⟨x,pl,pg,c,O,fs,un,U⟩:=S;cases c<;>rfl
def zv{v:Int}:F35 [.ref 1,I v] (hb S lv rf tl)=Z (.g .ek,hb {S with res:=Z v} lv rf tl):=rfl
def Dz{n:Str}{k p:Nat}{v:Dt}(h1:Jy rf (.inr n)=Z (.ref (k+13)))(h2:tl[k]?=Z (dl l))(hp:p<l.length):YT [.ref 1,.g (.str n),I p,.g v] (hb S lv rf tl)=Z (.g .ek,hb S lv rf (tl.set k (dl (l.set p v)))):=by
 have e:KI l.length (p:Int)=Z p:=by unfold KI;simp;lia
 exact xR (.c 0 (show ixV (hb S lv rf tl) (.ref 4) (.str n)=Z (.ref (k+13))from h1) (.h 0 (show(hb S lv rf tl)[k+13]?=Z (dl l)from h2) (.p 0 (show bR (dl l) (.int p) (.g v)=Z (dl (l.set p v))by show(KI (l.map CV.g).length _).map _=_;rw[HN,e,dl,QH];rfl) .nil)))
def AE{α:Type}{f:α->Dt}{l:B α}{a:α}(hl:l.length<G6):S0 ((l.map f).map .g) (.g (f a))=Z (dl ((l++[a]).map f)):=by unfold S0;rw[if_pos ⟨by rw[HN,HN];exact hl,rfl⟩,dl,KW,KW];rfl
def ap(S:HS):Sm->HS
 |.Nt a b c d=>{S with pg:=up S.pg (!S.c) ⟨a,b,c,d,[],[]⟩}
 |.box n v=>{S with pg:=up S.pg (!S.c) {S.pg (!S.c)with bs:=(S.pg (!S.c)).bs++[(n,v)]}}
 |.log n p v=>{S with pg:=up S.pg (!S.c) {S.pg (!S.c)with ts:=(S.pg (!S.c)).ts++[((n,p),v)]}}
 |.LU=>{S with c:=!S.c}
 |_=>S
def DA{n:Str}{v:Int}(hl:(S.pg (!S.c)).bs.length<G6):PL [.ref 1,.g (Sm.d (.box n v))] (hb S lv rf tl)=Z (.g .ek,hb (ap S (.box n v)) lv rf tl):=by
 have⟨x,pl,pg,c,O,fs,un,U⟩:=S
 have h:F30 [.ref 1,.g (.str n),I v] (hb ⟨x,pl,pg,c,O,fs,un,U⟩ lv rf tl)=Z (.g .ek,hb (ap ⟨x,pl,pg,c,O,fs,un,U⟩ (.box n v)) lv rf tl):=by have o:=iA (S:=⟨x,pl,pg,c,O,fs,un,U⟩) (lv:=lv) (rf:=rf) (tl:=tl);cases c<;>exact xR (.v 0 o (.p 0 (AE (f:=Bx.d) (a:=(n,v)) hl) .nil))
 exact xR (.v 0 h .nil)
def DC{n:Str}{p:Nat}{v:Int}(hl:(S.pg (!S.c)).ts.length<G6):PL [.ref 1,.g (Sm.d (.log n p v))] (hb S lv rf tl)=Z (.g .ek,hb (ap S (.log n p v)) lv rf tl):=by
 have⟨x,pl,pg,c,O,fs,un,U⟩:=S
 have h:F31 [.ref 1,.g (.str n),I p,I v] (hb ⟨x,pl,pg,c,O,fs,un,U⟩ lv rf tl)=Z (.g .ek,hb (ap ⟨x,pl,pg,c,O,fs,un,U⟩ (.log n p v)) lv rf tl):=by have o:=iA (S:=⟨x,pl,pg,c,O,fs,un,U⟩) (lv:=lv) (rf:=rf) (tl:=tl);cases c<;>exact xR (.v 0 o (.p 0 (AE (f:=Tn.d) (a:=((n,p),v)) hl) .nil))
 exact xR (.v 0 h .nil)
def DD:PL [.ref 1,.g (Sm.d .LU)] (hb S lv rf tl)=Z (.g .ek,hb (ap S .LU) lv rf tl):=by have h:F32 [.ref 1] (hb S lv rf tl)=Z (.g .ek,hb (ap S .LU) lv rf tl):=xR (.v 0 (iA (S:=S) (lv:=lv) (rf:=rf) (tl:=tl)) .nil);exact xR (.v 0 h .nil)
def DE{n:Str}{p:Nat}{v:Int}(h:YT [.ref 1,.g (.str n),I p,I v] (hb S lv rf tl)=Z (.g .ek,G0)):PL [.ref 1,.g (Sm.d (.put n p v))] (hb S lv rf tl)=Z (.g .ek,G0):=xR (.v 0 h .nil)
def mO(S:HS)(a:Nat)(b c d:Int):HS:={S with pg:=up S.pg (!S.c) {S.pg (!S.c)with r:=a,dn:=b,he:=c,sy:=d}}
def Qz(S:HS)(lv:CV)(rf:B (rb×CV))(n:Nat)(tl:CH):CH:=bif S.c then O3 S lv rf n 10 (n+1) 12 tl else O3 S lv rf 9 n 11 (n+1) tl
def DF{b c d:Int}:PL [.ref 1,.g (Sm.d (.Nt a b c d))] (hb S lv rf tl)=Z (.g .ek,Qz (mO S a b c d) lv rf (tl.length+13) (tl++[.e []]++[.e []])):=by
 have⟨x,pl,pg,k,O,fs,un,U⟩:=S
 have h:F29 [.ref 1,I a,I b,I c,I d] (hb ⟨x,pl,pg,k,O,fs,un,U⟩ lv rf tl)=Z (.g .ek,Qz (mO ⟨x,pl,pg,k,O,fs,un,U⟩ a b c d) lv rf (tl.length+13) (tl++[.e []]++[.e []])):=by
  have e:tl.length+13+1=(tl++[CO.e []]).length+13:=by simp
  unfold Qz;rw[e];cases k<;>rfl
 exact xR (.v 0 h .nil)
end
variable{ts:B Tn}{q:Bool}{S':HS}
section
variable{S:HS}{lv:CV}{rf:B (rb×CV)}{tl:CH}
def mP{ch:CH}{k:Str}(hl:ts.length<=G6):F15 [.g (.str k),.g (.e (ts.map Tn.d))] ch=Z (.g (.e (ts.map λt=>.t [.str k,.str t.1.1,.int t.1.2,.int t.2])),ch):=by
 have:=aM (pt:=.many [0,1]) (ft:=IN) (fe:=Je (G3 (eV 2) (G3 (HR (eV 0) (eK (.int 0))) (G3 (HR (eV 0) (eK (.int 1))) (G3 (eV 1) He))))) (D:=gC [J,J,Z 0] [Z (.g (.str k)),Z (.g (.e (ts.map Tn.d)))]) (ch:=ch) (f:=Tn.d) (g:=λt:Tn=>.t [.str k,.str t.1.1,.int t.1.2,.int t.2]) (l:=ts) λt _=>⟨_,rfl,rfl,rfl⟩
 refine xR (.v 0 (show Jj .v [J,J,Z 0] (iE (eV 1)) (Hq (.many [0,1])) IN (Je (G3 (eV 2) (G3 (HR (eV 0) (eK (.int 0))) (G3 (HR (eV 0) (eK (.int 1))) (G3 (eV 1) He))))) [Z (.g (.str k)),Z (.g (.e (ts.map Tn.d)))] ch=Z (.g (.e (ts.map λt=>.t [.str k,.str t.1.1,.int t.1.2,.int t.2])),ch)from ?_) .nil);simp[Jj,iE,eV,lent,itD,this,HN,hl,dh,fin,T.d]
noncomputable def bj(ts:B Tn):B Sm:=ts.map λt=>.put t.1.1 t.1.2 t.2
noncomputable def oo(ts:B Tn):B Sm:=ts.map λt=>.log t.1.1 t.1.2 t.2
def sD{ch:CH}{p:Pg}(hl:p.ts.length<G6):F16 [.g p.d] ch=Z (.ref ch.length,ch++[dl ((bj p.ts++[Sm.wake]).map Sm.d)]):=by
 have h1:=mP (ch:=ch) (k:="put") (QJ hl);have O:(bj p.ts++[Sm.wake]).map Sm.d=(p.ts.map λt=>.t [.str "put",.str t.1.1,.int t.1.2,.int t.2])++[.t [.str "wake"]]:=by simp[bj,Sm.d,IJ]
 have h2:Hs.g (.e (p.ts.map λt=>.t [.str "put",.str t.1.1,.int t.1.2,.int t.2])) (.e [.t [.str "wake"]])=Z (.e ((bj p.ts++[Sm.wake]).map Sm.d)):=by rw[O];simp[Hs,Jh,c5,show p.ts.length+1<=G6 from hl]
 exact xR (.v 0 h1 (.t 0 h2 .nil))
def Mb{a b:Int}(h:decide (a=b)=q):KH.g (.int a) (.int b)=Z (.f (.bl q)):=by rw[<- h];rfl
def oq{s:Sm}{P:B Sm}(hp:S.mu=s::P)(hl:S.mu.length<=1000000):sn (L6 3 10 (eV 0)) (eK (.int 0)) [Z (.ref 0),J] (hb S lv rf tl)=Z (.g s.d,hb {S with mu:=P} lv rf tl):=by rw[hp]at hl;rwa[JK]at hl;have e:(hb S lv rf tl).set 3 (.e ((P.map Sm.d).map .g))=hb {S with mu:=P} lv rf tl:=rfl;rw[IV]at e;simp[sn,L6,eV,eK,lent,Dy,TN,hp,cj,cO,KI,e];lia
def ix0{d:Dt}:ixV ch (.g (.t (d::l))) (.int 0)=Z (.g d):=by show(Iw _ _).map CV.g=_;simp[Iw,bG,My,Ji,KI]
def VE{k:Str}(O:(k=Jv "wake")=False):KH.g (.str k) (.str "wake")=Z (.f (.bl ξ)):=by show Z (T.f (.bl (decide (k=Jv "wake"))))=_;rw[decide_eq_false (by rw[O];exact id)]
def pY{s:Sm}(h:s≠.wake):∃k r,s.d=.t (.str k::r)/\(k=Jv "wake")=False:=by cases s<;>first|exact absurd rfl h|exact⟨_,_,rfl,by simp[ofS]⟩
variable{G0:CH}{s:Sm}
theorem iB{q:Sm}{P:B Sm}(hp:S.mu=s::q::P)(W:s≠.wake)(hl:S.mu.length<=1000000)(U:PL [.ref 1,.g s.d] (hb {S with mu:=q::P} lv rf tl)=Z (.g .ek,G0))(h0:G0[0]?=Z (hO S' lv (.ref 3)))(h3:G0[3]?=Z (dl ((q::P).map Sm.d))):VA [.ref 0] (hb S lv rf tl)=Z (.g .ek,G0):=by have⟨k,r,e,hk⟩:=pY W;have O:=oq (lv:=lv) (rf:=rf) (tl:=tl) hp hl;rw[e]at O U;exact xR (.v 0 O (.c 0 (ix0 (ch:=hb {S with mu:=q::P} lv rf tl) (d:=.str k) (l:=r)) (.t 0 (VE hk) (.v 0 U (.h 0 h0 (.d 0 (vl (ch:=G0) (i:=3) (L:=(q::P).map Sm.d) h3) (.t 1 (Mb (a:=(((q::P).map Sm.d).length:Int)) (b:=0) (decide_eq_false (by simp;lia))) .nil)))))))
def ou{a b c d e:CV}{bx:CO}{lg:B (B rb×CV)}(hp:S.mu=[s])(hw:s≠.wake)(U:PL [.ref 1,.g s.d] (hb {S with mu:=[]} (.ref 13) rf tl)=Z (.g .ek,hb S' (.ref 13) rf (.ins 1 [a,b,c,d,.ref 14,e,.ref 15]::bx::.dT lg::G0)))(h3:S'.mu=[]):VA [.ref 0] (hb S (.ref 13) rf tl)=Z (.g .ek,hb S' (.ref 13) rf (.ins 1 [a,b,c,d,.ref 14,e,.ref 15]::bx::.dT []::G0)):=by
 have h4:KH.g (.int (S'.mu.map Sm.d).length) (.int 0)=Z (.f (.bl C)):=by rw[h3];rfl
 have⟨k,r,W,hk⟩:=pY hw;have O:=oq (lv:=.ref 13) (rf:=rf) (tl:=tl) hp (by rw[hp];simp);rw[W]at O U;exact xR (.v 0 O (.c 0 (ix0 (ch:=hb {S with mu:=[]} (.ref 13) rf tl) (d:=.str k) (l:=r)) (.t 0 (VE hk) (.v 0 U (.d 0 (vl (ch:=hb S' (.ref 13) rf (.ins 1 [a,b,c,d,.ref 14,e,.ref 15]::bx::.dT lg::G0)) (i:=3) (L:=S'.mu.map Sm.d) rfl) (.t 1 h4 .nil))))))
noncomputable def JG(l:B Bx):B (rb×Dt):=l.map λt=>(.inr t.1,.int t.2)
theorem iC{ch:CH}:∀l:B Bx,aP ch (l.map (CV.g ∘ Bx.d))=Z (dp (JG l))
 |[]=>rfl
 |t::l=>by rwa[Hz,Function.comp_apply,aP,Bx.d,cu,ci,Iy,G8,iC (ch:=ch) l];rfl
def lx{l:B Bx}(O:(l.map (·.1)).Nodup):((JG l).map (·.1)).Nodup:=by
 have e:(JG l).map (·.1)=(l.map (·.1)).map JM:=by simp[JG]
 rw[e];exact Pc _ (λa b h q=>h (TD q)) O
def vR{l:B (rb×Dt)}(O:(l.map (·.1)).Nodup):kZ .o (dp l) ch=Z (.ref ch.length,ch++[.dK (dp l)]):=by unfold kZ;rw[dA];dsimp only;rw[om];rwa[fin,al,O,if_true];rfl
def zw{p:Pg}{u:Int}(O:(p.bs.map (·.1)).Nodup):F26 [.ref 0,.g p.d,I u] [.ins 1 []]=Z (.g .ek,[.ins 1 [I p.r,I p.dn,I p.he,I p.sy,.ref 1,I u,.ref 2],.dK (dp (JG p.bs)),.dT []]):=by
 have U:((dp (JG p.bs)).map (·.1)).Nodup:=by rw[dZ];exact lx O
 have h1:L9 .o (HR (eV 1) (eK (.int 4))) [Z (.ref 0),Z (.g p.d),Z (I u)] [.ins 1 [I p.r,I p.dn,I p.he,I p.sy]]=Z (.ref 1,[.ins 1 [I p.r,I p.dn,I p.he,I p.sy],.dK (dp (JG p.bs))]):=by show(aP _ ((p.bs.map Bx.d).map .g)).bind _=_;rw[IV,iC,G8,if_pos U,vR (lx O)];rfl
 exact xR (.v 0 h1 .nil)
def ee{κ:Type}{l:B (κ×Dt)}:IP M (dp l)=dp l:=by simp[IP,dp,rn,IJ]
def ox {p:Pg} (hp:S.mu=[.wake]) (hg:S.pg S.c=p) (hn:(p.bs.map (·.1)).Nodup) :
  VA [.ref 0] (hb S lv rf tl)=Z (.g .ek,hb {S with mu:=[]} (.ref (tl.length+13)) rf (tl++[.ins 1 [I p.r,I p.dn,I p.he,I p.sy,.ref (tl.length+13+1),I S.K7,.ref (tl.length+13+2)],.dK (dp (JG p.bs)),.dT []])):=by
 have U:Op [.ref 0,I (cI S.c)] (hb {S with mu:=[]} lv rf tl)=Z (.g p.d,hb {S with mu:=[]} lv rf tl):=by rw[<- hg];exact pX (S:={S with mu:=[]}) S.c
 have hfc:RG [.ref 0] (hb {S with mu:=[]} lv rf tl)=Z (I (cI S.c),hb {S with mu:=[]} lv rf tl):=vQ
 have O:=gJ (F:=F26) (c:=1) (n:=3) (ch:=hb {S with mu:=[]} lv rf tl) (D:=[Z (.ref 0),Z (.g (.t [.str "wake"]))]) (fs:=G3 (K4 3 2 Op (eV 0) (G3 (K4 3 1 RG (eV 0) He) He)) (G3 (L6 3 8 (eV 0)) He)) (ds:=[p.d,.int S.K7]) (aj _) (by simp[G3,He,K4,Kc,eV,L6,lent,CV.old,Dy,hfc,U]) rfl (zw hn) Ξ
 have eL:(hb {S with mu:=[]} lv rf tl).length=tl.length+13:=rfl
 have eX:hb {S with mu:=[]} lv rf tl++List.map (Ho λx=>tl.length+13+x) [CO.ins 1 [I p.r,I p.dn,I p.he,I p.sy,.ref 1,I S.K7,.ref 2],.dK (dp (JG p.bs)),.dT []]=hb {S with mu:=[]} lv rf (tl++[.ins 1 [I p.r,I p.dn,I p.he,I p.sy,.ref (tl.length+13+1),I S.K7,.ref (tl.length+13+2)],.dK (dp (JG p.bs)),.dT []]):=by rwa[Hz,Mi,Ho,rn,ee];rfl
 rw[eL,eX]at O;generalize hT:tl++[CO.ins 1 [I p.r,I p.dn,I p.he,I p.sy,.ref (tl.length+13+1),I S.K7,.ref (tl.length+13+2)],.dK (dp (JG p.bs)),.dT []]=W at O ⊢;have t1:W[tl.length]?=Z (CO.ins 1 [I p.r,I p.dn,I p.he,I p.sy,.ref (tl.length+13+1),I S.K7,.ref (tl.length+13+2)]):=by rw[<- hT];simp
 have t2:W[tl.length+2]?=Z (CO.dT []):=by rw[<- hT,P0 Θ];simp
 have t3:W.set (tl.length+2) (CO.dT [])=W:=by
  refine QG λj=>?_
  by_cases hj:tl.length+2=j
  .subst hj;rw[Mh (af t2),t2]
  .rw[gN hj]
 have e4:(hb {S with mu:=[]} (.ref (tl.length+13)) rf W)[tl.length+13+2]?=Z (CO.dT []):=by rw[show tl.length+13+2=tl.length+2+13 by lia,VD,t2]
 have e5:(hb {S with mu:=[]} (.ref (tl.length+13)) rf W).set (tl.length+13+2) (CO.dT [])=hb {S with mu:=[]} (.ref (tl.length+13)) rf W:=by have:(hb {S with mu:=[]} (.ref (tl.length+13)) rf W).set (tl.length+2+13) (CO.dT [])=hb {S with mu:=[]} (.ref (tl.length+13)) rf (W.set (tl.length+2) (CO.dT [])):=rfl;rw[show tl.length+13+2=tl.length+2+13 by lia,this,t3]
 have e6:Ru C (L6 1 6 (L6 3 9 (eV 0))) [Z (.ref 0),Z (.g (.t [.str "wake"]))] (hb {S with mu:=[]} (.ref (tl.length+13)) rf W)=Z (.nx [Z (.ref 0),Z (.g (.t [.str "wake"]))] (hb {S with mu:=[]} (.ref (tl.length+13)) rf W)):=by simp[Ru,L6,eV,lent,Dy,VD,t1,e4,e5,CY]
 exact xR (.v 0 (oq (lv:=lv) (rf:=rf) (tl:=tl) hp (by rw[hp];simp)) (.v 0 O (.o 0 e6 .nil)))
end
def Vi(d:Dt):Prop:=∃i:Int,d=.int i/\0<=i/\i<1099511627776
abbrev Vn(i:Int):Prop:=0<=i/\i<1099511627776
def Vi.n{i:Int}(h:Vi (.int i)):Vn i:=by have⟨j,e,h⟩:=h;cases e;exact h
def Vn.i{i:Int}(h:Vn i):Vi (.int i):=⟨i,rfl,h⟩
structure LS where
 pl:Int
 dn:Int
 he:Int
 sy:Int
 du:Int
 bx:List (rb×Dt)
 lg:List (List rb×Dt)
def lO(l:LS):CO:=.ins 1 [I l.pl,I l.dn,I l.he,I l.sy,.ref 14,I l.du,.ref 15]
abbrev hl(S:HS)(l:LS)(rf:B (rb×CV))(tl:CH):CH:=hb S (.ref 13) rf (lO l::.dK (dp l.bx)::.dT (dp l.lg)::tl)
def iv(z:Int):ζ Dt->Int
 |some (.int i)=>i
 |_=>z
def lv{κ:Type}[DecidableEq κ](b:B (κ×Dt))(z:Int)(k:κ):Int:=iv z (ah (b.map (·.1)) (b.map (·.2)) k)
def wv(f:Str->Int):rb->Int
 |.inl i=>i
 |.inr s=>f s
abbrev bv(b:B (rb×Dt))(z:Int)(s:Str):Int:=lv b z (.inr s)
section
variable{κ:Type}[DecidableEq κ]{k k':κ}{d:Dt}{b:B (κ×Dt)}{z:Int}
omit x in
theorem iD{κ:Type}[DecidableEq κ]{k k':κ}{d:Dt}:∀{b:B (κ×Dt)},ah ((az b k d).map (·.1)) ((az b k d).map (·.2)) k'=if k=k' then Z d else ah (b.map (·.1)) (b.map (·.2)) k'
 |[]=>by simp[az,ah]
 |p::b=>by
  have O:=iD (k:=k) (k':=k') (d:=d) (b:=b);unfold az;split
  .rename_i e;rwa[Hz,ah];by_cases h:k=k'
   .rw[if_pos (e.trans h),if_pos h]
   .rw[if_neg (λq=>h (e.symm.trans q)),if_neg h,if_neg (λq=>h (e.symm.trans q))]
  .rename_i e;rwa[Hz,ah];rw[O];by_cases h:k=k'
   .rw[if_pos h,if_neg (λq=>e (q.trans h.symm)),if_pos h]
   .rw[if_neg h,if_neg h]
def oy{v:Int}:lv (az b k (.int v)) z k'=if k=k' then v else lv b z k':=by unfold lv;rw[iD];split<;>rfl
end
abbrev Sh:=B (Str×Nat)
def bK(a:rb):Prop:=Vi (av a)\/∃s,a=.inr s
noncomputable def ai:Nat->Sh->B (rb×CV)
 |_,[]=>[]
 |o,p::r=>(.inr p.1,.ref o)::ai (o+1) r
theorem dB{n:Str}:∀{sh:Sh}{o k:Nat},(sh.map (·.1)).Nodup->sh[k]?=Z (n,m)->Jy (ai o sh) (.inr n)=Z (.ref (k+o))
 |[],o,k,_,h=>by cases h
 |p::r,o,0,W,h=>by cases h;simp[ai,Jy,P7]
 |p::r,o,k+1,W,h=>by
  have O:=Jr.mp W;have hm:n∈r.map (·.1):=HG.mpr ⟨_,Il h,rfl⟩;have:¬ p.1=n:=λe=>O.1 (by show p.1∈_;rw[e];exact hm)
  have U:=dB (o:=o+1) O.2 h;rwa[ai,Jy,P7,OI,this,decide_false]at U ⊢;rw[U];simp;lia
abbrev Vf:=Str->Nat->Int
abbrev row(g:Vf)(q:Str×Nat):B Dt:=(Ir q.2).map λp=>.int (g q.1 p)
def ab(sh:Sh)(g:Vf):CH:=sh.map λq=>dl (row g q)
def fu(g:Vf)(n:Str)(p:Nat)(v:Int):Vf:=λn' O=>if n'=n/\O=p then v else g n' O
section
variable{sh:Sh}{g:Vf}{n:Str}{k m p:Nat}{v:Int}
def bz(h:sh[k]?=Z (n,m)):(ab sh g)[k]?=Z (dl (row g (n,m))):=by simp[ab,h]
def bM:(ab sh g).length=sh.length:=by simp[ab]
def dC:(row g (n,m)).length=m:=Ξ
def iF(h:p<m):(row g (n,m))[p]?=Z (.int (g n p)):=by simp[h]
theorem AF:∀{sh:Sh}{j k:Nat}{a b:Str×Nat},(sh.map (·.1)).Nodup->sh[j]?=Z a->sh[k]?=Z b->a.1=b.1->j=k
 |[],_,_,_,_,_,h,_,_=>by cases h
 |q::sh,0,0,_,_,_,_,_,_=>rfl
 |q::sh,0,k+1,a,b,O,h1,h2,e=>by cases h1;exact absurd (HG.mpr ⟨b,Il (l:=sh) h2,e.symm⟩:_∈sh.map (·.1)) (Jr.mp O).1
 |q::sh,j+1,0,a,b,O,h1,h2,e=>by cases h2;exact absurd (HG.mpr ⟨a,Il (l:=sh) h1,e⟩:_∈sh.map (·.1)) (Jr.mp O).1
 |q::sh,j+1,k+1,a,b,O,h1,h2,e=>by rw[AF (Jr.mp O).2 h1 h2 e]
def DG:row (fu g n p v) (n,m)=(row g (n,m)).set p (.int v):=by
 refine QG λi=>?_
 rw[List.getElem?_set];by_cases h:p=i
 .subst h;by_cases hp:p<m<;>simp[hp,fu]
 .rw[if_neg h];by_cases hi:i<m<;>simp[hi,fu,JQ h]
def jU(W:(sh.map (·.1)).Nodup)(O:sh[k]?=Z (n,m)):(ab sh g).set k (dl ((row g (n,m)).set p (.int v)))=ab sh (fu g n p v):=by
 refine QG λj=>?_
 by_cases h:k=j
 .subst h;rw[Mh (by rw[bM];exact af O),bz O,DG]
 .rw[gN h];cases q:sh[j]? with
  |none=>simp[ab,q]
  |some a=>
   have U:¬ a.1=n:=λe=>h (AF W O q e.symm)
   have e:row (fu g n p v) a=row g a:=by simp[fu,U]
   rwa[ab,HZ,q,Iy];rw[e]
end
noncomputable def IY:ζ LS->Nat
 |none=>13
 |some _=>16
noncomputable def Mc:ζ LS->CV
 |none=>.g .ek
 |some _=>.ref 13
def Hj:ζ LS->CH->CH
 |none,tl=>tl
 |some l,tl=>lO l::.dK (dp l.bx)::.dT (dp l.lg)::tl
def hc(sh:Sh)(S:HS)(lo:ζ LS)(tl:CH):CH:=hb S (Mc lo) (ai (IY lo) sh) (Hj lo tl)
abbrev hz(sh:Sh)(S:HS)(lo:ζ LS)(g:Vf):CH:=hc sh S lo (ab sh g)
variable{lo:ζ LS}
def pZ{k:Nat}:(Hj lo tl)[k+(IY lo-13)]?=tl[k]?:=by cases lo<;>rfl
def vS{k:Nat}{o:CO}:(Hj lo tl).set (k+(IY lo-13)) o=Hj lo (tl.set k o):=by cases lo<;>rfl
def VF{k:Nat}:k+IY lo=k+(IY lo-13)+13:=by cases lo<;>rfl
variable{sg:Str}
section
variable{S:HS}{rf:B (rb×CV)}{tl:CH}{l:LS}{lo:ζ LS}
theorem gu{κ:Type}[DecidableEq κ]{k:κ}:∀b:B (κ×Dt),Jy (dp b) k=(ah (b.map (·.1)) (b.map (·.2)) k).map .g
 |[]=>rfl
 |p::b=>by
  have O:=gu (k:=k) b;by_cases h:p.1=k
  .simp[Jy,dp,ah,P7,h]
  .rwa[Jy,dp,Hz,P7,h,decide_false,ah,if_false]at O ⊢;exact O
theorem eg{κ:Type}[DecidableEq κ]{k:κ}{d:Dt}:∀b:B (κ×Dt),aV (dp b) k (.g d)=dp (az b k d)
 |[]=>rfl
 |p::b=>by
  have O:=eg (k:=k) (d:=d) b;rwa[dp,Hz,aV,az]at O ⊢;split
  .rfl
  .rw[O];rfl
omit x in
theorem gM{κ:Type}[DecidableEq κ]{k:κ}{d:Dt}{p:κ×Dt}:∀{b:B (κ×Dt)},p∈az b k d->p=(k,d)\/p∈b
 |[],h=>by simp[az]at h;exact .inl h
 |q::b,h=>by
  unfold az at h;split at h
  .rename_i e;rcases IE.mp h with rfl|h
   .exact .inl (by rw[e])
   .exact .inr (.tail _ h)
  .rcases IE.mp h with rfl|h
   .exact .inr (.head _)
   .rcases gM h with h|h
    .exact .inl h
    .exact .inr (.tail _ h)
theorem fm{κ:Type}[DecidableEq κ]{k:κ}{d:Dt}:∀{b:B (κ×Dt)},(az b k d).length<=b.length+1
 |[]=>by simp[az]
 |q::b=>by
  unfold az;split
  .simp
  .have:=fm (k:=k) (d:=d) (b:=b);simp;lia
omit x in
theorem aA{κ:Type}[DecidableEq κ]{k:κ}{d:Dt}:∀{b:B (κ×Dt)},ah (b.map (·.1)) (b.map (·.2)) k=Z d->(k,d)∈b
 |[],h=>by cases h
 |p::b,h=>by
  rwa[Hz,ah]at h;split at h
  .rename_i e;cases h;rw[<- e];exact .head _
  .exact .tail _ (aA h)
def mQ{z:Int}{o:ζ Dt}(h:∀d,o=Z d->Vi d):(o.map CV.g).getD (I z)=I (iv z o)/\(Vn z->Vn (iv z o)):=by
 cases o with
 |none=>exact⟨rfl,id⟩
 |some d=>have⟨i,rfl,q⟩:=h d rfl;exact⟨rfl,λ_=>q⟩
def mR{f:Str->Int}(h:∀s,Vn (f s)){a:rb}(O:bK a):Vn (wv f a):=by
 cases a with
 |inl i=>rcases O with h|⟨s,h⟩;exact h.n;cases h
 |inr s=>exact h s
def VG{b:B (rb×Dt)}{z:Int}(hz:Vn z)(h:∀p∈b,Vi p.2)(s:Str):Vn (bv b z s):=(mQ λd e=>h _ (aA e)).2 hz
def mT(O:∀p∈l.bx,Vi p.2)(a:rb):SZ [.ref 13,.g (av a)] (hl S l rf tl)=Z (I (wv (bv l.bx l.du) a),hl S l rf tl):=by
 cases a with
 |inl i=>exact xR .nil
 |inr s=>have h2:=(mQ (z:=l.du) λd e=>O _ (aA (k:=JM s) e)).1;exact xR (.c 0 (show getV (hl S l rf tl) (.ref 14) (.str s) (I l.du)=Z (I (bv l.bx l.du s))by show Z ((Jy (dp l.bx) (.inr s)).getD (I l.du))=_;rw[gu,h2];rfl) .nil)
def KC{v m q:Int}(h:v%m=q)(O:0<m):HU.g (.int v) (.int m)=Z (.f (.int q)):=by show(if 0<m then Z (T.f (.int (v%m)))else J)=_;rw[if_pos O,h]
def Me{a b:Int}(h:decide (a<b)=q):Z5.g (.int a) (.int b)=Z (.f (.bl q)):=by rw[<- h];rfl
def LV{a b:Str}(h:decide (a=b)=q):KH.g (.str a) (.str b)=Z (.f (.bl q)):=by rw[<- h];rfl
def gx{b:B (rb×Dt)}{x:rb}{v:Dt}(h:b.length<G6):bR (.dK (dp b)) (av x) (.g v)=Z (.dK (dp (az b x v))):=by cases x<;>(show(if(dp b).length<G6 then Z (CO.dK (aV (dp b) _ (.g v)))else J)=_;rw[if_pos (by rw[f8];exact h),eg])
def ixL{i p:Nat}{L:B Dt}{d:Dt}(h:ch[i]?=Z (.e (L.map .g)))(hp:L[p]?=Z d):ixV ch (.ref i) (.int p)=Z (.g d):=by have hl:=af hp;show(ch[i]?).bind _=_;rw[h];show Ji (L.map CV.g) (p:Int)=_;unfold Ji;rw[HN,show KI L.length (p:Int)=Z p by unfold KI;simp;lia];show(L.map CV.g)[p]?=_;rw[HZ,hp];rfl
def vlg:vw (hl S l rf tl) (.ref 15)=Z (.HJ (l.lg.map (·.1)) (l.lg.map (·.2))):=by show(dats ((dp l.lg).map (·.2))).map (Dt.HJ ((dp l.lg).map (·.1)))=_;rw[dA,dZ];rfl
def ly{n p:Nat}(h:p<n):KI n (p:Int)=Z p:=by unfold KI;simp;lia
variable{sh:Sh}{g:Vf}{n:Str}{k m p:Nat}{v:Int}
theorem vU(O:∀p∈l.bx,Vi p.2)(a:rb)(hs:ah S.x.sk S.x.sv (.inr n)=Z (.int m))(U:0<m):F38 [.ref 0,.g (.str n),.g (av a)] (hl S l rf tl)=Z (I (wv (bv l.bx l.du) a%m).toNat,hl S l rf tl):=by have h1:=mT (S:=S) (rf:=rf) (tl:=tl) O a;have h2:=M1 (wv (bv l.bx l.du) a) (show(m:Int)≠0 by lia);exact xR (.v 0 h1 (.c 0 (show ixV (hl S l rf tl) (.g (.HC S.x.sk S.x.sv)) (.str n)=Z (I m)by show(Iw _ _).map CV.g=_;simp[Iw,bG,ci,hs]) (.t 0 (KC (v:=wv (bv l.bx l.du) a) (m:=m) (q:=((wv (bv l.bx l.du) a%m).toNat:Int)) Θ Θ) .nil)))
def vW(U:(sh.map (·.1)).Nodup)(O:sh[k]?=Z (n,m)):ixV (hz sh S lo g) (.ref 4) (.str n)=Z (.ref (k+IY lo)):=dB U O
def vX(O:sh[k]?=Z (n,m)):(hz sh S lo g)[k+IY lo]?=Z (dl (row g (n,m))):=by rw[VF];show(Hj lo (ab sh g))[k+(IY lo-13)]?=_;rw[pZ];exact bz O
def DH(U:(sh.map (·.1)).Nodup)(O:sh[k]?=Z (n,m))(hp:p<m):F42 [.ref 1,.g (.str n),I p] (hz sh S lo g)=Z (I (g n p),hz sh S lo g):=xR (.c 0 (vW (S:=S) (lo:=lo) (g:=g) U O) (.c 0 (ixL (ch:=hz sh S lo g) (i:=k+IY lo) (vX O) (iF hp)) .nil))
def p5(U:(sh.map (·.1)).Nodup)(O:sh[k]?=Z (n,m))(hp:p<m):YT [.ref 1,.g (.str n),I p,I v] (hz sh S lo g)=Z (.g .ek,hz sh S lo (fu g n p v)):=by have:=Dz (S:=S) (lv:=Mc lo) (k:=k+(IY lo-13)) (l:=row g (n,m)) (v:=.int v) (rf:=ai (IY lo) sh) (n:=n) (p:=p) (tl:=Hj lo (ab sh g)) (by rw[<- VF];exact dB U O) (by rw[pZ];exact bz O) ‹hp›;rw[vS,jU U O]at this;exact this
abbrev va(lg:B (B rb×Dt))(g:Vf):Vf:=λn p=>lv lg (g n p) [.inr n,.inl (p:Int)]
def vY(hg:∀q∈l.lg,Vi q.2)(W:(sh.map (·.1)).Nodup)(hk:sh[k]?=Z (n,m))(hp:p<m):YV [.ref 0,.g (.str n),I p] (hz sh S (Z l) g)=Z (I (va l.lg g n p),hz sh S (Z l) g):=by
 have O:Lu.g (.t [.str n,.int p]) (.HJ (l.lg.map (·.1)) (l.lg.map (·.2)))=Z (.f (.bl (ah (l.lg.map (·.1)) (l.lg.map (·.2)) [JM n,JT (p:Int)]).isSome)):=rfl;cases q:ah (l.lg.map (·.1)) (l.lg.map (·.2)) [JM n,JT (p:Int)]with
 |some d=>
  have⟨i,rfl,h2⟩:=hg _ (aA q);have e:va l.lg g n p=i:=by show iv _ _=_;rw[q];rfl
  rw[e];rw[q]at O;exact xR (.d 0 (vlg (S:=S) (l:=l) (rf:=ai 16 sh) (tl:=ab sh g)) (.t 0 O (.c 0 (show ixV (hz sh S (Z l) g) (.ref 15) (.t [.str n,.int p])=Z (I i)by show Jy (dp l.lg) _=_;rw[gu,q];rfl) .nil)))
 |none=>
  have U:=DH (S:=S) (lo:=Z l) (g:=g) W hk hp;have e:va l.lg g n p=g n p:=by show iv _ _=_;rw[q];rfl
  rw[e];rw[q]at O;exact xR (.d 0 (vlg (S:=S) (l:=l) (rf:=ai 16 sh) (tl:=ab sh g)) (.t 0 O (.v 0 U .nil)))
def aU(x:Fx)(n:Str):Bool:=x.tw.any λy=>Rh y (.str n)
def vZ(ht:∀d∈S.x.tw,∃s,d=.str s)(W:(sh.map (·.1)).Nodup)(hk:sh[k]?=Z (n,m))(hp:p<m)(U:l.lg.length<G6):YU [.ref 0,.g (.str n),I p,I v] (hz sh S (Z l) g)=Z (.g .ek,if aU S.x n then hz sh S (Z {l with lg:=az l.lg [.inr n,.inl p] (.int v)}) g else hz sh S (Z l) (fu g n p v)):=by
 have hf:S.x.tw.all aR=C:=Kk.mpr λd hd=>by have⟨s,rfl⟩:=ht d hd;rfl
 have O:=p5 (S:=S) (lo:=Z l) (g:=g) (v:=v) W hk hp
 have hi:Lu.g (.str n) (.e S.x.tw)=Z (.f (.bl (aU S.x n))):=by
  have:Ri (.str n) (.e S.x.tw)=Z (aU S.x n):=by show(if(C&&S.x.tw.all aR)=C then Z (S.x.tw.any λy=>Rh y (.str n))else J)=_;rw[hf];rfl
  show Jh (OQ ξ) (mK ξ) _ _=_;unfold Jh OQ;rw[this];rfl
 cases q:aU S.x n with
 |true=>rw[q]at hi;exact xR (.t 0 hi (.p 0 (show bR (.dT (dp l.lg)) (.t [.str n,.int p]) (I v)=Z (.dT (dp (az l.lg [.inr n,.inl p] (.int v))))by show(if(dp l.lg).length<G6 then Z (CO.dT (aV (dp l.lg) [.inr n,.inl (p:Int)] (I v)))else J)=_;rw[if_pos (by rw[f8];exact U),eg]) .nil))
 |false=>rw[q]at hi;exact xR (.t 0 hi (.v 0 O .nil))
def NJ(inc:B Dt)(h:Int):Int:=iv 0 inc[h.toNat]?
def sF(hi:∀d∈S.x.inc,Vi d)(W:0<=l.he):F44 [.ref 0] (hl S l rf tl)=Z (I (NJ S.x.inc l.he),hl S {l with he:=l.he+1} rf tl):=by
 by_cases h:l.he<S.x.inc.length
 .have⟨p,hp⟩:=QC W;have O:p<S.x.inc.length:=by lia
  have⟨i,h1,h2⟩:=hi S.x.inc[p] (P2 O);have U:ixV (hl S {l with he:=l.he+1} rf tl) (.g (.e S.x.inc)) (.int l.he)=Z (I i):=by show(Iw _ _).map CV.g=_;rw[hp];simp[Iw,bG,My,Ji,ly O,O,h1]
  have e:NJ S.x.inc l.he=i:=by unfold NJ;rw[hp];simp[O,h1,iv]
  rw[e];exact xR (.t 1 (Me (b:=(S.x.inc.length:Int)) (decide_eq_true h)) (.c 0 U .nil))
 .have e:NJ S.x.inc l.he=0:=by unfold NJ;rw[Oy Θ];rfl
  rw[e];exact xR (.t 1 (Me (b:=(S.x.inc.length:Int)) (decide_eq_false h)) .nil)
def AG{inc:B Dt}{h:Int}(hi:∀d∈inc,Vi d):Vn (NJ inc h):=(mQ λd e=>hi d (Il e)).2 (by constructor<;>decide)
def num(sg:Str)(a b:Int):Int:=if sg=Jv "+" then a+b else if sg=Jv "-" then a-b else if sg=Jv "*" then a*b else if sg=Jv "<" then(if a<b then 1 else 0)else if sg=Jv "=" then(if a=b then 1 else 0)else if sg=Jv "&" then iv 0 ((Nq.g (.int a) (.int b)).bind T.d)else if sg=Jv "|" then iv 0 ((Vo.g (.int a) (.int b)).bind T.d)else iv 0 ((Vq.g (.int a) (.int b)).bind T.d)
def vo(sg:Str)(a b:Int):Int:=num sg a b%1099511627776
def VH{a b:Int}:Vn (vo sg a b):=by unfold vo;constructor<;>lia
def AH{a b:Int}(hb':Vn b):F41 [.g (.str sg),I a,I b] ch=Z (I (vo sg a b),ch):=by
 have key:F40 [.g (.str sg),I a,I b] ch=Z (I (num sg a b),ch):=by
  have hm:HY.g (.int a) (.int b)=Z (.f (.int (a*b))):=by simp[HY,Jh,ia,gG (i:=a) (j:=b) Θ Θ]
  unfold num;by_cases h:sg=Jv "+"
  .rw[if_pos h];exact xR (.t 0 (LV (decide_eq_true h)) .nil)
  have O:=LV (decide_eq_false h);rw[if_neg h];clear h;by_cases h:sg=Jv "-"
  .rw[if_pos h];exact xR (.t 0 O (.t 0 (LV (decide_eq_true h)) .nil))
  have e2:=LV (decide_eq_false h);rw[if_neg h];clear h;by_cases h:sg=Jv "*"
  .rw[if_pos h];exact xR (.t 0 O (.t 0 e2 (.t 0 (LV (decide_eq_true h)) (.t 0 hm .nil))))
  have W:=LV (decide_eq_false h);rw[if_neg h];clear h;by_cases h:sg=Jv "<"
  .rw[if_pos h];by_cases U:a<b
   .rw[if_pos U];exact xR (.t 0 O (.t 0 e2 (.t 0 W (.t 0 (LV (decide_eq_true h)) (.t 0 (Me (decide_eq_true U)) .nil)))))
   .rw[if_neg U];exact xR (.t 0 O (.t 0 e2 (.t 0 W (.t 0 (LV (decide_eq_true h)) (.t 0 (Me (decide_eq_false U)) .nil)))))
  have e4:=LV (decide_eq_false h);rw[if_neg h];clear h;by_cases h:sg=Jv "="
  .rw[if_pos h];by_cases U:a=b
   .rw[if_pos U];exact xR (.t 0 O (.t 0 e2 (.t 0 W (.t 0 e4 (.t 0 (LV (decide_eq_true h)) (.t 0 (Mb (decide_eq_true U)) .nil))))))
   .rw[if_neg U];exact xR (.t 0 O (.t 0 e2 (.t 0 W (.t 0 e4 (.t 0 (LV (decide_eq_true h)) (.t 0 (Mb (decide_eq_false U)) .nil))))))
  have e5:=LV (decide_eq_false h);rw[if_neg h];clear h;by_cases h:sg=Jv "&"
  .rw[if_pos h];exact xR (.t 0 O (.t 0 e2 (.t 0 W (.t 0 e4 (.t 0 e5 (.t 0 (LV (decide_eq_true h)) .nil))))))
  have e6:=LV (decide_eq_false h);rw[if_neg h];clear h;by_cases h:sg=Jv "|"
  .rw[if_pos h];exact xR (.t 0 O (.t 0 e2 (.t 0 W (.t 0 e4 (.t 0 e5 (.t 0 e6 (.t 0 (LV (decide_eq_true h)) .nil)))))))
  rw[if_neg h];exact xR (.t 0 O (.t 0 e2 (.t 0 W (.t 0 e4 (.t 0 e5 (.t 0 e6 (.t 0 (LV (decide_eq_false h)) .nil)))))))
 exact xR (.v 0 key .nil)
end
variable{y:Str}
def DI{x:Str}(h:x.length+y.length<=G6):c5 (.str x) (.str y)=Z (.f (.str (x++y))):=if_pos h
def Gb{x:Str}{i:Int}(h:x.length<=G6):UG (.str x) (.int i)=(Ji x.cps.toList i).map λc=>.f (.str ⟨#[c]⟩):=if_pos h
def p7{n:Nat}(h:n<=1000000):n<=G6:=JS h Ω
def oz(cs:B Nat):Tx "" (cs.map λc=>(⟨#[c]⟩:Str))=⟨cs.toArray⟩:=by
 have W:("":Str).cps=#[]:=by decide +kernel
 have go:∀(l:B Nat)(O:Array Nat),(l.map λc=>(⟨#[c]⟩:Str)).foldl (λO p=>O++("":Str).cps++p.cps) O=O++l.toArray:=by
  intro l;induction l with
  |nil=>intro O;simp
  |cons c l U=>intro O;rw[Hz,Ta,U,W];simp
 unfold Tx JV.Str.glued;cases cs with
 |nil=>rfl
 |cons c r=>show(⟨(r.map λc=>(⟨#[c]⟩:Str)).foldl (λO p=>O++("":Str).cps++p.cps) (#[c]:Array Nat)⟩:Str)=_;rw[go];simp
def lE(cs:B Nat)(h:cs.length<=1000):JoinOk "" (cs.map λc=>(⟨#[c]⟩:Str))=C:=by
 unfold JoinOk
 have h1:∀y∈cs.map (λc=>(⟨#[c]⟩:Str)),y.length<=1:=λy O=>by have⟨c,_,rfl⟩:=HG.mp O;exact nL _
 rw[StrLaws.joinFits h1 (by rw[HN,show("":Str).length=0 by decide +kernel];lia)];rfl
theorem eh:∀ts:B Str,db (ts.map .str)=Z ts
 |[]=>rfl
 |t::r=>by show(db (r.map .str)).map (t::·)=_;rw[eh r];rfl
noncomputable def PM(cs:B Nat):B Dt:=cs.map λc=>.str ⟨#[c]⟩
def v0{cs:B Nat}(h:cs.length<=1000):kJ (.str "") [.e (PM cs)]=Z (.f (.str ⟨cs.toArray⟩)):=by
 have e:PM cs=(cs.map λc=>(⟨#[c]⟩:Str)).map .str:=by unfold PM;rw[IV];rfl
 show(db (PM cs)).bind _=_;rw[e,eh,G8,if_pos (lE cs h),oz]
def DJ{α:Type}{xs:B α}{i:Int}(h0:0<=i)(h1:i<xs.length):∃v,Ji xs i=Z v/\v∈xs:=by
 have⟨n,rfl⟩:=QC h0;have O:n<xs.length:=by lia
 exact⟨xs[n],xZ (by simp[O]),P2 O⟩
def zx(x:Str):x.length=x.cps.toList.length:=by show x.cps.size=_;simp
def zy{x:Str}{i:Int}(hl:x.length<=1000000)(h0:0<=i)(h1:i<x.length):∃c,UG (.str x) (.int i)=Z (.f (.str ⟨#[c]⟩))/\c∈x.cps.toList:=by have⟨c,e,O⟩:=DJ (xs:=x.cps.toList) h0 (by rw[<- zx];exact h1);refine⟨c,?_,O⟩;rw[Gb (p7 hl),e];rfl
inductive Rw where
 |op (x sg:Str) (a b:rb)|load (x n:Str)|store (n:Str) (a:rb)|take (x n:Str) (a:rb)|lay (n:Str) (a b:rb)|copy (x:Str) (a:rb)|IZ (x:Str)|say (a:rb)|K8 (x:Str) (t:Int)|go (t:Int)|fin (a:rb)
noncomputable def Rw.d:Rw->Dt
 |.op x sg a b=>.t [.str "op",.str x,.str sg,av a,av b]
 |.load x n=>.t [.str "load",.str x,.str n]
 |.store n a=>.t [.str "store",.str n,av a]
 |.take x n a=>.t [.str "take",.str x,.str n,av a]
 |.lay n a b=>.t [.str "lay",.str n,av a,av b]
 |.copy x a=>.t [.str "copy",.str x,av a]
 |.IZ x=>.t [.str "hear",.str x]
 |.say a=>.t [.str "say",av a]
 |.K8 x t=>.t [.str "if",.str x,.int t]
 |.go t=>.t [.str "go",.int t]
 |.fin a=>.t [.str "end",av a]
def Vp(sh:Sh)(n:Str)(p:Nat):Prop:=∃(k m:Nat),sh[k]?=Z (n,m)/\p<m
def oA(x:Fx)(sh:Sh)(n:Str):Prop:=∃(k m:Nat),sh[k]?=Z (n,m)/\0<m/\ah x.sk x.sv (.inr n)=Z (.int m)
def v3(x:Fx)(sh:Sh):Rw->Prop
 |.op _ _ a b=>bK a/\bK b
 |.load _ n=>Vp sh n 0
 |.store n a=>Vp sh n 0/\bK a
 |.take _ n a=>oA x sh n/\bK a
 |.lay n a b=>oA x sh n/\bK a/\bK b
 |.copy _ a|.say a|.fin a=>bK a
 |.IZ _|.K8 _ _|.go _=>True
structure Y2(x:Fx)(sh:Sh):Prop where
 nd:(sh.map (·.1)).Nodup
 tw:∀d∈x.tw,∃s,d=.str s
 inc:∀d∈x.inc,Vi d
structure AM where
 pl:Nat
 dn:Int
 he:Int
 out:List Int
 b:Str->Int
 f:Vf
def sz(x:Fx)(n:Str):Int:=iv 0 (ah x.sk x.sv (.inr n))
noncomputable def mU:Rw->Bool
 |.op _ _ _ _|.load _ _|.take _ _ _|.copy _ _|.IZ _=>C
 |_=>ξ
def Rw.x:Rw->Str
 |.op x _ _ _|.load x _|.take x _ _|.copy x _|.IZ x=>x
 |_=>Jv ""
def bm(x:Fx)(a:AM):Rw->Int
 |.op _ sg p q=>vo sg (wv a.b p) (wv a.b q)
 |.load _ n=>a.f n 0
 |.take _ n p=>a.f n (wv a.b p%sz x n).toNat
 |.copy _ p=>wv a.b p
 |.IZ _=>NJ x.inc a.he
 |_=>0
def LW(a:AM):Rw->Int
 |.IZ _=>a.he+1
 |_=>a.he
def bu(b:Str->Int)(x:Str)(v:Int):Str->Int:=λs=>if x=s then v else b s
def Kg(x:Fx)(a:AM)(r:Rw):AM:=match r with
 |.store n p=>{a with f:=fu a.f n 0 (wv a.b p)}
 |.lay n p q=>{a with f:=fu a.f n (wv a.b p%sz x n).toNat (wv a.b q)}
 |.say p=>{a with out:=a.out++[wv a.b p]}
 |.K8 _ _|.go _|.fin _=>a
 |r=>{a with he:=LW a r,b:=bu a.b r.x (bm x a r)}
def MH(a:AM):Rw->Int
 |.go t=>t
 |.K8 y t=>if a.b y=0 then a.pl+1 else t
 |_=>a.pl+1
def O4(x:Fx)(a:AM)(r:Rw):AM:={Kg x {a with dn:=a.dn+1} r with pl:=(MH a r).toNat}
variable{r:Rw}
def p8{x:Fx}{a:AM}(h:mU r=C):Kg x a r={a with he:=LW a r,b:=bu a.b r.x (bm x a r)}:=by cases r<;>first|(cases h;done)|rfl
def bF(o:B Int):B (rb×Dt):=o.zipIdx.map λq=>(.inl (q.2:Int),.int q.1)
def v4{o:B Int}{v:Int}:bF (o++[v])=bF o++[(.inl (o.length:Int),.int v)]:=by simp[bF,List.zipIdx_append]
def v5{o:B Int}{i:Nat}:ah ((bF o).map (·.1)) ((bF o).map (·.2)) (JT (i:Int))=o[i]?.map Dt.int:=by
 have key:∀(o:B Int)(k:Nat),ah ((o.zipIdx k).map λq=>(JT (q.2:Int):rb)) ((o.zipIdx k).map λq=>Dt.int q.1) (JT ((k+i:Nat):Int))=o[i]?.map Dt.int:=by
  induction i with
  |zero=>intro o k;cases o<;>simp[ah]
  |succ i O=>
   intro o k;cases o with
   |nil=>simp[ah]
   |cons v o=>have:=O o (k+1);rw[show k+1+i=k+(i+1)by lia]at this;rwa[List.zipIdx_cons,Hz,ah,KU];rw[if_neg (by simp;lia)];exact this
 have:=key o 0;rwa[bF,IV,IJ];rw[Tg]at this;exact this
omit x in
theorem lF{κ:Type}[DecidableEq κ]{k:κ}{d:Dt}:∀{b:B (κ×Dt)},ah (b.map (·.1)) (b.map (·.2)) k=J->az b k d=b++[(k,d)]
 |[],_=>rfl
 |p::b,h=>by
  rwa[Hz,ah]at h;unfold az;split at h
  .cases h
  .rename_i e;rw[if_neg e,lF h];rfl
structure HA(sh:Sh)(N:Nat)(S:HS)(l:LS)(g:Vf)(a:AM):Prop where
 pl:l.pl=a.pl
 dn:l.dn=a.dn
 he:l.he=a.he
 h0:0<=a.he
 sy:l.sy=a.out.length
 du:l.du=0
 bx:bv l.bx 0=a.b
 bi:∀p∈l.bx,Vi p.2
 bn:l.bx.length<=N
 lg:∀q∈l.lg,(∃(n:Str)(p:Nat),q.1=[.inr n,.inl (p:Int)]/\Vp sh n p/\aU S.x n=C)/\Vi q.2
 ln:l.lg.length<=N
 nd:(l.lg.map (·.1)).Nodup
 f:va l.lg g=a.f
 gn:∀n p,Vn (g n p)
 ft:S.fst=bF a.out
 on:a.out.length<=N
section
variable{S:HS}{l:LS}{sh:Sh}{N:Nat}{g:Vf}{a:AM}
def RH:Vn 0:=by constructor<;>decide
def HA.bN(h:HA sh N S l g a)(s:Str):Vn (a.b s):=by rw[<- h.bx];exact VG RH h.bi s
def HA.fN(h:HA sh N S l g a)(n:Str)(p:Nat):Vn (a.f n p):=by rw[<- h.f];exact(mQ λd e=>(h.lg _ (aA e)).2).2 (h.gn n p)
def HA.wa(h:HA sh N S l g a)(p:rb){rf:B (rb×CV)}{tl:CH}:SZ [.ref 13,.g (av p)] (hl S l rf tl)=Z (I (wv a.b p),hl S l rf tl):=by have:=mT (S:=S) (rf:=rf) (tl:=tl) h.bi p;rw[h.du,h.bx]at this;exact this
def HA.val(h:HA sh N S l g a)(O:(sh.map (·.1)).Nodup){n:Str}{p:Nat}(hp:Vp sh n p):YV [.ref 0,.g (.str n),I p] (hz sh S (Z l) g)=Z (I (a.f n p),hz sh S (Z l) g):=by have⟨k,m,h1,h2⟩:=hp;have:=vY (S:=S) (l:=l) (g:=g) (λq U=>(h.lg q U).2) O h1 h2;rw[h.f]at this;exact this
def p9{x:Fx}{n:Str}(h:ah x.sk x.sv (.inr n)=Z (.int m)):sz x n=m:=by unfold sz;rw[h];rfl
def oB{v:Int}(h:0<m):(v%m).toNat<m:=by have h2:=M1 v (show(m:Int)≠0 by lia);have O:=O8 v (show(0:Int)<m by lia);lia
def HA.place(h:HA sh N S l g a){n:Str}(hs:oA S.x sh n)(p:rb):Vp sh n (wv a.b p%sz S.x n).toNat/\F38 [.ref 0,.g (.str n),.g (av p)] (hz sh S (Z l) g)=Z (I (wv a.b p%sz S.x n).toNat,hz sh S (Z l) g):=by have⟨k,m,h1,h2,O⟩:=hs;have:=vU (S:=S) (rf:=ai 16 sh) (tl:=ab sh g) h.bi p O h2;rw[h.du,h.bx]at this;rw[p9 O];exact⟨⟨k,m,h1,oB h2⟩,this⟩
omit x in
def iG(r:Rw)(hs:mU r=C)(X:Y2 S.x sh)(O:v3 S.x sh r)(h:HA sh N S l g a):F45 [.ref 0,.g r.d] (hz sh S (Z l) g)=Z (I (bm S.x a r),hz sh S (Z {l with he:=LW a r}) g):=by
 have same:hz sh S (Z {l with he:=a.he}) g=hz sh S (Z l) g:=by rw[<- h.he]
 have wa:=λp=>h.wa p (rf:=ai 16 sh) (tl:=ab sh g)
 cases r<;>try(cases hs;done)
 .rename_i x sg p q;have U:=AH (sg:=sg) (a:=wv a.b p) (b:=wv a.b q) (ch:=hz sh S (Z l) g) (mR h.bN O.2);rwa[LW,bm];rw[same];exact xR (.v 0 (wa p) (.v 0 (wa q) (.v 0 U .nil)))
 .rename_i x n;have U:YV [.ref 0,.g (.str n),.g (.int 0)] (hz sh S (Z l) g)=Z (I (a.f n 0),hz sh S (Z l) g):=h.val X.nd O;rwa[LW,bm];rw[same];exact xR (.v 0 U .nil)
 .rename_i x n p;have⟨h4,W⟩:=h.place O.1 p;have h6:=h.val X.nd h4;rwa[LW,bm];rw[same];generalize (wv a.b p%sz S.x n).toNat=z at W h6 ⊢;exact xR (.v 0 W (.v 0 h6 .nil))
 .rename_i x p;rwa[LW,bm];rw[same];exact xR (.v 0 (wa p) .nil)
 .have h1:=sF (S:=S) (l:=l) (rf:=ai 16 sh) (tl:=ab sh g) X.inc (by rw[h.he];exact h.h0);rw[h.he]at h1;rwa[LW,bm];exact xR (.v 0 h1 .nil)
end
variable{RI:CV}
section
variable{S:HS}{l:LS}{sh:Sh}{N:Nat}{g:Vf}{a:AM}
def vfs:vw (hb S RI rf tl) (.ref 8)=Z (.HC (S.fst.map (·.1)) (S.fst.map (·.2))):=by show(dats ((dp S.fst).map (·.2))).map (Dt.HC ((dp S.fst).map (·.1)))=_;rw[dA,dZ];rfl
def zz{o:B Int}{v:Int}(U:S.fst=bF o)(W:o.length<G6){RI:CV}{rf:B (rb×CV)}{tl:CH}:F39 [.ref 2,I o.length,I v] (hb S RI rf tl)=Z (.g .ek,hb {S with fst:=bF (o++[v])} RI rf tl):=by
 have q:ah (S.fst.map (·.1)) (S.fst.map (·.2)) (JT (o.length:Int))=J:=by rw[U,v5];simp
 have O:oNi.g (.int o.length) (.HC (S.fst.map (·.1)) (S.fst.map (·.2)))=Z (.f (.bl (!(ah (S.fst.map (·.1)) (S.fst.map (·.2)) (JT (o.length:Int))).isSome))):=rfl;rw[q]at O;have hp:=gx (b:=S.fst) (x:=.inl (o.length:Int)) (v:=.int v) (by rw[U];simpa[bF] using W);rw[lF q,U,<- v4,<- U]at hp;exact xR (.d 0 (vfs (S:=S) (tl:=tl) (RI:=RI) (rf:=rf)) (.t 0 O (.p 0 hp .nil)))
omit x in
theorem mV{κ:Type}[DecidableEq κ]{k:κ}{d:Dt}:∀{b:B (κ×Dt)},(b.map (·.1)).Nodup->((az b k d).map (·.1)).Nodup/\∀j,j∈(az b k d).map (·.1)->j=k\/j∈b.map (·.1)
 |[],_=>by simp[az]
 |p::b,h=>by
  have h':=Jr.mp h;have⟨W,U⟩:=mV (k:=k) (d:=d) (b:=b) h'.2;unfold az;split
  .exact⟨h,λj O=>.inr O⟩
  .rename_i e;refine⟨Jr.mpr ⟨λhm=>?_,W⟩,λj O=>?_⟩
   .rcases U _ hm with q|q
    .exact e q
    .exact h'.1 q
   .rcases IE.mp O with q|q
    .exact .inr (by rw[q];exact .head _)
    .rcases U _ q with q|q
     .exact .inl q
     .exact .inr (.tail _ q)
def HA.up(h:HA sh N S l g a):HA sh (N+1) S l g a:=⟨h.pl,h.dn,h.he,h.h0,h.sy,h.du,h.bx,h.bi,Mj h.bn,h.lg,Mj h.ln,h.nd,h.f,h.gn,h.ft,Mj h.on⟩
def HA.setb(h:HA sh N S l g a){v h':Int}(U:Vn v)(O:0<=h'):HA sh (N+1) S {l with he:=h',bx:=az l.bx (.inr y) (.int v)} g {a with he:=h',b:=bu a.b y v}:=by
 refine⟨h.pl,h.dn,rfl,O,h.sy,h.du,?_,λp hp=>?_,JS fm (Te h.bn),h.lg,Mj h.ln,h.nd,h.f,h.gn,h.ft,Mj h.on⟩
 .funext s;show lv _ _ _=_;rw[oy];unfold bu;rw[<- h.bx];by_cases e:y=s<;>simp[e]
 .rcases gM hp with rfl|hp
  .exact U.i
  .exact h.bi p hp
def HA.wr(h:HA sh N S l g a){n:Str}{p:Nat}{v:Int}(hv:Vn v)(hp:Vp sh n p):∃O g',(if aU S.x n then hz sh S (Z {l with lg:=az l.lg [.inr n,.inl p] (.int v)}) g else hz sh S (Z l) (fu g n p v))=hz sh S (Z O) g'/\HA sh (N+1) S O g' {a with f:=fu a.f n p v}/\O.lg=(if aU S.x n then az l.lg [.inr n,.inl p] (.int v)else l.lg)/\∀n' p',aU S.x n'=C->g' n' p'=g n' p':=by
 cases q:aU S.x n with
 |true=>
  refine⟨_,g,rfl,⟨h.pl,h.dn,h.he,h.h0,h.sy,h.du,h.bx,h.bi,Mj h.bn,λr U=>?_,JS fm (Te h.ln),(mV h.nd).1,?_,h.gn,h.ft,Mj h.on⟩,rfl,λ_ _ _=>rfl⟩
  .rcases gM U with rfl|U
   .exact⟨⟨n,p,rfl,hp,q⟩,hv.i⟩
   .exact h.lg r U
  .funext n' p';show lv _ _ _=fu a.f n p v n' p';rw[oy];unfold fu;rw[<- h.f];by_cases e:n'=n/\p'=p
   .rw[if_pos e,if_pos (by rw[e.1,e.2])]
   .rw[if_neg e,if_neg (by rwa[OA,OI,TC,and_true];intro w;exact e ⟨w.1.symm,Θ⟩)]
 |false=>
  refine⟨l,fu g n p v,rfl,⟨h.pl,h.dn,h.he,h.h0,h.sy,h.du,h.bx,h.bi,Mj h.bn,h.lg,Mj h.ln,h.nd,?_,λn' p'=>?_,h.ft,Mj h.on⟩,rfl,λn' p' W=>by unfold fu;rw[if_neg λe=>by rw[e.1,q]at W;cases W]⟩
  .funext n' p';show lv l.lg (fu g n p v n' p') _=fu a.f n p v n' p';unfold fu;rw[<- h.f];by_cases e:n'=n/\p'=p
   .rw[if_pos e,if_pos e];cases w:ah (l.lg.map (·.1)) (l.lg.map (·.2)) [JM n',JT (p':Int)]with
    |none=>unfold lv;rw[w];rfl
    |some d=>have⟨⟨m,j,h1,_,h2⟩,_⟩:=h.lg _ (aA w);rwa[OA,OI]at h1;rw[<- h1.1,e.1,q]at h2;cases h2
   .rw[if_neg e,if_neg e]
  .unfold fu;split
   .exact hv
   .exact h.gn n' p'
def PQ(x:Fx)(a:AM)(r:Rw)(lg:B (B rb×Dt)):B (B rb×Dt):=match r with
 |.store n p=>if aU x n then az lg [.inr n,.inl ((0:Nat):Int)] (.int (wv a.b p))else lg
 |.lay n p q=>if aU x n then az lg [.inr n,.inl ((wv a.b p%sz x n).toNat:Int)] (.int (wv a.b q))else lg
 |_=>lg
def DK(h:HA sh N S l g a)(hi:∀d∈S.x.inc,Vi d)(O:v3 S.x sh r):Vn (bm S.x a r):=by cases r<;>first|exact VH|exact h.fN _ _|exact mR h.bN O|exact AG hi|exact RH
def DL(r:Rw)(hs:∀a,r≠.fin a)(X:Y2 S.x sh)(W:v3 S.x sh r)(h:HA sh N S l g a)(hN:N<G6):∃O g',YW [.ref 0,.g r.d] (hz sh S (Z l) g)=Z (.g .ek,hz sh {S with fst:=bF (Kg S.x a r).out} (Z O) g')/\HA sh (N+1) {S with fst:=bF (Kg S.x a r).out} O g' (Kg S.x a r)/\O.lg=PQ S.x a r l.lg/\∀n p,aU S.x n=C->g' n p=g n p:=by
 have U:l.bx.length<G6:=P9 h.bn hN;have sS:({S with fst:=bF a.out}:HS)=S:=by rw[<- h.ft]
 have set:mU r=C->YW [.ref 0,.g r.d] (hz sh S (Z l) g)=Z (.g .ek,hz sh S (Z {l with he:=LW a r,bx:=az l.bx (.inr r.x) (.int (bm S.x a r))}) g)->∃O g',YW [.ref 0,.g r.d] (hz sh S (Z l) g)=Z (.g .ek,hz sh {S with fst:=bF (Kg S.x a r).out} (Z O) g')/\HA sh (N+1) {S with fst:=bF (Kg S.x a r).out} O g' (Kg S.x a r)/\O.lg=PQ S.x a r l.lg/\∀n p,aU S.x n=C->g' n p=g n p:=λhq e=>by rw[p8 hq,sS];exact⟨_,g,e,h.setb (DK h X.inc W) (by have:=h.h0;cases r<;>rwa[LW]<;>lia),by cases r<;>first|(cases hq;done)|rfl,λ_ _ _=>rfl⟩
 have wr:∀{n:Str}{p:Nat}{v:Int},Vn v->Vp sh n p->∃O g',YU [.ref 0,.g (.str n),I p,I v] (hz sh S (Z l) g)=Z (.g .ek,hz sh S (Z O) g')/\HA sh (N+1) S O g' {a with f:=fu a.f n p v}/\O.lg=(if aU S.x n then az l.lg [.inr n,.inl p] (.int v)else l.lg)/\∀n' p',aU S.x n'=C->g' n' p'=g n' p':=λ{n p v} hv hp=>by have⟨O,g',e,H⟩:=h.wr hv hp;have⟨k,m,h1,h2⟩:=hp;have:=vZ (S:=S) (l:=l) (g:=g) (v:=v) X.tw X.nd h1 h2 (P9 h.ln hN);rw[e]at this;exact⟨O,g',this,H⟩
 cases r with
 |op x sg p q=>have h1:=iG (.op x sg p q) rfl X W h;refine set rfl ?_;exact xR (.v 0 h1 (.p 0 (gx (b:=l.bx) (x:=.inr x) (v:=.int (bm S.x a (.op x sg p q))) U) .nil))
 |load x n=>have h1:=iG (.load x n) rfl X W h;refine set rfl ?_;exact xR (.v 0 h1 (.p 0 (gx (b:=l.bx) (x:=.inr x) (v:=.int (bm S.x a (.load x n))) U) .nil))
 |take x n p=>have h1:=iG (.take x n p) rfl X W h;refine set rfl ?_;exact xR (.v 0 h1 (.p 0 (gx (b:=l.bx) (x:=.inr x) (v:=.int (bm S.x a (.take x n p))) U) .nil))
 |copy x p=>have h1:=iG (.copy x p) rfl X W h;refine set rfl ?_;exact xR (.v 0 h1 (.p 0 (gx (b:=l.bx) (x:=.inr x) (v:=.int (bm S.x a (.copy x p))) U) .nil))
 |IZ x=>have h1:=iG (.IZ x) rfl X W h;refine set rfl ?_;exact xR (.v 0 h1 (.p 0 (gx (b:=l.bx) (x:=.inr x) (v:=.int (bm S.x a (.IZ x))) U) .nil))
 |store n p=>have h1:=h.wa p (rf:=ai 16 sh) (tl:=ab sh g);have⟨O,g',h2,h3⟩:=wr (mR h.bN W.2) W.1;have N8:YU [.ref 0,.g (.str n),.g (.int 0),I (wv a.b p)] (hz sh S (Z l) g)=Z (.g .ek,hz sh S (Z O) g'):=h2;refine⟨O,g',?_,by show HA sh (N+1) {S with fst:=bF a.out} _ _ _/\_;rw[sS];exact h3⟩;show _=Z (CV.g .ek,hz sh {S with fst:=bF a.out} _ _);rw[sS];exact xR (.v 0 h1 (.v 0 N8 .nil))
 |lay n p q=>have⟨h4,h5⟩:=h.place W.1 p;have h1:=h.wa q (rf:=ai 16 sh) (tl:=ab sh g);have⟨O,g',h2,h3⟩:=wr (mR h.bN W.2.2) h4;refine⟨O,g',?_,by show HA sh (N+1) {S with fst:=bF a.out} _ _ _/\_;rw[sS];exact h3⟩;show _=Z (CV.g .ek,hz sh {S with fst:=bF a.out} _ _);rw[sS];generalize (wv a.b p%sz S.x n).toNat=z at h5 h2;exact xR (.v 0 h5 (.v 0 h1 (.v 0 h2 .nil)))
 |say p=>have h1:=h.wa p (rf:=ai 16 sh) (tl:=ab sh g);have h2:=zz (S:=S) (v:=wv a.b p) h.ft (P9 h.on hN) (tl:=lO l::.dK (dp l.bx)::.dT (dp l.lg)::ab sh g) (RI:=.ref 13) (rf:=ai 16 sh);rw[<- h.sy]at h2;refine⟨{l with sy:=l.sy+1},g,?_,⟨h.pl,h.dn,h.he,h.h0,by show l.sy+1=_;rw[h.sy];simp[Kg],h.du,h.bx,h.bi,Mj h.bn,h.lg,Mj h.ln,h.nd,h.f,h.gn,rfl,by have:=h.on;simp[Kg];lia⟩,rfl,λ_ _ _=>rfl⟩;exact xR (r:=(_,hz sh {S with fst:=bF (a.out++[wv a.b p])} (Z {l with sy:=l.sy+1}) g)) (.v 0 h1 (.v 0 h2 .nil))
 |K8 x t=>refine⟨l,g,?_,by show HA sh (N+1) {S with fst:=bF a.out} _ _ _/\_;rw[sS];exact⟨h.up,rfl,λ_ _ _=>rfl⟩⟩;show _=Z (CV.g .ek,hz sh {S with fst:=bF a.out} _ _);rw[sS];exact xR (r:=(_,hz sh S (Z l) g)) .nil
 |go t=>refine⟨l,g,?_,by show HA sh (N+1) {S with fst:=bF a.out} _ _ _/\_;rw[sS];exact⟨h.up,rfl,λ_ _ _=>rfl⟩⟩;show _=Z (CV.g .ek,hz sh {S with fst:=bF a.out} _ _);rw[sS];exact xR (r:=(_,hz sh S (Z l) g)) .nil
 |fin a=>exact absurd rfl (hs a)
end
noncomputable def mW(i:Nat):Rw->Dt
 |.go t=>.t [.int t]
 |.K8 _ t=>.t [.int t,.int (i+1)]
 |.fin _=>.t []
 |_=>.t [.int (i+1)]
def jV(i:Nat)(r:Rw)(p:Int):Prop:=match r with
 |.go t=>p=t
 |.K8 _ t=>p=t\/p=i+1
 |.fin _=>False
 |_=>p=i+1
section
variable{S:HS}{l:LS}{sh:Sh}{N:Nat}{g:Vf}{a:AM}
omit x in
def v6(r:Rw)(hs:∀a,r≠.fin a):jV a.pl r (MH a r):=by
 cases r<;>first|rfl|exact absurd rfl (hs _)|skip
 rename_i y t;by_cases h:a.b y=0<;>simp[jV,MH,h]
def gU{L:B Dt}{i:Nat}{d:Dt}(h:L[i]?=Z d):Iw (.e L) (.int i)=Z d/\Iw (.t L) (.int i)=Z d:=by have hi:=af h;constructor<;>simp[Iw,bG,My,Ji,ly hi,h]
def cK{L:B Dt}{i:Nat}{d:Dt}{z:Int}(hz:z=i)(h:L[i]?=Z d):ixV ch (.g (.e L)) (.int z)=Z (.g d)/\ixV ch (.g (.t L)) (.int z)=Z (.g d):=by
 subst hz;constructor
 .show(Iw _ _).map CV.g=_;rw[(gU h).1];rfl
 .show(Iw _ _).map CV.g=_;rw[(gU h).2];rfl
noncomputable def kd:Rw->Str
 |.op _ _ _ _=>"op"
 |.load _ _=>"load"
 |.store _ _=>"store"
 |.take _ _ _=>"take"
 |.lay _ _ _=>"lay"
 |.copy _ _=>"copy"
 |.IZ _=>"hear"
 |.say _=>"say"
 |.K8 _ _=>"if"
 |.go _=>"go"
 |.fin _=>"end"
def v7:ixV ch (.g r.d) (.int 0)=Z (.g (.str (kd r))):=by cases r<;>kernel_rfl
def AI(hs:∀a,r≠.fin a):KH.g (.str (kd r)) (.str "end")=Z (.f (.bl ξ)):=by cases r<;>first|exact absurd rfl (hs _)|kernel_rfl
def N3(r:Rw)(hs:∀a,r≠.fin a)(U:S.x.Nu[a.pl]?=Z (mW a.pl r))(h:HA sh N S l g a){tl:CH}:F47 [.ref 0,.g r.d] (hl S l (ai 16 sh) tl)=Z (I (MH a r),hl S l (ai 16 sh) tl):=by
 have O:=(cK (ch:=hl S l (ai 16 sh) tl) h.pl U).1;cases r with
 |K8 x t=>
  have h1:=h.wa (.inr x) (rf:=ai 16 sh) (tl:=tl);by_cases h0:a.b x=0
  .rw[show MH a (.K8 x t)=a.pl+1 from if_pos h0];exact xR (.c 0 O (.v 0 h1 (.t 0 (Mb (decide_eq_true h0)) .nil)))
  .rw[show MH a (.K8 x t)=t from if_neg h0];exact xR (.c 0 O (.v 0 h1 (.t 0 (Mb (decide_eq_false h0)) .nil)))
 |fin a=>exact absurd rfl (hs a)
 |_=>exact xR (.c 0 O .nil)
theorem v8{b:Str->Int}(w:∀s,SZ [.ref 13,.g (.str s)] ch=Z (I (b s),ch)){f:B CV}(O:ch[13]?=Z (.ins 1 f))(bs:B Str):aF (Hq (.one 0)) IN (Je (G3 (eK (.str "box")) (G3 (eV 0) (G3 (K4 1 2 SZ (eV 1) (G3 (eV 0) He)) He)))) [J,Z (.ref 13)] (bs.map .str) ch=Z (bs.map λs=>.g (Sm.d (.box s (b s))),ch):=aM (f:=Dt.str) (g:=λs=>Sm.d (.box s (b s))) λs _=>⟨_,rfl,rfl,by simp[Je,G3,He,eK,eV,K4,Kc,lent,O,w s,CV.old,dats,Ih,Sm.d]⟩
def Lx(ts:B Tn):B (B rb×Dt):=ts.map λt=>([.inr t.1.1,.inl (t.1.2:Int)],.int t.2)
theorem v9{q:Str->Nat->Prop}:∀{lg:B (B rb×Dt)},(∀e∈lg,(∃(n:Str)(p:Nat),e.1=[.inr n,.inl (p:Int)]/\q n p)/\Vi e.2)->∃ts:B Tn,lg=Lx ts/\∀t∈ts,q t.1.1 t.1.2/\Vn t.2
 |[],_=>⟨[],rfl,Ξ⟩
 |e::lg,h=>by
  have⟨ts,h1,h3⟩:=v9 λq W=>h q (.tail _ W)
  have⟨⟨n,p,h4,U⟩,i,h6,h7⟩:=h e (.head _);have⟨q1,q2⟩:=e;cases h4;cases h6;exact⟨((n,p),i)::ts,by rw[h1];rfl,λt O=>by rcases IE.mp O with rfl|O;exact⟨U,h7⟩;exact h3 t O⟩
theorem mX:∀{ts:B Tn},dR (Lx ts)=ts.map Tn.d
 |[]=>rfl
 |t::ts=>by have:=mX (ts:=ts);rwa[dR,Lx,Hz]at this ⊢;rw[this];rfl
def dm(a:Nat)(b c d:Int)(ks:B Bx)(ts:B Tn):B Sm:=Sm.Nt a b c d::(ks.map λk=>.box k.1 k.2)++oo ts++[.LU]++bj ts
def zA{bs:B Str}{ts:B Tn}(h:HA sh N S l g a)(ht:l.lg=Lx ts)(hN:N+bs.length<1000000):F48 [.ref 13,.g (.t (bs.map .str))] (hz sh S (Z l) g)=Z (.ref ((ab sh g).length+16),hl S l (ai 16 sh) (ab sh g++[dl ((dm a.pl a.dn a.he a.out.length (bs.map λs=>(s,a.b s)) ts).map Sm.d)])):=by
 have k3:=v8 (b:=a.b) (ch:=hz sh S (Z l) g) (λs=>h.wa (.inr s) (rf:=ai 16 sh) (tl:=ab sh g)) rfl bs;have t1:dR l.lg=ts.map Tn.d:=by rw[ht,mX]
 have UM:ts.length<=N:=by have:=h.ln;rw[ht]at this;simpa[Lx] using this
 have n1:=λk=>mP (ch:=hz sh S (Z l) g) (k:=k) (ts:=ts) (by rw[Ih];lia)
 rw[<- t1]at n1;have hz':((dp l.lg).map (·.1)).zip (l.lg.map (·.2))=l.lg:=om;have hb0:Sm.d (.Nt a.pl a.dn a.he a.out.length)=.t [.str "begin",.int l.pl,.int l.dn,.int l.he,.int l.sy]:=by rw[h.pl,h.dn,h.he,h.sy];rfl
 obtain⟨U,O⟩:∃U:Dt,U=.t [.str "begin",.int l.pl,.int l.dn,.int l.he,.int l.sy]:=⟨_,rfl⟩;let η:B Dt:=bs.map λs=>Sm.d (.box s (a.b s))
 have W:Jj .v [J,Z 0] (iE (eV 1)) (Hq (.one 0)) IN (Je (G3 (eK (.str "box")) (G3 (eV 0) (G3 (K4 1 2 SZ (eV 1) (G3 (eV 0) He)) He)))) [Z (.ref 13),Z (.g (.t (bs.map .str))),Z (.g (.e [U])),J,J] (hz sh S (Z l) g)=Z (.g (.e η),hz sh S (Z l) g):=by unfold Jj;have:iE (eV 1) [Z (.ref 13),Z (.g (.t (bs.map .str))),Z (.g (.e [U])),J,J] (hz sh S (Z l) g)=Z (bs.map .str,hz sh S (Z l) g):=rfl;rw[this,G8];show((aF _ _ _ [J,Z (.ref 13)] _ _).bind _)=_;rw[k3,G8];dsimp only;rw[if_pos (by rw[HN,Ih];lia),dh];rfl
 let G (k:Str):B Dt:=ts.map λt=>.t [.str k,.str t.1.1,.int t.1.2,.int t.2]
 have hB:η.length=bs.length:=by simp[η]
 have hG:∀k,(G k).length=ts.length:=λk=>by simp[G]
 have SF:Rt .v (L6 1 6 (eV 0)) [Z (.ref 13),Z (.g (.t (bs.map .str))),Z (.g (.e [U])),Z (.g (.e η)),J] (hz sh S (Z l) g)=Z (.g (.e (dR l.lg)),hz sh S (Z l) g):=by have h13:(hz sh S (Z l) g)[13]?=Z (lO l):=rfl;have h15:(hz sh S (Z l) g)[15]?=Z (.dT (dp l.lg)):=rfl;rwa[Rt,L6,eV];simp[lent,h13,h15,lO,nZ,dA,hz',fin,T.d]
 have hw:(dm a.pl a.dn a.he a.out.length (bs.map λs=>(s,a.b s)) ts).map Sm.d=[U]++η++G "log"++[Sm.d .LU]++G "put":=by rw[O,<- hb0];simp[dm,η,G,oo,bj,Sm.d,IJ]
 rw[hw];have a1:=zt (a:=[U]) (b:=η) (by rw[Ih];simp[hB];lia);rw[O]at W SF a1 ⊢;exact xR (.v 0 W (.v 0 SF (.t 0 a1 (.v 0 (n1 "log") (.t 0 (zt (a:=[.t [.str "begin",.int l.pl,.int l.dn,.int l.he,.int l.sy]]++η) (b:=G "log") (by rw[Ih];simp[hB,hG];lia)) (.t 0 (zt (a:=[.t [.str "begin",.int l.pl,.int l.dn,.int l.he,.int l.sy]]++η++G "log") (b:=[Sm.d .LU]) (by rw[Ih];simp[hB,hG];lia)) (.v 0 (n1 "put") (.t 0 (zt (a:=[.t [.str "begin",.int l.pl,.int l.dn,.int l.he,.int l.sy]]++η++G "log"++[Sm.d .LU]) (b:=G "put") (by rw[Ih];simp[hB,hG];lia)) .nil))))))))
end
structure Ly(tl:CH)(sh:Sh):Prop where
 len:tl.length=sh.length
 all:∀{o:CO},o∈tl->∃L,o=dl L
variable{sh:Sh}
def cA{g:Vf}:Ly (ab sh g) sh:=⟨bM,λ{o} h=>by have⟨q,_,rfl⟩:=HG.mp h;exact⟨_,rfl⟩⟩
section
variable{S:HS}{lo:ζ LS}{tl:CH}{sh:Sh}{Y:Nat->Nat}{l:LS}
def wb:13<=IY lo:=by cases lo<;>simp[IY]
def mY:(Hj lo tl).length+13=tl.length+IY lo:=by cases lo<;>simp[Hj,IY]
def DM:(hc sh S lo tl).length=tl.length+IY lo:=by rw[<- mY];rfl
def jW{L:B Dt}:Ho Y (dl L)=dl L:=by simp[Ho,rn,IJ]
theorem iH:∀{sh:Sh}{o n:Nat},o+sh.length<=n->(ai o sh).all (λp=>Kr n p.2)=C
 |[],_,_,_=>rfl
 |p::r,o,n,h=>by rwa[JK]at h;rwa[ai,Ks,Kr,Hm,decide_eq_true_eq];exact⟨Θ,iH Θ⟩
def qa{L:B Dt}{n:Nat}:(L.map CV.g).all (Kr n)=C:=by simp[Kr]
def AJ{L:B Dt}{n:Nat}:Qy n (dl L)=C:=qa
def wc{κ:Type}{b:B (κ×Dt)}{n:Nat}:(dp b).all (λp=>Kr n p.2)=C:=by simp[dp,Kr]
def oC{d:Dt}{n:Nat}:Kr n (.g d)=C:=rfl
def oE{i n:Nat}:Kr n (.ref i)=decide (i<n):=rfl
def Gc(h:Ly tl sh):Cl (hc sh S lo tl):=by
 unfold Cl;rw[DM];have O:=iH (sh:=sh) (o:=IY lo) (n:=tl.length+IY lo) (by rw[h.len];lia);have U:tl.all (Qy (tl.length+IY lo))=C:=Kk.mpr λo W=>by have⟨L,rfl⟩:=h.all W;exact AJ
 have lt:∀k,k<13->decide (k<tl.length+IY lo)=C:=λk hk=>decide_eq_true (by have:=wb (lo:=lo);lia)
 cases lo with
 |none=>rwa[hc,hb,O3,hO,Hj,Mc,Ks,Zt,Qy,oC,oE,qa,wc,O,U,lt,RX,Zx]
 |some l=>
  have l2:∀k,k<16->decide (k<tl.length+IY (Z l))=C:=λk hk=>decide_eq_true (by show k<tl.length+16;lia)
  rwa[hc,hb,O3,hO,Hj,Mc,lO,Ks,Zt,Qy,oC,oE,qa,wc,O,U,l2,RX,Zx]
theorem fq:∀{sh:Sh}{o o':Nat},(∀k,k<sh.length->Y (k+o)=k+o')->IP Y (ai o sh)=ai o' sh
 |[],_,_,_=>rfl
 |p::r,o,o',h=>by
  have h0:=h 0 Ξ;rwa[Tg]at h0;have O:=fq (sh:=r) (o:=o+1) (o':=o'+1) λk U=>by have:=h (k+1) ‹U›;rw[show k+(o+1)=k+1+o by lia,this];lia
  rwa[IP,ai,Hz,rn,h0]at O ⊢;rw[O]
def lG(h:Ly tl sh)(h4:Y 14=14)(U:Y 15=15){o:CO}(O:o∈Hj lo tl):Ho Y o=o:=by
 have key:∀o∈tl,Ho Y o=o:=λo O=>by have⟨L,rfl⟩:=h.all O;exact jW
 cases lo with
 |none=>exact key o O
 |some l=>
  rwa[Hj,IE]at O;rcases O with rfl|rfl|rfl|O
  .simp[lO,Ho,rn,h4,U]
  .rwa[Ho,ee]
  .rwa[Ho,ee]
  .exact key o O
def mZ{lv:CV}{T raw:CH}(inj:∀i j,i<T.length+13->j<T.length+13->Y i=Y j->i=j)
 (h0:raw[Y 0]?=Z (Ho Y (hO S' lv (.ref 3)))) (h1:raw[Y 1]?=Z (Ho Y (.ins 2 [.ref 4,.ref 5,.ref 6,.ref 7,I (cI S'.c),.g (rD S'.res)]))) (h2:raw[Y 2]?=Z (Ho Y (.ins 0 [.ref 8,.g (.bl S'.unl)]))) (h3:raw[Y 3]?=Z (dl (S'.mu.map Sm.d))) (h4:raw[Y 4]?=Z (Ho Y (.dK rf))) (h5:raw[Y 5]?=Z (.e [.g (.t (S'.pg ξ).h),.g (.t (S'.pg C).h)])) (h6:raw[Y 6]?=Z (.e [.ref (Y 9),.ref (Y 10)])) (h7:raw[Y 7]?=Z (.e [.ref (Y 11),.ref (Y 12)])) (h8:raw[Y 8]?=Z (.dK (dp S'.fst))) (h9:raw[Y 9]?=Z (dl (S'.pg ξ).b)) (U:raw[Y 10]?=Z (dl (S'.pg C).b)) (O:raw[Y 11]?=Z (dl (S'.pg ξ).t)) (W:raw[Y 12]?=Z (dl (S'.pg C).t))
 (ht:∀i o,T[i]?=Z o->raw[Y (i+13)]?=Z (Ho Y o)):At Y (hb S' lv rf T) raw:=by
 refine⟨λi j hi hj=>inj i j hi hj,λ{i o} hi=>?_⟩;have e:∀L,Ho Y (dl L)=dl L:=λL=>jW
 rcases i with _|_|_|_|_|_|_|_|_|_|_|_|_|i
 .cases hi;exact h0
 .cases hi;exact h1
 .cases hi;exact h2
 .cases hi;rw[e];exact h3
 .cases hi;exact h4
 .cases hi;exact h5
 .cases hi;exact h6
 .cases hi;exact h7
 .cases hi;rwa[Ho,ee];exact h8
 .cases hi;rw[e];exact h9
 .cases hi;rw[e];exact U
 .cases hi;rw[e];exact O
 .cases hi;rw[e];exact W
 .exact ht i o hi
noncomputable def Mf(a b n:Nat):Nat->Nat:=λi=>if i=a then n else if i=b then n+1 else i
def we{b n:Nat}(O:a<13)(hb:b<13):rn (Mf a b n) (Mc lo)=Mc lo:=by
 cases lo
 .rfl
 .rwa[Mc,rn,Mf];rw[if_neg Θ,if_neg Θ]
def ei{b n k:Nat}(U:a<13)(hb:b<13)(O:13<=k):Mf a b n k=k:=by unfold Mf;rw[if_neg Θ,if_neg Θ]
def qb{b n:Nat}(O:a≠b):∀i j,i<n->j<n->Mf a b n i=Mf a b n j->i=j:=λi j hi U e=>by unfold Mf at e;split at e<;>split at e<;>(try split at e)<;>(try split at e)<;>lia
def wf{b n:Nat}(O:a<13)(hb:b<13):IP (Mf a b n) (ai (IY lo) sh)=ai (IY lo) sh:=fq λk U=>ei O hb (by have:=wb (lo:=lo);lia)
def oF{a:Nat}{b c d:Int}(U:S.c=C)(h:Ly tl sh):At (Mf 9 11 ((Hj lo tl).length+13)) (hc sh (ap S (.Nt a b c d)) lo tl) (O3 (mO S a b c d) (Mc lo) (ai (IY lo) sh) ((Hj lo tl).length+13) 10 ((Hj lo tl).length+13+1) 12 (Hj lo tl++[.e []]++[.e []])):=by
 have⟨x,pl,pg,k,res,fs,un,du⟩:=S;cases U;have O:=we (lo:=lo) (a:=9) (b:=11) (n:=(Hj lo tl).length+13) Θ Θ;have hr:=wf (sh:=sh) (lo:=lo) (a:=9) (b:=11) (n:=(Hj lo tl).length+13) Θ Θ;have hf:=λo W=>lG (Y:=Mf 9 11 ((Hj lo tl).length+13)) (lo:=lo) (o:=o) h (ei Θ Θ Θ) (ei Θ Θ Θ) W
 have hg:=λk hk=>ei (a:=9) (b:=11) (n:=(Hj lo tl).length+13) (k:=k) Θ Θ hk
 unfold hc;generalize Hj lo tl=T at*
 refine mZ (qb (a:=9) (b:=11) Ω) ?_ rfl rfl rfl ?_ rfl rfl ?_ rfl ?_ rfl ?_ rfl λi o hi=>?_
 .show Z (hO _ (Mc lo) (.ref 3))=_;rwa[hO,Ho,Hz,Mi,aX,fY,O];rfl
 .show Z (CO.dK (ai (IY lo) sh))=_;rwa[Ho,hr]
 .simp[Mf];show Z _=_;simp
 .show(T++[CO.e []]++[.e []])[T.length]?=_;simp[ap,up]
 .show(T++[CO.e []]++[.e []])[T.length+1]?=_;simp[ap,up]
 .rw[hg _ Θ,hf o (Il hi)];show(T++[CO.e []]++[.e []])[i]?=_;rw[NM,gL (af hi)];exact hi
def oG{a:Nat}{b c d:Int}(U:S.c=ξ)(h:Ly tl sh):At (Mf 10 12 ((Hj lo tl).length+13)) (hc sh (ap S (.Nt a b c d)) lo tl) (O3 (mO S a b c d) (Mc lo) (ai (IY lo) sh) 9 ((Hj lo tl).length+13) 11 ((Hj lo tl).length+13+1) (Hj lo tl++[.e []]++[.e []])):=by
 have⟨x,pl,pg,k,res,fs,un,du⟩:=S;cases U;have O:=we (lo:=lo) (a:=10) (b:=12) (n:=(Hj lo tl).length+13) Θ Θ;have hr:=wf (sh:=sh) (lo:=lo) (a:=10) (b:=12) (n:=(Hj lo tl).length+13) Θ Θ;have hf:=λo W=>lG (Y:=Mf 10 12 ((Hj lo tl).length+13)) (lo:=lo) (o:=o) h (ei Θ Θ Θ) (ei Θ Θ Θ) W
 have hg:=λk hk=>ei (a:=10) (b:=12) (n:=(Hj lo tl).length+13) (k:=k) Θ Θ hk
 unfold hc;generalize Hj lo tl=T at*
 refine mZ (qb (a:=10) (b:=12) Ω) ?_ rfl rfl rfl ?_ rfl rfl ?_ rfl rfl ?_ rfl ?_ λi o hi=>?_
 .show Z (hO _ (Mc lo) (.ref 3))=_;rwa[hO,Ho,Hz,Mi,aX,fY,O];rfl
 .show Z (CO.dK (ai (IY lo) sh))=_;rwa[Ho,hr]
 .simp[Mf];show Z _=_;simp
 .show(T++[CO.e []]++[.e []])[T.length]?=_;simp[ap,up]
 .show(T++[CO.e []]++[.e []])[T.length+1]?=_;simp[ap,up]
 .rw[hg _ Θ,hf o (Il hi)];show(T++[CO.e []]++[.e []])[i]?=_;rw[NM,gL (af hi)];exact hi
def sgB(b:Bool)(n:Nat):Nat->Nat:=bif b then Mf 9 11 n else Mf 10 12 n
def wg{b c d:Int}(h:Ly tl sh):At (sgB S.c ((Hj lo tl).length+13)) (hc sh (ap S (.Nt a b c d)) lo tl) (Qz (mO S a b c d) (Mc lo) (ai (IY lo) sh) ((Hj lo tl).length+13) (Hj lo tl++[.e []]++[.e []])):=by
 unfold sgB Qz;have e:(mO S a b c d).c=S.c:=rfl;rw[e];cases q:S.c with
 |true=>exact oF q h
 |false=>exact oG q h
noncomputable def S2(n:Nat):Nat->Nat:=λi=>if i<13 then i else if i<16 then n+(i-13)else i-3
def zB(h:Ly tl sh):At (S2 (tl.length+13)) (hc sh S (Z l) tl) (hb S (.ref (tl.length+13)) (ai 13 sh) (tl++[.ins 1 [I l.pl,I l.dn,I l.he,I l.sy,.ref (tl.length+13+1),I l.du,.ref (tl.length+13+2)],.dK (dp l.bx),.dT (dp l.lg)])):=by
 have W:IP (S2 (tl.length+13)) (ai 16 sh)=ai 13 sh:=fq λk hk=>by unfold S2;rw[if_neg Θ,if_neg Θ];lia
 refine mZ (λi j hi U e=>?_) ?_ rfl rfl rfl ?_ rfl rfl rfl rfl rfl rfl rfl rfl λi o hi=>?_
 .rwa[Hj,JK]at hi U;unfold S2 at e;split at e<;>split at e<;>(try split at e)<;>(try split at e)<;>lia
 .rfl
 .show Z (CO.dK (ai 13 sh))=_;rwa[Ho];rw[show IY (Z l)=16 from rfl,W]
 .have O:∀k,(hb S (.ref (tl.length+13)) (ai 13 sh) (tl++[.ins 1 [I l.pl,I l.dn,I l.he,I l.sy,.ref (tl.length+13+1),I l.du,.ref (tl.length+13+2)],.dK (dp l.bx),.dT (dp l.lg)]))[k+13]?=(tl++[CO.ins 1 [I l.pl,I l.dn,I l.he,I l.sy,.ref (tl.length+13+1),I l.du,.ref (tl.length+13+2)],.dK (dp l.bx),.dT (dp l.lg)])[k]?:=λ_=>rfl
  rcases i with _|_|_|i
  .cases hi;show(hb S _ _ _)[tl.length+13]?=_;rw[O,gR Θ,Nat.sub_self];rfl
  .cases hi;show(hb S _ _ _)[tl.length+13+1]?=_;rw[show tl.length+13+1=tl.length+1+13 by lia,O,gR Θ,P8];rwa[Ho,ee];rfl
  .cases hi;show(hb S _ _ _)[tl.length+13+2]?=_;rw[show tl.length+13+2=tl.length+2+13 by lia,O,gR Θ,P8];rwa[Ho,ee];rfl
  .have hi:tl[i]?=Z o:=hi;have:S2 (tl.length+13) (i+1+1+1+13)=i+13:=by unfold S2;rw[if_neg Θ,if_neg Θ];lia
   rw[this,O,gL (af hi),hi];have⟨L,rfl⟩:=h.all (Il hi);rw[jW]
noncomputable def VI(n:Nat):Nat->Nat:=λi=>if i=3 then n else i
def zC{P:B Sm}(h:Ly tl sh):At (VI (tl.length+16)) (hc sh {S with mu:=P} (Z l) tl) ((hl S l (ai 16 sh) (tl++[dl (P.map Sm.d)])).set 0 (hO S (.ref 13) (.ref (tl.length+16)))):=by
 have U:IP (VI (tl.length+16)) (ai 16 sh)=ai 16 sh:=fq λk hk=>by unfold VI;rw[if_neg Θ]
 refine mZ (λi j hi O e=>?_) rfl rfl rfl ?_ ?_ rfl rfl rfl rfl rfl rfl rfl rfl λi o hi=>?_
 .rwa[Hj,JK]at hi O;unfold VI at e;split at e<;>split at e<;>lia
 .show(tl++[dl (P.map Sm.d)])[tl.length]?=_;simp
 .show Z (CO.dK (ai 16 sh))=_;rwa[Ho];rw[show IY (Z l)=16 from rfl,U]
 .have W:=lG (Y:=VI (tl.length+16)) (lo:=Z l) (o:=o) h rfl rfl (Il hi);rw[W];show((hl S l (ai 16 sh) (tl++[dl (P.map Sm.d)])).set 0 (hO S (.ref 13) (.ref (tl.length+16))))[i+13]?=Z o;show(lO l::CO.dK (dp l.bx)::CO.dT (dp l.lg)::(tl++[dl (P.map Sm.d)]))[i]?=Z o;rcases i with _|_|_|i
  .exact hi
  .exact hi
  .exact hi
  .have hi:tl[i]?=Z o:=hi;show(tl++[dl (P.map Sm.d)])[i]?=Z o;rw[gL (af hi)];exact hi
end
structure HW(x:Fx)(S:HS):Prop where
 hx:S.x=x
 rs:S.res=J
structure XR(x:Fx)(R:List Rw)(sh:Sh)(nm:List Str):Prop where
 X:Y2 x sh
 rows:x.rows=R.map Rw.d
 Nu:∀(i:Nat) r,R[i]?=Z r->x.Nu[i]?=Z (mW i r)
 Y3:∀r∈R,v3 x sh r
 lead:∀(i:Nat) r p,R[i]?=Z r->jV i r p->∃j:Nat,p=j/\j<R.length
 kv:∀k d,ah x.kk x.kv k=Z d->∃bs:List Str,d=.t (bs.map .str)/\bs.Nodup/\bs.length<=6/\∀s∈bs,s∈nm
def To(sh:Sh)(F:Fd)(O:B CV)(cs:CH)(Q:HS->ζ LS->Vf->Prop):Prop:=∃S lo g Nr Y,F O cs=Z (.g .ek,Nr)/\cs.length<=Nr.length/\At Y (hz sh S lo g) Nr/\Y 0=0/\Q S lo g
def Can(sh:Sh)(S:HS):Sm->Prop
 |.put n p _=>Vp sh n p
 |.box _ _=>(S.pg (!S.c)).bs.length<G6
 |.log _ _ _=>(S.pg (!S.c)).ts.length<G6
 |.LU=>True
 |_=>False
def Y4(g:Vf):Sm->Vf
 |.put n p v=>fu g n p v
 |_=>g
def RJ(l:LS):B Sm->LS
 |[]=>{l with lg:=[]}
 |_=>l
section
variable{x:Fx}{R:B Rw}{sh:Sh}{nm:B Str}{N:Nat}{S S':HS}{lo Jg:ζ LS}{l:LS}{g g':Vf}{P:B Sm}{Q:HS->ζ LS->Vf->Prop}{a:AM}
def AK{L:B Sm}(h:L≠[]):WI.g (.int (L.map Sm.d).length) (.int 0)=Z (.f (.bl C)):=by
 cases L with
 |nil=>exact absurd rfl h
 |cons s L=>show Z (T.f (.bl (decide _)))=_;rw[decide_eq_true Ξ]
def AL(h:S.mu=[]):WI.g (.int (S.mu.map Sm.d).length) (.int 0)=Z (.f (.bl ξ)):=by rw[h];rfl
def iI(h:S.res=J):YS [.ref 0] (hz sh S lo g)=Z (.g (.bl ξ),hz sh S lo g):=by have:=mN (S:=S) (lv:=Mc lo) (rf:=ai (IY lo) sh) (tl:=Hj lo (ab sh g));rw[h]at this;exact this
def DN{v:Int}(h:S.res=Z v):YS [.ref 0] (hz sh S lo g)=Z (.g (.bl C),hz sh S lo g):=by have:=mN (S:=S) (lv:=Mc lo) (rf:=ai (IY lo) sh) (tl:=Hj lo (ab sh g));rw[h]at this;exact this
def lH(O:S.res=J)(hp:S.mu≠[])(h:VA [.ref 0] (hz sh S lo g)=Z (.g .ek,G0)):O0 [.ref 0] (hz sh S lo g)=Z (.g .ek,G0):=xR (.v 0 (iI (sh:=sh) (lo:=lo) (g:=g) O) (.d 0 (vl (ch:=hz sh S lo g) (i:=3) (L:=S.mu.map Sm.d) rfl) (.t 1 (AK hp) (.v 0 h .nil))))
def oH(O:S.res=J)(hp:S.mu=[])(h:F49 [.ref 0] (hz sh S lo g)=Z (.g .ek,G0)):O0 [.ref 0] (hz sh S lo g)=Z (.g .ek,G0):=xR (.v 0 (iI (sh:=sh) (lo:=lo) (g:=g) O) (.d 0 (vl (ch:=hz sh S lo g) (i:=3) (L:=S.mu.map Sm.d) rfl) (.t 1 (AL hp) (.v 0 h .nil))))
def sG(O:(sh.map (·.1)).Nodup){s:Sm}(h:Can sh S s):PL [.ref 1,.g s.d] (hz sh S lo g)=Z (.g .ek,hz sh (ap S s) lo (Y4 g s)):=by
 cases s with
 |put n p v=>have⟨k,m,U,hp⟩:=h;exact DE (p5 O U hp)
 |box n v=>exact DA h
 |log n p v=>exact DC h
 |LU=>exact DD
 |wake=>cases h
 |Nt a b c d=>cases h
def wl:(hz sh S lo g).length=sh.length+IY lo:=by have:=mY (lo:=lo) (tl:=ab sh g);rw[bM]at this;exact this
def To.here{F:Fd}{O:B CV}(h:F O (hz sh S lo g)=Z (.g .ek,hz sh S' Jg g'))(hl:IY lo<=IY Jg)(o:Q S' Jg g'):To sh F O (hz sh S lo g) Q:=⟨S',Jg,g',_,_,h,by rw[wl,wl];lia,.same,rfl,o⟩
def wm{f:Bool->Pg}{b:Bool}{p p':Pg}:up (up f b p) b p'=up f b p':=by funext x;unfold up;split<;>rfl
def qc{f:Bool->Pg}{b:Bool}{p:Pg}:up f b p b=p:=if_pos rfl
def lI(hn:(sh.map (·.1)).Nodup)(U:S.res=J){s:Sm}(hp:S.mu=s::P)(hw:s≠.wake)(hl:S.mu.length<=1000000)(hc:((∃a b c d,s=.Nt a b c d)/\P≠[])\/Can sh {S with mu:=P} s):To sh O0 [.ref 0] (hz sh S (Z l) g) (λS' Jg g'=>S'=ap {S with mu:=P} s/\Jg=Z (RJ l P)/\g'=Y4 g s):=by
 have W:S.mu≠[]:=by rw[hp];simp
 rcases hc with ⟨⟨a,b,c,d,rfl⟩,hP'⟩|hc
 .obtain⟨s',P',rfl⟩:∃s' P',P=s'::P':=by cases P with|nil=>exact absurd rfl hP'|cons s' P'=>exact⟨s',P',rfl⟩
  have d1:=DF (S:={S with mu:=s'::P'}) (lv:=.ref 13) (rf:=ai 16 sh) (tl:=Hj (Z l) (ab sh g)) (a:=a) (b:=b) (c:=c) (d:=d);have O:=iB (S:=S) (S':=mO {S with mu:=s'::P'} a b c d) (lv:=.ref 13) (rf:=ai 16 sh) (tl:=Hj (Z l) (ab sh g)) hp hw hl d1 (by unfold Qz;cases S.c<;>rfl) (by unfold Qz;cases S.c<;>rfl);refine⟨ap {S with mu:=s'::P'} (.Nt a b c d),Z l,g,_,_,lH U W O,?_,wg (lo:=Z l) (S:={S with mu:=s'::P'}) cA,by unfold sgB;cases S.c<;>rfl,rfl,rfl,rfl⟩;unfold Qz;cases (mO {S with mu:=s'::P'} a b c d).c<;>simp[hc,O3,hb,Hj,Mc]
 .have rn:=sG (lo:=Z l) (g:=g) hn hc;cases P with
  |cons s' P'=>have O:=iB (S:=S) (S':=ap {S with mu:=s'::P'} s) (lv:=.ref 13) (rf:=ai 16 sh) (tl:=Hj (Z l) (ab sh g)) hp hw hl rn (by cases s<;>rfl) (by cases s<;>rfl);exact .here (Jg:=Z l) (lH U W O) (nL _) ⟨rfl,rfl,rfl⟩
  |nil=>have O:=ou (S:=S) (rf:=ai 16 sh) (tl:=Hj (Z l) (ab sh g)) (S':=ap {S with mu:=[]} s) (bx:=.dK (dp l.bx)) (lg:=dp l.lg) (G0:=ab sh (Y4 g s)) hp hw rn (by cases s<;>rfl);exact .here (Jg:=Z {l with lg:=[]}) (lH U W O) (nL _) ⟨rfl,rfl,rfl⟩
theorem Gd(U:S.res=J)(hp:S.mu=[.wake])(W:((S.pg S.c).bs.map (·.1)).Nodup):To sh O0 [.ref 0] (hz sh S J g) (λS' Jg g'=>S'={S with mu:=[]}/\Jg=Z ⟨(S.pg S.c).r,(S.pg S.c).dn,(S.pg S.c).he,(S.pg S.c).sy,S.K7,JG (S.pg S.c).bs,[]⟩/\g'=g):=by have O:=ox (S:=S) (lv:=.g .ek) (rf:=ai 13 sh) (tl:=ab sh g) hp rfl W;refine⟨_,_,_,_,_,lH (lo:=J) U (by rw[hp];simp) O,?_,zB (l:=⟨(S.pg S.c).r,(S.pg S.c).dn,(S.pg S.c).he,(S.pg S.c).sy,S.K7,JG (S.pg S.c).bs,[]⟩) cA,rfl,rfl,rfl,rfl⟩;simp[hc,O3,Hj,Mc]
def wn{n:Int}:MH (Kg x {a with dn:=n} r) r=MH a r:=by cases r<;>rfl
def wp:(Kg x a r).pl=a.pl:=by cases r<;>rfl
def HA.s(h:HA sh N S l g a)(O:S'.x=S.x)(e2:S'.fst=S.fst):HA sh N S' l g a:=⟨h.pl,h.dn,h.he,h.h0,h.sy,h.du,h.bx,h.bi,h.bn,by rw[O];exact h.lg,h.ln,h.nd,h.f,h.gn,by rw[e2];exact h.ft,h.on⟩
def HA.dn1(h:HA sh N S l g a):HA sh N S {l with dn:=l.dn+1} g {a with dn:=a.dn+1}:=⟨h.pl,by show l.dn+1=_;rw[h.dn],h.he,h.h0,h.sy,h.du,h.bx,h.bi,h.bn,h.lg,h.ln,h.nd,h.f,h.gn,h.ft,h.on⟩
def HA.plc(h:HA sh N S l g a):HA sh N S {l with pl:=j} g {a with pl:=j}:=⟨rfl,h.dn,h.he,h.h0,h.sy,h.du,h.bx,h.bi,h.bn,h.lg,h.ln,h.nd,h.f,h.gn,h.ft,h.on⟩
def Pln(x:Fx)(a:AM)(lg:B (B rb×Dt))(P:B Sm):Prop:=match ah x.kk x.kv (.inl (a.pl:Int))with
 |none=>P=[]
 |some d=>∃(bs:B Str)(ts:B Tn),d=.t (bs.map .str)/\bs.length<=6/\lg=Lx ts/\P=dm a.pl a.dn a.he a.out.length (bs.map λs=>(s,a.b s)) ts
def DO (X:XR x R sh nm) (hN:N<400000) (w:HW x S) (o:HA sh N S l g a) (hp:S.mu=[]) {r:Rw} (hR:R[a.pl]?=Z r) :
  (∀p,r=.fin p->O0 [.ref 0] (hz sh S (Z l) g)=Z (.g .ek,hz sh {S with res:=Z (wv a.b p)} (Z {l with dn:=l.dn+1}) g))∧
  ((∀p,r≠.fin p)->∃j:Nat,MH a r=j/\j<R.length/\To sh O0 [.ref 0] (hz sh S (Z l) g) (λS' Jg g'=>∃l',Jg=Z l'/\HA sh (N+1) S' l' g' (O4 x a r)/\HW x S'/\S'.pg=S.pg/\S'.c=S.c/\l'.lg=PQ x a r l.lg/\(∀n p,aU x n=C->g' n p=g n p)/\Pln x (O4 x a r) l'.lg S'.mu)):=by
 have W:ixV (hz sh S (Z l) g) (.g (.t S.x.rows)) (.int l.pl)=Z (.g r.d):=by rw[w.hx,X.rows];exact(cK o.pl (by rw[HZ,hR];rfl)).2
 have S4:=X.Y3 r (Il hR);refine⟨λp e=>?_,λRK=>?_⟩
 .subst e;have h1:=o.dn1.wa p (rf:=ai 16 sh) (tl:=ab sh g);have hg:=zv (S:=S) (lv:=.ref 13) (rf:=ai 16 sh) (tl:=Hj (Z {l with dn:=l.dn+1}) (ab sh g)) (v:=wv a.b p);exact oH w.rs hp (xR (.c 0 W (.v 0 h1 (.v 0 hg .nil))))
 .have⟨j,hj,Y5⟩:=X.lead a.pl r _ hR (v6 (a:=a) r RK);refine⟨j,hj,Y5,?_⟩;have hxr:v3 S.x sh r:=by rw[w.hx];exact S4
  have hXX:Y2 S.x sh:=by rw[w.hx];exact X.X
  have⟨l1,g1,d1,H1,L1,T1⟩:=DL r RK hXX hxr o.dn1 (by rw[Ih];lia);obtain⟨O,Y6⟩:∃O,O=Kg S.x {a with dn:=a.dn+1} r:=⟨_,rfl⟩;rw[<- Y6]at d1 H1;have pl1:O.pl=a.pl:=by rw[Y6,wp]
  have d2:=N3 (tl:=ab sh g1) r RK (by show S.x.Nu[O.pl]?=_;rw[w.hx,pl1];exact X.Nu a.pl r hR) H1;rw[show MH O r=j by rw[Y6,wn,hj]]at d2;have est:O4 x a r={O with pl:=j}:=by unfold O4;rw[hj,<- w.hx,<- Y6];rfl
  have elg:PQ x a r l.lg=l1.lg:=by rw[L1,w.hx];cases r<;>rfl
  rw[est,elg];obtain⟨S1,U⟩:∃S1:HS,S1={S with fst:=bF O.out}:=⟨_,rfl⟩;have Qq:S1.x=x:=by rw[U];exact w.hx
  have W1:∀P,HW x {S1 with mu:=P}:=λP=>by rw[U];exact⟨w.hx,w.rs⟩
  have U7:S1.mu=[]:=by rw[U];exact hp
  have e1:S1.pg=S.pg:=by rw[U]
  have Lz:S1.c=S.c:=by rw[U]
  rw[w.hx]at T1;rw[<- U]at d1 d2 H1;have hk0:=v7 (ch:=hz sh S (Z {l with dn:=l.dn+1}) g) (r:=r);have ne1:=AI RK;have H2:=H1.plc (j:=j);have lk:∀q,ah S1.x.kk S1.x.kv (JT (j:Int))=q->Pln x {O with pl:=j} l1.lg=λP=>match q with|none=>P=[]|some d=>∃(bs:B Str)(ts:B Tn),d=.t (bs.map .str)/\bs.length<=6/\l1.lg=Lx ts/\P=dm j O.dn O.he O.out.length (bs.map λs=>(s,O.b s)) ts:=λq e=>by rw[Qq]at e;subst e;rfl
  cases q:ah S1.x.kk S1.x.kv (JT (j:Int))with
  |none=>
   have Np:Lu.g (.int j) (.HC S1.x.kk S1.x.kv)=Z (.f (.bl ξ)):=by simp[Lu,Jh,OQ,Ri,mK,bG,ci,q]
   have W2:=W1 [];rw[show({S1 with mu:=[]}:HS)=S1 by rw[<- U7]]at W2;exact .here (S':=S1) (Jg:=Z {l1 with pl:=j}) (g':=g1) (oH w.rs hp (xR (.c 0 W (.c 0 hk0 (.t 0 ne1 (.v 0 d1 (.v 0 d2 (.t 0 Np .nil)))))))) (nL _) ⟨_,rfl,H2,W2,e1,Lz,rfl,T1,by rw[lk _ q];exact U7⟩
  |some d=>
   have⟨bs,rfl,Xo,h6,_⟩:=X.kv (.inl j) d (by rw[<- Qq];exact q);have Np:Lu.g (.int j) (.HC S1.x.kk S1.x.kv)=Z (.f (.bl C)):=by simp[Lu,Jh,OQ,Ri,mK,bG,ci,q]
   have hix:ixV (hz sh S1 (Z {l1 with pl:=j}) g1) (.g (.HC S1.x.kk S1.x.kv)) (.int j)=Z (.g (.t (bs.map .str))):=by show(Iw _ _).map CV.g=_;simp[Iw,bG,ci,q]
   have⟨ts,t1,t2⟩:=v9 H2.lg;have w5:=zA (bs:=bs) H2 t1 Θ;obtain⟨PP,hPP⟩:∃PP,PP=dm j O.dn O.he O.out.length (bs.map λs=>(s,O.b s)) ts:=⟨_,rfl⟩;have w5':F48 [.ref 13,.g (.t (bs.map .str))] (hz sh S1 (Z {l1 with pl:=j}) g1)=Z (.ref ((ab sh g1).length+16),hl S1 {l1 with pl:=j} (ai 16 sh) (ab sh g1++[dl (PP.map Sm.d)])):=by rw[hPP];exact w5
   refine⟨{S1 with mu:=PP},Z {l1 with pl:=j},g1,(hl S1 {l1 with pl:=j} (ai 16 sh) (ab sh g1++[dl (PP.map Sm.d)])).set 0 (hO S1 (.ref 13) (.ref ((ab sh g1).length+16))),_,?_,?_,zC cA,rfl,_,rfl,H2.s rfl rfl,W1 PP,e1,Lz,rfl,T1,by rw[lk _ q];exact⟨bs,ts,rfl,h6,t1,hPP⟩⟩
   .exact oH w.rs hp (xR (.c 0 W (.c 0 hk0 (.t 0 ne1 (.v 0 d1 (.v 0 d2 (.t 0 Np (.c 0 hix (.v 0 w5' .nil)))))))))
   .simp[hc,O3,Hj,bM]
end
noncomputable def aZ:Nat->Dt->Bool
 |_,.ek|_,.bl _|_,.int _|_,.str _=>C
 |k+1,.t l=>l.all (aZ k)
 |k+1,.e l=>l.all (aZ k)
 |_,_=>ξ
omit x in
def oI:∀{k:Nat}{d:Dt},aZ k d=C->bO d d=C/\cY d<=k:=by
 have e:∀{k:Nat}{l:B Dt},(∀d∈l,bO d d=C/\cY d<=k)->IB l l=C/\HP l<=k:=λ{k l}=>by
  induction l with
  |nil=>intro _;exact⟨rfl,Ml _⟩
  |cons d l O=>
   intro h;have h1:=O λe W=>h e (.tail _ W)
   have h2:=h d (.head _);exact⟨by simp[IB,h1.1,h2.1],by simp[HP];lia⟩
 intro k;induction k with
 |zero=>intro d h;cases d<;>first|(cases h;done)|exact⟨rfl,Ml _⟩
 |succ k O=>
  intro d h;cases d<;>try(cases h;done)
  case t l=>have:=e λd U=>O (Kk.mp h d U);exact⟨this.1,by simp[cY];lia⟩
  case e l=>have:=e λd U=>O (Kk.mp h d U);exact⟨this.1,by simp[cY];lia⟩
  all_goals exact⟨rfl,Ml _⟩
def f9:ID l l=C:=cX (.e l)
omit x in
def qd{d:Dt}(h:aZ 20 d=C):Nf d d=Z C:=by
 have:=oI h;cases d<;>first|(cases h;done)|rfl|skip
 all_goals first
  |(simp[QV,TF,TH,TJ];done)
  |skip
 case t l=>
  have h1:IB l l=C:=this.1;have h2:HP l<=59:=by have:HP l+1<=20:=this.2;lia
  simp[Uz,UA,h1,h2,f9]
 case e l=>
  have h1:IB l l=C:=this.1;have h2:HP l<=59:=by have:HP l+1<=20:=this.2;lia
  simp[Uz,UA,h1,h2,f9]
def bB{d:Dt}(h:aZ 20 d=C):Z0.g d d=Z (.f (.bl ξ)):=by show MR C d d=_;unfold MR;rw[qd h];rfl
def wq{d:Dt}(h:aZ 20 d=C):KH.g d d=Z (.f (.bl C)):=by show MR ξ d d=_;unfold MR;rw[qd h];rfl
def gb{α:Type}{f:α->Dt}{k:Nat}(h:∀a,aZ k (f a)=C)(l:B α):(l.map f).all (aZ k)=C:=Kk.mpr λd O=>by have⟨a,_,rfl⟩:=HG.mp O;exact h a
def m3{k:Nat}(p:Pg):aZ (k+5) p.d=C:=by have h1:aZ (k+4) (.e p.b)=C:=gb (λ_=>rfl) _;have h2:aZ (k+4) (.e p.t)=C:=gb (λ_=>rfl) _;show(aZ (k+4) (.e p.b)&&(aZ (k+4) (.e p.t)&&C))=C;rw[h1,h2];rfl
def xRt{e:E}{g:B An}{L:B Prop}{r:Bool×CH}(a:Oa g L)(h:xT tb e D ch (g,[])=Z (r,([],L.reverse)):=by kernel_rfl):IX tb e D ch=Z r:=((dY tb e).2.1 _ _ _ _ _ h (gK a.all trivial)).1
section
variable{x:Fx}{sh:Sh}{N:Nat}{S:HS}{lo:ζ LS}{l:LS}{g:Vf}{a:AM}
def iJ(b:Bool):Op [.ref 0,I (cI b)] (hz sh S lo g)=Z (.g (S.pg b).d,hz sh S lo g):=pX b
def wt:RG [.ref 0] (hz sh S lo g)=Z (I (cI S.c),hz sh S lo g):=rfl
def dq(O:S.res=J)(hp:S.mu=[]):F52 [.ref 0] (hz sh S (Z l) g)=Z (I l.pl,hz sh S (Z l) g):=xR (.v 0 (iI (sh:=sh) (lo:=Z l) (g:=g) O) (.d 0 (vl (ch:=hz sh S (Z l) g) (i:=3) (L:=S.mu.map Sm.d) rfl) (.t 1 (AL hp) .nil)))
def iK(O:S.res=J)(hp:S.mu≠[]):F52 [.ref 0] (hz sh S lo g)=Z (.g .ek,hz sh S lo g):=xR (.v 0 (iI (sh:=sh) (lo:=lo) (g:=g) O) (.d 0 (vl (ch:=hz sh S lo g) (i:=3) (L:=S.mu.map Sm.d) rfl) (.t 1 (AK hp) .nil)))
def zD(O:S.res=J)(hp:S.mu=[]):YX [.ref 0] (hz sh S (Z l) g)=Z (I l.dn,hz sh S (Z l) g):=xR (.v 0 (dq (sh:=sh) (l:=l) (g:=g) O hp) .nil)
def qe(O:S.res=J)(hp:S.mu≠[]):YX [.ref 0] (hz sh S lo g)=Z (I (S.pg S.c).dn,hz sh S lo g):=xR (.v 0 (iK (sh:=sh) (lo:=lo) (g:=g) O hp) (.v 1 (iJ (sh:=sh) (S:=S) (lo:=lo) (g:=g) S.c) .nil))
def Gf(O:S.res=J)(hp:S.mu=[])(h:HA sh N S l g a)(n:Str):F56 [.ref 0,.g (.str n)] (hz sh S (Z l) g)=Z (I (a.b n),hz sh S (Z l) g):=xR (.v 0 (dq (sh:=sh) (l:=l) (g:=g) O hp) (.v 0 (h.wa (rf:=ai 16 sh) (tl:=ab sh g) (.inr n)) .nil))
variable{n:Str}{k m:Nat}
def DP(hn:(sh.map (·.1)).Nodup)(O:sh[k]?=Z (n,m))(W:0<m):F59 [.ref 0,.g (.str n)] (hz sh S lo g)=Z (I (g n 0),hz sh S lo g):=by have U:F58 [.ref 1,.g (.str n)] (hz sh S lo g)=Z (I (g n 0),hz sh S lo g):=xR (.c 0 (vW (S:=S) (lo:=lo) (g:=g) hn O) (.c 0 (ixL (ch:=hz sh S lo g) (i:=k+IY lo) (p:=0) (vX O) (iF W)) .nil));exact xR (.v 0 U .nil)
def zE(W:(sh.map (·.1)).Nodup)(O:sh[k]?=Z (n,m)):F61 [.ref 0,.g (.str n)] (hz sh S lo g)=Z (.g (.e (row g (n,m))),hz sh S lo g):=by have U:F60 [.ref 1,.g (.str n)] (hz sh S lo g)=Z (.g (.e (row g (n,m))),hz sh S lo g):=xR (.c 0 (vW (S:=S) (lo:=lo) (g:=g) W O) (.d 0 (vl (ch:=hz sh S lo g) (i:=k+IY lo) (L:=row g (n,m)) (vX O)) .nil));exact xR (.v 0 U .nil)
def Gg{i:Nat}{l:B Dt}{d:Dt}(h:cN D i=Z (.e l))(hl:l.length<G6):Py i (λ_ ch=>Z (.g d,ch)) D ch=Z (.nx (D.set i (Z (.own C (.e (l++[d]))))) ch):=by unfold Py;rw[h];exact if_pos hl
end
abbrev Hd:=Str×Int×Bool
noncomputable def Hd.d(h:Hd):Dt:=.t [.str h.1,.int h.2.1,.bl h.2.2]
noncomputable def JH(cs:B Hd):Sh:=cs.map λh=>(h.1,1)
noncomputable def Hk(ss:B Hd):Sh:=ss.map λh=>(h.1,h.2.1.toNat)
abbrev pD(cs ss:B Hd)(rw:Dt):Dt:=.t [.t (cs.map Hd.d),.t (ss.map Hd.d),rw]
def K9:Nat->S->S
 |0,.sq (.fo _ _ b) _=>b
 |k+1,.sq (.fo _ _ _) r=>K9 k r
 |k,.sq _ r=>K9 k r
 |_,_=>.nil
def xRe{e:E}{g:B An}{L:B Prop}{r:CV×CH}(a:Oa g L)(h:xE tb e D ch (g,[])=Z (r,([],L.reverse)):=by kernel_rfl):G4 tb e D ch=Z r:=((dY tb e).1 _ _ _ _ _ h (gK a.all trivial)).1
abbrev Hv:=Str×Nat
def pK(q:Hv):B rb:=[.inr q.1,.inl (q.2:Int)]
def lz(P:B Hv)(g:Vf):B (B rb×Dt):=P.map λq=>(pK q,.int (g q.1 q.2))
def Jn(ss:B Hd):B Hv:=ss.flatMap λh=>(Ir h.2.1.toNat).map λp=>(h.1,p)
def aw(cs ss:B Hd):B Hv:=cs.map (λh=>(h.1,0))++Jn ss
section
variable{P:B Hv}{g:Vf}{q r:Hv}{v:Int}
def iL(h:pK q=pK r):q=r:=by rwa[pK,OA,OI,TC,and_true]at h;exact Prod.ext h.1 Θ
def Gi(h:P.Nodup):((lz P g).map (·.1)).Nodup:=by
 have e:(lz P g).map (·.1)=P.map pK:=by simp[lz,IJ]
 rw[e];exact Pc _ (λa b h e=>h (iL e)) h
def wu(h:q∉P):az (lz P g) (pK q) (.int (g q.1 q.2))=lz (P++[q]) g:=by
 rw[lF]
 .simp[lz]
 .cases e:ah ((lz P g).map (·.1)) ((lz P g).map (·.2)) (pK q)with
  |none=>rfl
  |some d=>have⟨r,O,e⟩:=HG.mp (aA e);rw[iL (congrArg NN e)]at O;exact absurd O h
def DQ(h:q∉P):lz P (fu g q.1 q.2 v)=lz P g:=M3 λr O=>by unfold fu;rw[if_neg λe=>h (by rw[<- show r=q from Prod.ext e.1 e.2];exact O)]
theorem ww:∀{P:B Hv},P.Nodup->q∈P->az (lz P g) (pK q) (.int v)=lz P (fu g q.1 q.2 v)
 |r::P,U,h=>by
  have O:=Jr.mp U;show az ((pK r,Dt.int (g r.1 r.2))::lz P g) (pK q) (.int v)=(pK r,Dt.int (fu g q.1 q.2 v r.1 r.2))::lz P (fu g q.1 q.2 v);unfold az;by_cases e:r=q
  .subst e;rw[if_pos rfl,DQ O.1];simp[fu]
  .rw[if_neg λz=>e (iL z),ww O.2 ((IE.mp h).resolve_left (JQ e))];unfold fu;rw[if_neg λz=>e (Prod.ext z.1 z.2)]
def lJ{fk:Fg}{i:Nat}{x d:Dt}{t t':T}(O:fe D ch=Z (.g x,ch))(U:fk D ch=Z (.g d,ch))(hs:cN D i=Z t)(hp:yX t d x=Z t'):UT i fk fe D ch=Z (.nx (D.set i (Z (.own C t'))) ch):=by unfold UT;rw[O,G8,U,G8];show(cN D i).bind _=_;rw[hs,G8,hp];rfl
end
abbrev Kh(h:Nat)(pg:Dt)(z:CV)(a3 a4 a5 a6 a7 a8:ζ CV):Sl:=[Z (.ref h),Z (.g pg),Z z,a3,a4,a5,a6,a7,a8]
variable{Q:Hd->Prop}{a6 a4 a5:ζ CV}
section
variable{G:B Hv->Prop}{B1 B2 B3:Fs}{h:Nat}{pg:Dt}{g:Vf}{st:B Hv->CV×CH}
theorem lK(hG:∀a b,G (a++b)->G a)(hB:∀P (c:Hd) a6 a7 a8,Q c->G (P++[((c.1,0):Hv)])->B1 (Kh h pg (st P).1 (Z (.g (.str c.1))) (Z (I c.2.1)) (Z (.g (.bl c.2.2))) a6 a7 a8) (st P).2=Z (.nx (Kh h pg (st (P++[(c.1,0)])).1 (Z (.g (.str c.1))) (Z (I c.2.1)) (Z (.g (.bl c.2.2))) a6 a7 a8) (st (P++[(c.1,0)])).2)){a7 a8:ζ CV}:∀{cs:B Hd}{P:B Hv}{a3 a4 a5:ζ CV},(∀c∈cs,Q c)->G (P++cs.map λc=>((c.1,0):Hv))->∃b3 U W,bJ (Hq (.many [3,4,5])) B1 (cs.map Hd.d) (Kh h pg (st P).1 a3 a4 a5 a6 a7 a8) (st P).2=Z (.nx (Kh h pg (st (P++cs.map λc=>((c.1,0):Hv))).1 b3 U W a6 a7 a8) (st (P++cs.map λc=>((c.1,0):Hv))).2)
 |[],P,a3,a4,a5,_,_=>⟨a3,a4,a5,by rwa[Mi,LY];rfl⟩
 |c::cs,P,a3,a4,a5,hc,O=>by
  have e:P++(c::cs).map (λc=>((c.1,0):Hv))=(P++[(c.1,0)])++cs.map λc=>((c.1,0):Hv):=by simp
  rw[e]at O ⊢;have⟨b3,U,W,i⟩:=lK hG hB (cs:=cs) (P:=P++[(c.1,0)]) (a3:=Z (.g (.str c.1))) (a4:=Z (I c.2.1)) (a5:=Z (.g (.bl c.2.2))) (λd hd=>hc d (.tail _ hd)) O;exact⟨b3,U,W,M0 (aY (Hi:=Kh h pg (st P).1 (Z (.g (.str c.1))) (Z (I c.2.1)) (Z (.g (.bl c.2.2))) a6 a7 a8) rfl (hB P c a6 a7 a8 (hc c (.head _)) (hG _ _ O))) i⟩
theorem lL(W:∀a b,G (a++b)->G a){n:Str}{L:CV}(hB:∀P p,p<m->G (P++[((n,p):Hv)])->B3 (Kh h pg (st P).1 (Z (.g (.str n))) a4 a5 a6 (Z L) (Z (I (0+(p:Nat))))) (st P).2=Z (.nx (Kh h pg (st (P++[(n,p)])).1 (Z (.g (.str n))) a4 a5 a6 (Z L) (Z (I (0+(p:Nat))))) (st (P++[(n,p)])).2)):∀{ps:B Nat}{P:B Hv}{a8:ζ CV},(∀p∈ps,p<m)->G (P++ps.map λp=>((n,p):Hv))->∃O,bJ (Hq (.one 8)) B3 (ps.map λ(p:Nat)=>.int (0+p)) (Kh h pg (st P).1 (Z (.g (.str n))) a4 a5 a6 (Z L) a8) (st P).2=Z (.nx (Kh h pg (st (P++ps.map λp=>((n,p):Hv))).1 (Z (.g (.str n))) a4 a5 a6 (Z L) O) (st (P++ps.map λp=>((n,p):Hv))).2)
 |[],P,a8,_,_=>⟨a8,by rwa[Mi,LY];rfl⟩
 |p::ps,P,a8,hm,U=>by
  have e:P++(p::ps).map (λp=>((n,p):Hv))=(P++[(n,p)])++ps.map λp=>((n,p):Hv):=by simp
  rw[e]at U ⊢;have⟨O,i⟩:=lL W hB (ps:=ps) (P:=P++[(n,p)]) (a8:=Z (I (0+(p:Nat)))) (λq hq=>hm q (.tail _ hq)) U;exact⟨O,M0 (aY (Hi:=Kh h pg (st P).1 (Z (.g (.str n))) a4 a5 a6 (Z L) (Z (I (0+(p:Nat))))) rfl (hB P p (hm p (.head _)) (W _ _ U))) i⟩
theorem lM(hG:∀a b,G (a++b)->G a)(hB:∀P (c:Hd) a4 a7 a8,Q c->G (P++(Ir c.2.1.toNat).map λp=>((c.1,p):Hv))->∃U O,B2 (Kh h pg (st P).1 (Z (.g (.str c.1))) a4 (Z (.g (.bl c.2.2))) (Z (I c.2.1)) a7 a8) (st P).2=Z (.nx (Kh h pg (st (P++(Ir c.2.1.toNat).map λp=>((c.1,p):Hv))).1 (Z (.g (.str c.1))) a4 (Z (.g (.bl c.2.2))) (Z (I c.2.1)) U O) (st (P++(Ir c.2.1.toNat).map λp=>((c.1,p):Hv))).2)){a4:ζ CV}:∀{ss:B Hd}{P:B Hv}{a3 a5 a6 a7 a8:ζ CV},(∀c∈ss,Q c)->G (P++Jn ss)->∃b3 b5 b6 U O,bJ (Hq (.many [3,6,5])) B2 (ss.map Hd.d) (Kh h pg (st P).1 a3 a4 a5 a6 a7 a8) (st P).2=Z (.nx (Kh h pg (st (P++Jn ss)).1 b3 a4 b5 b6 U O) (st (P++Jn ss)).2)
 |[],P,a3,a5,a6,a7,a8,_,_=>⟨a3,a5,a6,a7,a8,by have e:P++Jn []=P:=LY P;rw[e];rfl⟩
 |c::ss,P,a3,a5,a6,a7,a8,hc,W=>by
  have e:P++Jn (c::ss)=(P++(Ir c.2.1.toNat).map λp=>((c.1,p):Hv))++Jn ss:=by simp[Jn]
  rw[e]at W ⊢;have⟨c7,c8,j⟩:=hB P c a4 a7 a8 (hc c (.head _)) (hG _ _ W);have⟨b3,b5,b6,U,O,i⟩:=lM hG hB (a4:=a4) (ss:=ss) (a3:=Z (.g (.str c.1))) (a5:=Z (.g (.bl c.2.2))) (a6:=Z (I c.2.1)) (a7:=c7) (a8:=c8) (λd hd=>hc d (.tail _ hd)) W;exact⟨b3,b5,b6,U,O,M0 (aY (Hi:=Kh h pg (st P).1 (Z (.g (.str c.1))) a4 (Z (.g (.bl c.2.2))) (Z (I c.2.1)) a7 a8) rfl j) i⟩
end
section
variable{sh:Sh}{S:HS}{lo:ζ LS}{g:Vf}{M:Nat->Nat}{b:CH}{Q:HS->ζ LS->Vf->Prop}
def AN:Cl (hz sh S lo g):=Gc cA
def oJ:0<(hz sh S lo g).length:=by show 0<_+1;lia
def VJ:(CV.ref 0::ds.map .g).all (Kr (hz sh S lo g).length)=C:=by have:=oJ (sh:=sh) (S:=S) (lo:=lo) (g:=g);simp[Kr];lia
def AO:Jf M (.ref 0::ds.map .g)=.ref (M 0)::ds.map .g:=by simp[rn,IJ]
def To.mv{F:Fd}(U:K5 F)(t:To sh F (.ref 0::ds.map .g) (hz sh S lo g) Q)(h:At M (hz sh S lo g) b):∃S' Jg g' Ha b',Q S' Jg g'/\F (.ref (M 0)::ds.map .g) b=Z (.g .ek,b')/\Mv M (hz sh S lo g) b Ha (hz sh S' Jg g') b':=by have⟨S',Jg,g',Nr,Y,h1,h2,W,h4,h5⟩:=t;have⟨Ha,b',O,k2⟩:=(Rn.of U AN VJ h1 h2 W h4 oJ).mv h;rw[AO]at O;exact⟨S',Jg,g',Ha,b',h5,O,k2⟩
def At.pur{F:Fd}{d:Dt}(h:At M (hz sh S lo g) b)(U:K5 F)(O:F (.ref 0::ds.map .g) (hz sh S lo g)=Z (.g d,hz sh S lo g)):F (.ref (M 0)::ds.map .g) b=Z (.g d,b):=by have:=h.pure U AN VJ O;rw[AO]at this;exact this
def qf(h:At M (hz sh S lo g) b):∃l,b[M 0]?=Z (.ins 3 l):=⟨_,h.get (i:=0) rfl⟩
def iM{cs:CH}(h:At M cs b)(L:CH):At M cs (b++L):=⟨h.inj,λhi=>by have:=h.get hi;rw[gL (af this)];exact this⟩
def wx{cs:CH}{z:Nat}{o:CO}(h:At M cs b)(hz:∀i,i<cs.length->M i≠z):At M cs (b.set z o):=⟨h.inj,λ{i o'} hi=>by rw[gN (JQ (hz i (af hi)))];exact h.get hi⟩
def gd{o:CO}:(b++[o])[b.length]?=Z o:=Ξ
def gV{o:CO}:(b++[o]).set b.length o'=b++[o']:=Ξ
def zF{c h:Nat}{F:Fd}{O:B CV}{d:Dt}{i:Nat}(h1:b[h]?=Z (.ins c O))(U:F [.ref h,.g d] b=Z (.g e,b))(hδ:D[i]?=Z (Z (.ref h)))(h0:D[j]?=Z (Z (.g d))):K4 c 2 F (eV i) (G3 (eV j) He) D b=Z (.g e,b):=by unfold K4 eV Kc;rw[hδ];rwa[lent,G8,Iy,h1,if_true,G3,He,eV,h0];exact U
end
structure Nm(sh:Sh)(cs ss:List Hd):Prop where
 nd:(sh.map (·.1)).Nodup
 c:∀h∈cs,∃k:Nat,sh[k]?=Z (h.1,1)
 s:∀h∈ss,(∃k:Nat,sh[k]?=Z (h.1,h.2.1.toNat))/\0<=h.2.1/\h.2.1<=1000
 pn:(aw cs ss).Nodup
 pm:∀n p,Vp sh n p->((n,p):Hv)∈aw cs ss
 ln:(aw cs ss).length<=200000
def Nv(cs ss:B Hd)(g:Vf):Dt:=.HJ ((lz (aw cs ss) g).map (·.1)) ((lz (aw cs ss) g).map (·.2))
section
variable{sh:Sh}{cs ss:B Hd}{S:HS}{lo:ζ LS}{g:Vf}{M:Nat->Nat}{b:CH}{rw:Dt}{P:B Hv}{q:Hv}
def qg{s:Int}(h:0<=s/\s<=1000):cM s=C:=by have⟨m,rfl⟩:=QC h.1;unfold cM;simp;lia
def MI(cs ss:B Hd)(P:B Hv):Prop:=∃L,P++L=aw cs ss
def bL(a b:B Hv)(h:MI cs ss (a++b)):MI cs ss a:=by have⟨L,e⟩:=h;exact⟨b++L,by rw[<- NM];exact e⟩
def wy(w:Nm sh cs ss)(h:MI cs ss (P++[q])):(lz P g).length<G6/\((lz P g).map (·.1)).Nodup/\az (lz P g) (pK q) (.int (g q.1 q.2))=lz (P++[q]) g:=by have⟨L,e⟩:=h;have h1:=w.pn;have h2:=w.ln;rw[<- e]at h1 h2;have O:=Le.mp (Le.mp h1).1;refine⟨by rw[Ih];simp[lz]at h2 ⊢;lia,Gi O.1,wu λz=>O.2.2 _ z _ (.head _) rfl⟩
def lP(w:Nm sh cs ss)(h:MI cs ss (P++[q])):yX (.HJ (lz P g)) (.t [.str q.1,.int q.2]) (.int (g q.1 q.2))=Z (.HJ (lz (P++[q]) g)):=by have⟨h1,h2,O⟩:=wy (g:=g) w h;show(if(lz P g).length<G6/\((lz P g).map (·.1)).Nodup then Z (T.HJ (az (lz P g) (pK q) (.int (g q.1 q.2))))else J)=_;rw[if_pos ⟨h1,h2⟩,O]
def DR(w:Nm sh cs ss)(h:MI cs ss (P++[q])):bR (.dT (dp (lz P g))) (.t [.str q.1,.int q.2]) (I (g q.1 q.2))=Z (.dT (dp (lz (P++[q]) g))):=by have⟨h1,h2,O⟩:=wy (g:=g) w h;show(if(dp (lz P g)).length<G6 then Z (CO.dT (aV (dp (lz P g)) (pK q) (I (g q.1 q.2))))else J)=_;rw[if_pos (by rw[f8];exact h1),eg,O]
def oK{n:Str}{p:Nat}(hp:p<m):ixV ch (.g (.e (row g (n,m)))) (.int (0+(p:Int)))=Z (I (g n p)):=(cK (i:=p) (MK _) (iF hp)).1
abbrev O5:Fs:=HL (aq gc RC) (K9 0 SV.b)
abbrev PB:Fs:=HL (aq gc RC) (K9 1 SV.b)
abbrev RM:Fs:=HL (aq gc RC) (K9 0 (K9 1 SV.b))
def wA(w:Nm sh cs ss)(A:At M (hz sh S lo g) b):YY [.ref (M 0),.g (pD cs ss rw)] b=Z (.g (Nv cs ss g),b):=by
 have⟨hf,h1⟩:=qf A;obtain⟨pg,O⟩:∃pg,pg=pD cs ss rw:=⟨_,rfl⟩
 have⟨b3,b4,b5,i1⟩:=lK (B1:=O5) (h:=M 0) (pg:=pg) (st:=λP=>(.own C (.HJ (lz P g)),b)) (G:=MI cs ss) bL (Q:=λc=>c∈cs) (cs:=cs) (P:=[]) (a3:=J) (a4:=J) (a5:=J) (a6:=J) (a7:=J) (a8:=J) (λP c a6 a7 a8 hc U=>by have⟨k,W⟩:=w.c c hc;have c1:=At.pur A (ds:=[.str c.1]) (aj _) (DP (S:=S) (lo:=lo) (g:=g) w.nd W Θ);exact K6 (.o 0 (lJ (i:=2) (fk:=Je (G3 (eV 3) (G3 (eK (.int 0)) He))) (zF (D:=Kh (M 0) pg (.own C (.HJ (lz P g))) (Z (.g (.str c.1))) (Z (I c.2.1)) (Z (.g (.bl c.2.2))) a6 a7 a8) (i:=0) (j:=3) h1 c1 rfl rfl) rfl rfl (lP (q:=(c.1,0)) w U)) .nil)) (λc hc=>hc) ⟨Jn ss,rfl⟩
 have⟨d3,d5,d6,d7,d8,i2⟩:=lM (B2:=PB) (h:=M 0) (pg:=pg) (st:=λP=>(.own C (.HJ (lz P g)),b)) (G:=MI cs ss) bL (Q:=λc=>c∈ss) (ss:=ss) (P:=[]++cs.map λc=>((c.1,0):Hv)) (a3:=b3) (a4:=b4) (a5:=b5) (a6:=J) (a7:=J) (a8:=J) (λP c a4 a7 a8 hc U=>by
  have⟨⟨k,W⟩,hs⟩:=w.s c hc;have c1:=At.pur A (ds:=[.str c.1]) (aj _) (zE (S:=S) (lo:=lo) (g:=g) w.nd W)
  have⟨c8,i3⟩:=lL (B3:=RM) (h:=M 0) (pg:=pg) (st:=λP=>(.own C (.HJ (lz P g)),b)) (G:=MI cs ss) bL (n:=c.1) (L:=.g (.e (row g (c.1,c.2.1.toNat)))) (a4:=a4) (a5:=Z (.g (.bl c.2.2))) (a6:=Z (I c.2.1)) (m:=c.2.1.toNat) (ps:=Ir c.2.1.toNat) (P:=P) (a8:=a8) (λP p hp U=>by have rx:=oK (n:=c.1) (g:=g) (ch:=b) hp;exact K6 (.o 0 (lJ (i:=2) (fk:=Je (G3 (eV 3) (G3 (eV 8) He))) (fe:=HR (eV 7) (eV 8)) (x:=.int (g c.1 p)) (d:=.t [.str c.1,.int (0+(p:Int))]) (D:=Kh (M 0) pg (.own C (.HJ (lz P g))) (Z (.g (.str c.1))) a4 (Z (.g (.bl c.2.2))) (Z (I c.2.1)) (Z (.g (.e (row g (c.1,c.2.1.toNat))))) (Z (I (0+(p:Int))))) (ch:=b) (by show(ixV b (.g (.e (row g (c.1,c.2.1.toNat)))) (.int (0+(p:Int)))).map _=_;rw[rx];rfl) rfl rfl (by rw[MK];exact lP (q:=(c.1,p)) w U)) .nil)) (λp hp=>KF.mp hp) U
  exact⟨Z (.g (.e (row g (c.1,c.2.1.toNat)))),c8,K6 (.h 0 h1 (.v 0 c1 (.o 0 (ay (pt:=.one 8) (g:=RM) (ds:=au 0 c.2.1.toNat) (fi:=iR 1 (G3 (eV 6) He)) (D:=Kh (M 0) pg (.own C (.HJ (lz P g))) (Z (.g (.str c.1))) a4 (Z (.g (.bl c.2.2))) (Z (I c.2.1)) (Z (.g (.e (row g (c.1,c.2.1.toNat))))) a8) (vN (j:=c.2.1) rfl (qg hs)) i3) .nil)))⟩) (λc hc=>hc) ⟨[],by rw[LY];rfl⟩
 rw[<- O];have j1:=ay (fi:=iE (HR (eV 1) (eK (.int 0)))) (pt:=.many [3,4,5]) (g:=O5) (ds:=cs.map Hd.d) (ch:=b) (D:=Kh (M 0) pg (.own C (.HJ [])) J J J J J J) (by rw[O];rfl) i1;have j2:=ay (fi:=iE (HR (eV 1) (eK (.int 1)))) (pt:=.many [3,6,5]) (g:=PB) (ds:=ss.map Hd.d) (ch:=b) (by rw[O];rfl) i2;exact xR (.o 0 j1 (.o 0 j2 .nil))
end
structure PN where
 x:Fx
 out:List Dt
 bx:List (rb×Dt)
 ce:List (rb×Dt)
 pl:Int
 he:Int
 dn:Int
 res:Dt
def pn(sh:Sh)(S:PN)(tl:CH):CH:=.ins 4 [.g (.t S.x.rows),.g (.e S.x.Nu),.g (.e S.x.inc),.ref 1,.ref 2,.ref 3,.ref 4,I S.pl,I S.he,I S.dn,.g S.res]::dl S.out::.dK (dp S.bx)::.dK (dp S.ce)::.dK (ai 5 sh)::tl
def VL{g:Vf}{n:Str}{p:Nat}{v:Int}(U:∀n p,Vn (g n p))(W:Vn v):∀n' O,Vn (fu g n p v n' O):=λn' O=>by unfold fu;split;exact W;exact U n' O
structure PA(x:Fx)(cn:List Str)(N:Nat)(S:PN)(a:AM):Prop where
 hx:S.x=x
 out:S.out=a.out.map .int
 on:a.out.length<=N
 bx:bv S.bx 0=a.b
 bi:∀p∈S.bx,Vi p.2
 bn:S.bx.length<=N
 ce:∀n∈cn,ah (S.ce.map (·.1)) (S.ce.map (·.2)) (JM n)=Z (.int (a.f n 0))
 cl:S.ce.length<=N
 pl:S.pl=a.pl
 he:S.he=a.he
 h0:0<=a.he
 dn:S.dn=a.dn
 fn:∀n p,Vn (a.f n p)
def Y7(x:Fx)(cn:B Str)(ss:Sh):Rw->Prop
 |.op _ _ a b=>bK a/\bK b
 |.load _ n=>n∈cn
 |.store n a=>n∈cn/\bK a
 |.take _ n a=>oA x ss n/\bK a
 |.lay n a b=>oA x ss n/\bK a/\bK b
 |.copy _ a|.say a|.fin a=>bK a
 |.IZ _|.K8 _ _|.go _=>True
structure XQ(x:Fx)(R:List Rw)(cn:List Str)(ss:Sh):Prop where
 nd:(ss.map (·.1)).Nodup
 dj:∀n∈cn,n∉ss.map (·.1)
 inc:∀d∈x.inc,Vi d
 rows:x.rows=R.map Rw.d
 Nu:∀(i:Nat) r,R[i]?=Z r->x.Nu[i]?=Z (mW i r)
 Y3:∀r∈R,Y7 x cn ss r
section
variable{ss:Sh}{S:PN}{tl:CH}{x:Fx}{R:B Rw}{cn:B Str}{N:Nat}{a:AM}{f:Vf}
def PA.bN(o:PA x cn N S a)(s:Str):Vn (a.b s):=by rw[<- o.bx];exact VG RH o.bi s
def zG(o:PA x cn N S a)(s:Str):VB [.ref 0,.g (.str s)] (pn ss S tl)=Z (I (a.b s),pn ss S tl):=by have h2:=(mQ (z:=0) λd e=>o.bi _ (aA (k:=JM s) e)).1;exact xR (.c 0 (show getV (pn ss S tl) (.ref 2) (.str s) (I 0)=Z (I (a.b s))by show Z ((Jy (dp S.bx) (.inr s)).getD (I 0))=_;rw[gu,h2,<- o.bx];rfl) .nil)
def lQ(o:PA x cn N S a)(p:rb):F71 [.ref 0,.g (av p)] (pn ss S tl)=Z (I (wv a.b p),pn ss S tl):=by
 cases p with
 |inl i=>exact xR .nil
 |inr s=>exact xR (.v 0 (zG (ss:=ss) (tl:=tl) o s) .nil)
def zH(hi:∀d∈S.x.inc,Vi d)(W:0<=S.he):F72 [.ref 0] (pn ss S tl)=Z (I (NJ S.x.inc S.he),pn ss {S with he:=S.he+1} tl):=by
 by_cases h:S.he<S.x.inc.length
 .have⟨p,hp⟩:=QC W;have O:p<S.x.inc.length:=by lia
  have⟨i,h1,h2⟩:=hi S.x.inc[p] (P2 O);have U:ixV (pn ss {S with he:=S.he+1} tl) (.g (.e S.x.inc)) (.int S.he)=Z (I i):=(cK hp (by rw[gQ O,h1])).1;have e:NJ S.x.inc S.he=i:=by unfold NJ;rw[hp];simp[O,h1,iv]
  rw[e];exact xR (.t 1 (Me (b:=(S.x.inc.length:Int)) (decide_eq_true h)) (.c 0 U .nil))
 .have e:NJ S.x.inc S.he=0:=by unfold NJ;rw[Oy Θ];rfl
  rw[e];exact xR (.t 1 (Me (b:=(S.x.inc.length:Int)) (decide_eq_false h)) .nil)
omit x in
def wC(r:Rw)(hs:mU r=C)(X:XQ x R cn ss)(O:Y7 x cn ss r)(o:PA x cn N S a):F73 [.ref 0,.g r.d] (pn ss S (ab ss a.f))=Z (I (bm x a r),pn ss {S with he:=LW a r} (ab ss a.f)):=by
 obtain rfl:=o.hx;have same:pn ss {S with he:=a.he} (ab ss a.f)=pn ss S (ab ss a.f):=by rw[<- o.he]
 have wa:=λp=>lQ (ss:=ss) (tl:=ab ss a.f) o p
 cases r<;>try(cases hs;done)
 .rename_i y sg p q;have U:=AH (sg:=sg) (a:=wv a.b p) (b:=wv a.b q) (ch:=pn ss S (ab ss a.f)) (mR o.bN O.2);rwa[LW,bm];rw[same];exact xR (.v 0 (wa p) (.v 0 (wa q) (.v 0 U .nil)))
 .rename_i y n;have g:ixV (pn ss S (ab ss a.f)) (.ref 3) (.str n)=Z (I (a.f n 0)):=by show(Jy (dp S.ce) (.inr n))=_;rw[gu,o.ce n O];rfl
  rwa[LW,bm];rw[same];exact xR (.c 4 g .nil)
 .rename_i y n p;have⟨k,m,h1,h2,U⟩:=O.1;rwa[LW,bm];rw[same,p9 U];have W:=oB (v:=wv a.b p) h2;have hv:=M1 (wv a.b p) (show(m:Int)≠0 by lia);exact xR (.c 5 (show ixV (pn ss S (ab ss a.f)) (.ref 4) (.str n)=Z (.ref (k+5))from dB X.nd h1) (.v 0 (wa p) (.d 0 (vl (ch:=pn ss S (ab ss a.f)) (i:=k+5) (L:=row a.f (n,m)) (bz h1)) (.t 1 (KC (v:=wv a.b p) (m:=(row a.f (n,m)).length) (q:=((wv a.b p%m).toNat:Int)) (by rw[dC];lia) (by rw[dC];lia)) (.c 0 (ixL (ch:=pn ss S (ab ss a.f)) (i:=k+5) (bz h1) (iF W)) .nil)))))
 .rename_i y p;rwa[LW,bm];rw[same];exact xR (.v 0 (wa p) .nil)
 .have h1:=zH (ss:=ss) (S:=S) (tl:=ab ss a.f) X.inc (by rw[o.he];exact o.h0);rw[o.he]at h1;exact xR (.v 0 h1 .nil)
def sH{n:Str}{p:Nat}{v:Int}(h:n∉ss.map (·.1)):ab ss (fu f n p v)=ab ss f:=by
 refine M3 λq U=>?_
 have O:¬ q.1=n:=λe=>h (HG.mpr ⟨q,U,e⟩)
 show dl (row _ q)=dl (row _ q);congr 1;exact M3 λW _=>by simp[fu,O]
def PA.up(o:PA x cn N S a):PA x cn (N+1) S a:=⟨o.hx,o.out,Mj o.on,o.bx,o.bi,Mj o.bn,o.ce,Mj o.cl,o.pl,o.he,o.h0,o.dn,o.fn⟩
def Gj(o:PA x cn N S a)(hi:∀d∈x.inc,Vi d)(O:Y7 x cn ss r):Vn (bm x a r):=by cases r<;>first|exact VH|exact o.fn _ _|exact mR o.bN O|exact AG hi|exact RH
def prow(r:Rw)(hs:∀a,r≠.fin a)(X:XQ x R cn ss)(U:Y7 x cn ss r)(o:PA x cn N S a)(hN:N<G6):∃S',VC [.ref 0,.g r.d] (pn ss S (ab ss a.f))=Z (.g .ek,pn ss S' (ab ss (Kg x a r).f))/\PA x cn (N+1) S' (Kg x a r)/\S'.res=S.res:=by
 have wa:=λp=>lQ (ss:=ss) (tl:=ab ss a.f) o p
 have O:S.bx.length<G6:=P9 o.bn hN
 have set:mU r=C->VC [.ref 0,.g r.d] (pn ss S (ab ss a.f))=Z (.g .ek,pn ss {S with he:=LW a r,bx:=az S.bx (.inr r.x) (.int (bm x a r))} (ab ss a.f))->∃S',VC [.ref 0,.g r.d] (pn ss S (ab ss a.f))=Z (.g .ek,pn ss S' (ab ss (Kg x a r).f))/\PA x cn (N+1) S' (Kg x a r)/\S'.res=S.res:=λW e=>by
  rw[p8 W];have u:=o.up;refine⟨_,e,⟨u.hx,u.out,u.on,?_,λp hp=>?_,JS fm (Te o.bn),u.ce,u.cl,u.pl,rfl,?_,u.dn,u.fn⟩,rfl⟩
  .funext s;show lv _ _ _=_;rw[oy];unfold bu;rw[<- o.bx];by_cases e:r.x=s<;>simp[e]
  .rcases gM hp with rfl|hp
   .exact(Gj o X.inc U).i
   .exact o.bi p hp
  .have:=o.h0;cases r<;>rwa[LW]<;>lia
 cases r with
 |op y sg p q=>exact set rfl (xR (.v 0 (wC (.op y sg p q) rfl X U o) (.p 0 (gx (b:=S.bx) (x:=.inr y) (v:=.int (bm x a (.op y sg p q))) O) .nil)))
 |load y n=>exact set rfl (xR (.v 0 (wC (.load y n) rfl X U o) (.p 0 (gx (b:=S.bx) (x:=.inr y) (v:=.int (bm x a (.load y n))) O) .nil)))
 |take y n p=>exact set rfl (xR (.v 0 (wC (.take y n p) rfl X U o) (.p 0 (gx (b:=S.bx) (x:=.inr y) (v:=.int (bm x a (.take y n p))) O) .nil)))
 |copy y p=>exact set rfl (xR (.v 0 (wC (.copy y p) rfl X U o) (.p 0 (gx (b:=S.bx) (x:=.inr y) (v:=.int (bm x a (.copy y p))) O) .nil)))
 |IZ y=>exact set rfl (xR (.v 0 (wC (.IZ y) rfl X U o) (.p 0 (gx (b:=S.bx) (x:=.inr y) (v:=.int (bm x a (.IZ y))) O) .nil)))
 |store n p=>
  have u:=o.up;have hv:Vn (wv a.b p):=mR o.bN U.2;refine⟨{S with ce:=az S.ce (.inr n) (.int (wv a.b p))},?_,⟨u.hx,u.out,u.on,u.bx,u.bi,u.bn,λm hm=>?_,JS fm (Te o.cl),u.pl,u.he,u.h0,u.dn,VL o.fn hv⟩,rfl⟩
  .show _=Z (CV.g .ek,pn ss _ (ab ss (fu a.f n 0 (wv a.b p))));rw[sH (X.dj n U.1)];exact xR (.v 0 (wa p) (.p 0 (gx (b:=S.ce) (x:=.inr n) (v:=.int (wv a.b p)) (P9 o.cl hN)) .nil))
  .show ah _ _ _=Z (.int (fu a.f n 0 (wv a.b p) m 0));rw[iD];unfold fu;by_cases e:n=m
   .rw[if_pos (by rw[e]),if_pos ⟨e.symm,rfl⟩]
   .rw[if_neg (λq=>e (TD q)),if_neg (λq=>e q.1.symm)];exact o.ce m hm
 |lay n p q=>
  have⟨k,m,h1,h2,h3⟩:=U.1;have u:=o.up;have hv:Vn (wv a.b q):=mR o.bN U.2.2;have W:=oB (v:=wv a.b p) h2;have hv':=M1 (wv a.b p) (show(m:Int)≠0 by lia);have ed:Kg x a (.lay n p q)={a with f:=fu a.f n (wv a.b p%m).toNat (wv a.b q)}:=by rwa[Kg];rw[p9 h3]
  rw[ed];refine⟨S,?_,⟨u.hx,u.out,u.on,u.bx,u.bi,u.bn,λc hc=>?_,u.cl,u.pl,u.he,u.h0,u.dn,VL o.fn hv⟩,rfl⟩
  .show _=Z (CV.g .ek,pn ss S (ab ss (fu a.f n (wv a.b p%m).toNat (wv a.b q))));rw[<- jU X.nd h1]
   exact xR (.c 3 (show ixV (pn ss S (ab ss a.f)) (.ref 4) (.str n)=Z (.ref (k+5))from dB X.nd h1) (.v 0 (wa q) (.v 0 (wa p) (.d 0 (vl (ch:=pn ss S (ab ss a.f)) (i:=k+5) (L:=row a.f (n,m)) (bz h1)) (.t 1 (KC (v:=wv a.b p) (m:=(row a.f (n,m)).length) (q:=((wv a.b p%m).toNat:Int)) (by rw[dC];lia) (by rw[dC];lia)) (.h 0 (show(pn ss S (ab ss a.f))[k+5]?=Z (dl (row a.f (n,m)))from bz h1) (.p 0 (show bR (dl (row a.f (n,m))) (.int ((wv a.b p%m).toNat:Int)) (I (wv a.b q))=Z (dl ((row a.f (n,m)).set (wv a.b p%m).toNat (.int (wv a.b q))))by show(KI ((row a.f (n,m)).map CV.g).length _).map _=_;rw[HN,dC,ly W,dl,QH];rfl) .nil)))))))
  .show _=Z (Dt.int (fu a.f n _ _ c 0));unfold fu;rw[if_neg (λe=>X.dj c hc (HG.mpr ⟨_,Il h1,e.1.symm⟩))];exact o.ce c hc
 |say p=>have u:=o.up;refine⟨{S with out:=S.out++[.int (wv a.b p)]},?_,⟨u.hx,by show S.out++_=_;rw[o.out];simp[Kg],by have:=o.on;simp[Kg];lia,u.bx,u.bi,u.bn,u.ce,u.cl,u.pl,u.he,u.h0,u.dn,u.fn⟩,rfl⟩;exact xR (.v 0 (wa p) (.p 0 (show S0 (S.out.map .g) (.g (.int (wv a.b p)))=Z (dl (S.out++[.int (wv a.b p)]))by unfold S0;rw[if_pos ⟨by rw[HN,o.out,HN];exact P9 o.on hN,rfl⟩,dl,KW];rfl) .nil))
 |K8 y t=>exact⟨S,xR .nil,o.up,rfl⟩
 |go t=>exact⟨S,xR .nil,o.up,rfl⟩
 |fin a=>exact absurd rfl (hs a)
def zI(r:Rw)(hs:∀a,r≠.fin a)(U:S.x.Nu[a.pl]?=Z (mW a.pl r))(o:PA x cn N S a):F75 [.ref 0,.g r.d] (pn ss S tl)=Z (I (MH a r),pn ss S tl):=by
 have O:=(cK (ch:=pn ss S tl) o.pl U).1;cases r with
 |K8 y t=>
  have h1:=lQ (ss:=ss) (tl:=tl) o (.inr y);by_cases h0:a.b y=0
  .rw[show MH a (.K8 y t)=a.pl+1 from if_pos h0];exact xR (.c 0 O (.v 0 h1 (.t 0 (Mb (decide_eq_true h0)) .nil)))
  .rw[show MH a (.K8 y t)=t from if_neg h0];exact xR (.c 0 O (.v 0 h1 (.t 0 (Mb (decide_eq_false h0)) .nil)))
 |fin a=>exact absurd rfl (hs a)
 |_=>exact xR (.c 0 O .nil)
def m4(O:S.res=.ek):F70 [.ref 0] (pn ss S tl)=Z (.g (.bl ξ),pn ss S tl):=xR (.t 0 (show Mn.g S.res .ek=Z (.f (.bl ξ))by rw[O];rfl) .nil)
def wD{i:Int}(O:S.res=.int i):F70 [.ref 0] (pn ss S tl)=Z (.g (.bl C),pn ss S tl):=xR (.t 0 (show Mn.g S.res .ek=Z (.f (.bl C))by rw[O];rfl) .nil)
def Gk (X:XQ x R cn ss) (o:PA x cn N S a) (hN:N<1000000) (hr:S.res=.ek) {r:Rw} (hR:R[a.pl]?=Z r) :
  (∀p,r=.fin p->F76 [.ref 0] (pn ss S (ab ss a.f))=Z (.g .ek,pn ss {S with dn:=S.dn+1,res:=.int (wv a.b p)} (ab ss a.f)))∧
  ((∀p,r≠.fin p)->∀j:Nat,MH a r=j->∃S',F76 [.ref 0] (pn ss S (ab ss a.f))=Z (.g .ek,pn ss S' (ab ss (O4 x a r).f))/\PA x cn (N+1) S' (O4 x a r)/\S'.res=.ek):=by
 have he:=m4 (ss:=ss) (tl:=ab ss a.f) hr
 have U:ixV (pn ss S (ab ss a.f)) (.g (.t S.x.rows)) (.int S.pl)=Z (.g r.d):=by rw[o.hx,X.rows];exact(cK o.pl (by rw[HZ,hR];rfl)).2
 have S4:=X.Y3 r (Il hR);have o1:PA x cn N {S with dn:=S.dn+1} {a with dn:=a.dn+1}:=⟨o.hx,o.out,o.on,o.bx,o.bi,o.bn,o.ce,o.cl,o.pl,o.he,o.h0,by show S.dn+1=_;rw[o.dn],o.fn⟩;refine⟨λp e=>?_,λhf j hj=>?_⟩
 .subst e;exact xR (.v 0 he (.c 0 U (.v 0 (lQ (ss:=ss) (tl:=ab ss a.f) o1 p) .nil)))
 .have⟨S1,d1,O,e1⟩:=prow r hf X S4 o1 (by rw[Ih];lia);have d1':VC [.ref 0,.g r.d] (pn ss {S with dn:=S.dn+1} (ab ss a.f))=Z (.g .ek,pn ss S1 (ab ss (Kg x {a with dn:=a.dn+1} r).f)):=d1;have d2:=zI (ss:=ss) (tl:=ab ss (Kg x {a with dn:=a.dn+1} r).f) r hf (by rw[O.hx,wp];exact X.Nu a.pl r hR) O;rw[wn,hj]at d2;have W:O4 x a r={Kg x {a with dn:=a.dn+1} r with pl:=j}:=by unfold O4;rw[hj];rfl
  rw[W];generalize Kg x {a with dn:=a.dn+1} r=b at*
  refine⟨{S1 with pl:=j},?_,⟨O.hx,O.out,O.on,O.bx,O.bi,O.bn,O.ce,O.cl,rfl,O.he,O.h0,O.dn,O.fn⟩,by show S1.res=_;rw[e1];exact hr⟩;exact xR (.v 0 he (.c 0 U (.c 0 (v7 (ch:=pn ss {S with dn:=S.dn+1} (ab ss a.f)) (r:=r)) (.t 0 (AI hf) (.v 0 d1' (.v 0 d2 .nil))))))
def VM:F53 [.ref 0] (pn ss S tl)=Z (I S.pl,pn ss S tl):=rfl
def VN:F55 [.ref 0] (pn ss S tl)=Z (I S.dn,pn ss S tl):=rfl
def DS:F78 [.ref 0] (pn ss S tl)=Z (I S.he,pn ss S tl):=rfl
def Gm:F79 [.ref 0] (pn ss S tl)=Z (.g (.e S.out),pn ss S tl):=xR (.d 0 (vl (ch:=pn ss S tl) (i:=1) (L:=S.out) rfl) .nil)
def AQ(o:PA x cn N S a){n:Str}(O:n∈cn):F63 [.ref 0,.g (.str n)] (pn ss S tl)=Z (I (a.f n 0),pn ss S tl):=xR (.c 0 (show ixV (pn ss S tl) (.ref 3) (.str n)=Z (I (a.f n 0))by show(Jy (dp S.ce) (.inr n))=_;rw[gu,o.ce n O];rfl) .nil)
def wF(O:(ss.map (·.1)).Nodup){n:Str}{k:Nat}(h1:ss[k]?=Z (n,m)):F64 [.ref 0,.g (.str n)] (pn ss S (ab ss f))=Z (.g (.e (row f (n,m))),pn ss S (ab ss f)):=xR (.c 0 (show ixV (pn ss S (ab ss f)) (.ref 4) (.str n)=Z (.ref (k+5))from dB O h1) (.d 0 (vl (ch:=pn ss S (ab ss f)) (i:=k+5) (L:=row f (n,m)) (bz h1)) .nil))
end
section
variable{ss:Sh}{P P':PN}{tl tl':CH}{f f':Vf}{Y:Nat->Nat}{b:CH}
def ej:(pn ss P tl).length=tl.length+5:=rfl
def AR(h:Ly tl ss):Cl (pn ss P tl):=by
 unfold Cl;rw[ej];have U:=iH (sh:=ss) (o:=5) (n:=tl.length+5) (by rw[h.len];lia);have W:tl.all (Qy (tl.length+5))=C:=Kk.mpr λo O=>by have⟨L,rfl⟩:=h.all O;exact AJ
 have lt:∀k,k<5->decide (k<tl.length+5)=C:=λk hk=>decide_eq_true Θ
 rwa[pn,Ks,Zt,Qy,oC,oE,qa,wc,U,W,lt,RX,Zx]
def AS:(CV.ref 0::l.map .g).all (Kr (pn ss P tl).length)=C:=by simp[Kr,ej]
def At.Oq{F:Fd}{d:Dt}(h:At Y (pn ss P (ab ss f)) b)(U:K5 F)(O:F (.ref 0::ds.map .g) (pn ss P (ab ss f))=Z (.g d,pn ss P (ab ss f))):F (.ref (Y 0)::ds.map .g) b=Z (.g d,b):=by
 have:=h.pure U (AR cA) AS O;have e:Jf Y (.ref 0::ds.map .g)=.ref (Y 0)::ds.map .g:=by simp[rn,IJ]
 rw[e]at this;exact this
def qh(h:At Y (pn ss P tl) b):∃l,b[Y 0]?=Z (.ins 4 l):=⟨_,h.get (i:=0) rfl⟩
end
section
variable{x:Fx}{sh:Sh}{cs ss:B Hd}{N:Nat}{P:PN}{a:AM}{M:Nat->Nat}{b:CH}{rw:Dt}
def wG{c:Hd}(h:c∈ss):∃k:Nat,(Hk ss)[k]?=Z (c.1,c.2.1.toNat):=by have⟨k,O⟩:=R1.mp h;exact⟨k,by simp[Hk,O]⟩
abbrev Km:Fs:=HL (aq gc RF) (K9 0 SX.b)
abbrev KJ:Fs:=HL (aq gc RF) (K9 1 SX.b)
abbrev LG:Fs:=HL (aq gc RF) (K9 0 (K9 1 SX.b))
def DU(w:Nm sh cs ss)(nq:((Hk ss).map (·.1)).Nodup)(o:PA x (cs.map (·.1)) N P a)(A:At M (pn (Hk ss) P (ab (Hk ss) a.f)) b):F77 [.ref (M 0),.g (pD cs ss rw)] b=Z (.g (Nv cs ss a.f),b):=by
 have⟨hf,h1⟩:=qh A;obtain⟨pg,O⟩:∃pg,pg=pD cs ss rw:=⟨_,rfl⟩
 have⟨b3,b4,b5,i1⟩:=lK (B1:=Km) (h:=M 0) (pg:=pg) (st:=λP=>(.own C (.HJ (lz P a.f)),b)) (G:=MI cs ss) bL (Q:=λc=>c∈cs) (cs:=cs) (P:=[]) (a3:=J) (a4:=J) (a5:=J) (a6:=J) (a7:=J) (a8:=J) (λP c a6 a7 a8 hc U=>by have c1:=At.Oq A (ds:=[.str c.1]) (aj _) (AQ (ss:=Hk ss) o (HG.mpr ⟨c,hc,rfl⟩));exact K6 (.o 0 (lJ (i:=2) (fk:=Je (G3 (eV 3) (G3 (eK (.int 0)) He))) (zF (D:=Kh (M 0) pg (.own C (.HJ (lz P a.f))) (Z (.g (.str c.1))) (Z (I c.2.1)) (Z (.g (.bl c.2.2))) a6 a7 a8) (i:=0) (j:=3) h1 c1 rfl rfl) rfl rfl (lP (q:=(c.1,0)) w U)) .nil)) (λc hc=>hc) ⟨Jn ss,rfl⟩
 have⟨d3,d5,d6,d7,d8,i2⟩:=lM (B2:=KJ) (h:=M 0) (pg:=pg) (st:=λP=>(.own C (.HJ (lz P a.f)),b)) (G:=MI cs ss) bL (Q:=λc=>c∈ss) (ss:=ss) (P:=[]++cs.map λc=>((c.1,0):Hv)) (a3:=b3) (a4:=b4) (a5:=b5) (a6:=J) (a7:=J) (a8:=J) (λP c a4 a7 a8 hc U=>by
  have⟨_,hs⟩:=w.s c hc;have⟨k,k1⟩:=wG hc;have c1:=At.Oq A (ds:=[.str c.1]) (aj _) (wF nq k1)
  have⟨c8,W⟩:=lL (B3:=LG) (h:=M 0) (pg:=pg) (st:=λP=>(.own C (.HJ (lz P a.f)),b)) (G:=MI cs ss) bL (n:=c.1) (L:=.g (.e (row a.f (c.1,c.2.1.toNat)))) (a4:=a4) (a5:=Z (.g (.bl c.2.2))) (a6:=Z (I c.2.1)) (m:=c.2.1.toNat) (ps:=Ir c.2.1.toNat) (P:=P) (a8:=a8) (λP p hp U=>by have rx:=oK (n:=c.1) (g:=a.f) (ch:=b) hp;exact K6 (.o 0 (lJ (i:=2) (fk:=Je (G3 (eV 3) (G3 (eV 8) He))) (fe:=HR (eV 7) (eV 8)) (x:=.int (a.f c.1 p)) (d:=.t [.str c.1,.int (0+(p:Int))]) (D:=Kh (M 0) pg (.own C (.HJ (lz P a.f))) (Z (.g (.str c.1))) a4 (Z (.g (.bl c.2.2))) (Z (I c.2.1)) (Z (.g (.e (row a.f (c.1,c.2.1.toNat))))) (Z (I (0+(p:Int))))) (ch:=b) (by show(ixV b (.g (.e (row a.f (c.1,c.2.1.toNat)))) (.int (0+(p:Int)))).map _=_;rw[rx];rfl) rfl rfl (by rw[MK];exact lP (q:=(c.1,p)) w U)) .nil)) (λp hp=>KF.mp hp) U
  exact⟨Z (.g (.e (row a.f (c.1,c.2.1.toNat)))),c8,K6 (.h 0 h1 (.v 0 c1 (.o 0 (ay (pt:=.one 8) (g:=LG) (ds:=au 0 c.2.1.toNat) (fi:=iR 1 (G3 (eV 6) He)) (D:=Kh (M 0) pg (.own C (.HJ (lz P a.f))) (Z (.g (.str c.1))) a4 (Z (.g (.bl c.2.2))) (Z (I c.2.1)) (Z (.g (.e (row a.f (c.1,c.2.1.toNat))))) a8) (vN (j:=c.2.1) rfl (qg hs)) W) .nil)))⟩) (λc hc=>hc) ⟨[],by rw[LY];rfl⟩
 rw[<- O];have j1:=ay (fi:=iE (HR (eV 1) (eK (.int 0)))) (pt:=.many [3,4,5]) (g:=Km) (ds:=cs.map Hd.d) (ch:=b) (D:=Kh (M 0) pg (.own C (.HJ [])) J J J J J J) (by rw[O];rfl) i1;have j2:=ay (fi:=iE (HR (eV 1) (eK (.int 1)))) (pt:=.many [3,6,5]) (g:=KJ) (ds:=ss.map Hd.d) (ch:=b) (by rw[O];rfl) i2;exact xR (.o 0 j1 (.o 0 j2 .nil))
abbrev Xe:Fs:=HL (aq gc RE) (K9 0 SW.b)
abbrev LF:Fs:=HL (aq gc RE) (K9 1 SW.b)
abbrev ho3:Fs:=HL (aq gc RE) (K9 0 (K9 1 SW.b))
def DV(w:Nm sh cs ss)(nq:((Hk ss).map (·.1)).Nodup)(o:PA x (cs.map (·.1)) N P a)(A:At M (pn (Hk ss) P (ab (Hk ss) a.f)) b):F65 [.ref (M 0),.g (pD cs ss rw)] b=Z (.ref b.length,b++[.dT (dp (lz (aw cs ss) a.f))]):=by
 obtain⟨pg,O⟩:∃pg,pg=pD cs ss rw:=⟨_,rfl⟩;let st:B Hv->CV×CH:=λP=>(.ref b.length,b++[.dT (dp (lz P a.f))])
 have put:=λ(P:B Hv)(q:Hv)(h:MI cs ss (P++[q]))=>DR (g:=a.f) w h
 have e1:=λP=>gd (b:=b) (o:=.dT (dp (lz P a.f)))
 have Lz:=λP Q=>gV (b:=b) (o:=.dT (dp (lz P a.f))) (o':=.dT (dp (lz Q a.f)))
 have⟨b3,b4,b5,i1⟩:=lK (B1:=Xe) (h:=M 0) (pg:=pg) (st:=st) (G:=MI cs ss) bL (Q:=λc=>c∈cs) (cs:=cs) (P:=[]) (a3:=J) (a4:=J) (a5:=J) (a6:=J) (a7:=J) (a8:=J) (λP c a6 a7 a8 hc U=>by have W:=iM A [.dT (dp (lz P a.f))];have⟨hf,h1⟩:=qh W;have c1:=At.Oq W (ds:=[.str c.1]) (aj _) (AQ (ss:=Hk ss) o (HG.mpr ⟨c,hc,rfl⟩));show _=Z (Og.nx _ (b++[.dT (dp (lz (P++[(c.1,0)]) a.f))]));rw[<- Lz P];exact K6 (.h 0 h1 (.v 0 c1 (.h 0 (e1 P) (.p 0 (w:=bR (.dT (dp (lz P a.f))) (.t [.str c.1,.int 0]) (I (a.f c.1 0))) (put P (c.1,0) U) .nil))))) (λc hc=>hc) ⟨Jn ss,rfl⟩
 have⟨d3,d5,d6,d7,d8,i2⟩:=lM (B2:=LF) (h:=M 0) (pg:=pg) (st:=st) (G:=MI cs ss) bL (Q:=λc=>c∈ss) (ss:=ss) (P:=[]++cs.map λc=>((c.1,0):Hv)) (a3:=b3) (a4:=b4) (a5:=b5) (a6:=J) (a7:=J) (a8:=J) (λP c a4 a7 a8 hc U=>by
  have⟨_,hs⟩:=w.s c hc;have⟨k,k1⟩:=wG hc;have W:=iM A [.dT (dp (lz P a.f))];have⟨hf,h1⟩:=qh W;have c1:=At.Oq W (ds:=[.str c.1]) (aj _) (wF nq k1)
  have⟨c8,i3⟩:=lL (B3:=ho3) (h:=M 0) (pg:=pg) (st:=st) (G:=MI cs ss) bL (n:=c.1) (L:=.g (.e (row a.f (c.1,c.2.1.toNat)))) (a4:=a4) (a5:=Z (.g (.bl c.2.2))) (a6:=Z (I c.2.1)) (m:=c.2.1.toNat) (ps:=Ir c.2.1.toNat) (P:=P) (a8:=a8) (λP p hp U=>by
   have rx:=oK (n:=c.1) (g:=a.f) (ch:=b++[.dT (dp (lz P a.f))]) hp;have pp:bR (.dT (dp (lz P a.f))) (.t [.str c.1,.int (0+(p:Int))]) (I (a.f c.1 p))=Z (.dT (dp (lz (P++[(c.1,p)]) a.f))):=by rw[MK];exact put P (c.1,p) U
   show _=Z (Og.nx _ (b++[.dT (dp (lz (P++[(c.1,p)]) a.f))]));rw[<- Lz P];exact K6 (.c 0 rx (.h 0 (e1 P) (.p 0 pp .nil)))) (λp hp=>KF.mp hp) U
  exact⟨Z (.g (.e (row a.f (c.1,c.2.1.toNat)))),c8,K6 (.h 0 h1 (.v 0 c1 (.o 0 (ay (pt:=.one 8) (g:=ho3) (ds:=au 0 c.2.1.toNat) (fi:=iR 1 (G3 (eV 6) He)) (ch:=b++[CO.dT (dp (lz P a.f))]) (ch1:=b++[CO.dT (dp (lz P a.f))]) (D:=Kh (M 0) pg (.ref b.length) (Z (.g (.str c.1))) a4 (Z (.g (.bl c.2.2))) (Z (I c.2.1)) (Z (.g (.e (row a.f (c.1,c.2.1.toNat))))) a8) (vN (j:=c.2.1) rfl (qg hs)) i3) .nil)))⟩) (λc hc=>hc) ⟨[],by rw[LY];rfl⟩
 rw[<- O];have j1:=ay (fi:=iE (HR (eV 1) (eK (.int 0)))) (pt:=.many [3,4,5]) (g:=Xe) (ds:=cs.map Hd.d) (ch:=b++[CO.dT []]) (D:=Kh (M 0) pg (.ref b.length) J J J J J J) (by rw[O];rfl) i1;have j2:=ay (fi:=iE (HR (eV 1) (eK (.int 1)))) (pt:=.many [3,6,5]) (g:=LF) (ds:=ss.map Hd.d) (by rw[O];rfl) i2;exact xR (.o 0 j1 (.o 0 j2 .nil))
end
def Ap(M:Nat->Nat)(n:Nat)(zs:B Nat):Prop:=∀z∈zs,∀i,i<n->M i≠z
def Th(b:CH)(zs:B Nat)(os:B CO):Prop:=∀(k z:Nat)(o:CO),zs[k]?=Z z->os[k]?=Z o->b[z]?=Z o
def Wm(sh tn:Sh)(h p:Nat)(S:HS)(lo:ζ LS)(g:Vf)(P:PN)(f:Vf)(zs:B Nat)(os:B CO)(b:CH):Prop:=∃ M Y:Nat->Nat,At M (hz sh S lo g) b/\At Y (pn tn P (ab tn f)) b/\(∀i j,i<(hz sh S lo g).length->j<(pn tn P (ab tn f)).length->M i≠Y j)/\Ap M (hz sh S lo g).length zs/\Ap Y (pn tn P (ab tn f)).length zs/\zs.Nodup/\zs.length=os.length/\Th b zs os/\M 0=h/\Y 0=p
variable{QA:B Nat}{Qm:B CO}
section
variable{sh tn:Sh}{h p k z:Nat}{S S':HS}{lo Jg:ζ LS}{g g':Vf}{P P':PN}{f f':Vf}{zs:B Nat}{os:B CO}{b:CH}{o:CO}{Q:HS->ζ LS->Vf->Prop}
def Th.lt(t:Th b zs os)(hl:zs.length=os.length){z:Nat}(hz:z∈zs):z<b.length:=by
 have⟨k,O⟩:=R1.mp hz;have:k<os.length:=by rw[<- hl];exact af O
 exact af (t k z _ O (gQ this))
def Wm.th(w:Wm sh tn h p S lo g P f zs os b)(h1:zs[k]?=Z z)(h2:os[k]?=Z o):b[z]?=Z o:=by have⟨_,_,_,_,_,_,_,_,_,t,_⟩:=w;exact t k z o h1 h2
def Wm.MY{F:Fd}(w:Wm sh tn h p S lo g P f zs os b)(hF:K5 F)(t:To sh F (.ref 0::ds.map .g) (hz sh S lo g) Q):∃S' Jg g' b',Q S' Jg g'/\F (.ref h::ds.map .g) b=Z (.g .ek,b')/\Wm sh tn h p S' Jg g' P f zs os b':=by
 have⟨M,Y,A1,A2,d,O,p2,nd,hl,th,rfl,rfl⟩:=w;have⟨S',U,g',Ha,b',h1,h2,v⟩:=To.mv hF t A1;refine⟨S',U,g',b',h1,h2,Ha,Y,v.at_,v.fr.at A2 d,v.sb.apart d λj W=>A2.lt W,λz hz i hi e=>?_,p2,nd,hl,λk z o q1 q2=>?_,v.zero,rfl⟩
 .rcases v.sb i hi with ⟨k,hk,q⟩|q
  .exact O z hz k hk (q.symm.trans e)
  .have:=th.lt hl hz;lia
 .rw[v.fr.kp z (af (th k z o q1 q2)) (O z (Il q1))];exact th k z o q1 q2
def Wm.plain{F:Fd}(w:Wm sh tn h p S lo g P f zs os b)(hF:K5 F)(W:F [.ref 0] (pn tn P (ab tn f))=Z (.g .ek,pn tn P' (ab tn f'))):∃b',F [.ref p] b=Z (.g .ek,b')/\Wm sh tn h p S lo g P' f' zs os b':=by
 have⟨M,Y,A1,A2,d,p1,p2,nd,hl,th,rfl,rfl⟩:=w;have r:=Rn.here (F:=F) (args:=[.ref 0]) hF (AR cA) (AS (l:=[])) W (by rw[ej,ej,bM,bM];exact nL _) (by rw[ej];lia);have⟨U,b',k1,v⟩:=r.mv A2;have d':∀i j,i<(pn tn P (ab tn f)).length->j<(hz sh S lo g).length->Y i≠M j:=λi j hi O e=>d j i O hi e.symm
 refine⟨b',k1,M,U,v.fr.at A1 d',v.at_,λi j hi O e=>v.sb.apart d' (λj O=>A1.lt O) j i O hi e.symm,p1,λz hz i hi e=>?_,nd,hl,λk z o q1 q2=>?_,rfl,v.zero⟩
 .rcases v.sb i hi with ⟨k,hk,q⟩|q
  .exact p2 z hz k hk (q.symm.trans e)
  .have:=th.lt hl hz;lia
 .rw[v.fr.kp z (af (th k z o q1 q2)) (p2 z (Il q1))];exact th k z o q1 q2
def Wm.hp{F:Fd}{d:Dt}(w:Wm sh tn h p S lo g P f zs os b)(U:K5 F)(O:F (.ref 0::ds.map .g) (hz sh S lo g)=Z (.g d,hz sh S lo g)):F (.ref h::ds.map .g) b=Z (.g d,b):=by have⟨M,Y,A1,A2,d,p1,p2,W,hl,th,rfl,rfl⟩:=w;exact At.pur A1 U O
def Wm.pp{F:Fd}{d:Dt}(w:Wm sh tn h p S lo g P f zs os b)(U:K5 F)(O:F (.ref 0::ds.map .g) (pn tn P (ab tn f))=Z (.g d,pn tn P (ab tn f))):F (.ref p::ds.map .g) b=Z (.g d,b):=by have⟨M,Y,A1,A2,d,p1,p2,W,hl,th,rfl,rfl⟩:=w;exact At.Oq A2 U O
def Wm.h1(w:Wm sh tn h p S lo g P f zs os b):∃q,b[h]?=Z (.ins 3 q):=by have⟨M,Y,A1,A2,d,U,p2,O,hl,th,rfl,rfl⟩:=w;exact qf A1
def Wm.h2(w:Wm sh tn h p S lo g P f zs os b):∃q,b[p]?=Z (.ins 4 q):=by have⟨M,Y,A1,A2,d,U,p2,O,hl,th,rfl,rfl⟩:=w;exact qh A2
def Wm.new(w:Wm sh tn h p S lo g P f zs os b)(o:CO):Wm sh tn h p S lo g P f (zs++[b.length]) (os++[o]) (b++[o]):=by
 have⟨M,Y,A1,A2,d,W,p2,U,hl,th,e1,e2⟩:=w;have lt:=λz hz=>th.lt (z:=z) hl hz
 refine⟨M,Y,iM A1 _,iM A2 _,d,λz hz i hi=>?_,λz hz i hi=>?_,?_,by simp[hl],λk z o' q1 q2=>?_,e1,e2⟩
 .rcases JC.mp hz with hz|hz
  .exact W z hz i hi
  .obtain rfl:=R3.mp hz;exact IS (A1.lt hi)
 .rcases JC.mp hz with hz|hz
  .exact p2 z hz i hi
  .obtain rfl:=R3.mp hz;exact IS (A2.lt hi)
 .exact Le.mpr ⟨U,Zm _ _,λa ha c hc e=>by obtain rfl:=R3.mp hc;have:=lt a ha;lia⟩
 .rcases MM k zs.length with O|O
  .rw[gL O]at q1;rw[gL Θ]at q2;have:=th k z o' q1 q2;rw[gL (af this)];exact this
  .have:=af q1;simp at this;obtain rfl:k=zs.length:=by lia
   rw[hl]at q2;simp at q1 q2;subst q1;subst q2;exact gd
def Wm.put(w:Wm sh tn h p S lo g P f zs os b)(h1:zs[k]?=Z z)(o:CO):Wm sh tn h p S lo g P f zs (os.set k o) (b.set z o):=by
 have⟨M,Y,A1,A2,d,W,p2,U,hl,th,e1,e2⟩:=w;have hz:=Il h1;refine⟨M,Y,wx A1 (W z hz),wx A2 (p2 z hz),d,W,p2,U,‹hl›,λj y o' q1 q2=>?_,e1,e2⟩;by_cases O:k=j
 .subst O;rw[h1]at q1;cases q1
  rw[Mh (by rw[<- hl];exact af h1)]at q2;cases q2
  exact Mh (th.lt hl hz)
 .rw[gN O]at q2;have:z≠y:=λe=>O ((List.getElem?_inj (af h1) U).mp (by rw[h1,q1,e]))
  rw[gN this];exact th j y o' q1 q2
def Wm.sub(w:Wm sh tn h p S lo g P f zs os b)(U:QA.Nodup)(O:QA.length=Qm.length)(hs:∀(k z:Nat)(o:CO),QA[k]?=Z z->Qm[k]?=Z o->∃j:Nat,zs[j]?=Z z/\os[j]?=Z o):Wm sh tn h p S lo g P f QA Qm b:=by
 have⟨M,Y,A1,A2,d,p1,p2,nd,hl,th,e1,e2⟩:=w
 have W:∀z∈QA,z∈zs:=λz hz=>by
  have⟨k,hk⟩:=R1.mp hz;have:k<Qm.length:=by rw[<- O];exact af hk
  have⟨j,q,_⟩:=hs k z _ hk (gQ this);exact Il q
 exact⟨M,Y,A1,A2,d,λz hz=>p1 z (W z hz),λz hz=>p2 z (W z hz),U,O,λk z o q1 q2=>by have⟨j,q3,q4⟩:=hs k z o q1 q2;exact th j z o q3 q4,e1,e2⟩
def Wm.fst(w:Wm sh tn h p S lo g P f (zs++QA) (os++Qm) b)(U:zs.length=os.length):Wm sh tn h p S lo g P f zs os b:=by
 have O:(zs++QA).Nodup:=by have⟨M,Y,A1,A2,d,W,p2,O,_⟩:=w;exact O
 refine w.sub (Le.mp O).1 U λk z o q1 q2=>⟨k,?_,?_⟩
 .rw[gL (af q1)];exact q1
 .rw[gL (af q2)];exact q2
end
abbrev c1(cs:B Hd):B Hv:=cs.map λc=>((c.1,0):Hv)
abbrev JO(cs:B Hd):B Hd:=cs.filter λc=>c.2.2
def Ig(cs ss:B Hd):B Hv:=c1 (JO cs)++Jn (JO ss)
variable{ss:B Hd}
section
variable{P:B Hv}{g f:Vf}{q:Hv}{z:Nat}{b:CH}{pg:Dt}{T:B Hv}
def qi(O:(P++[q]).Nodup)(hl:P.length<G6):bR (.dT (dp (lz P g))) (.t [.str q.1,.int q.2]) (I (g q.1 q.2))=Z (.dT (dp (lz (P++[q]) g))):=by show(if(dp (lz P g)).length<G6 then Z (CO.dT (aV (dp (lz P g)) (pK q) (I (g q.1 q.2))))else J)=_;rw[if_pos (by rw[f8];simpa[lz] using hl),eg,wu λh=>(Le.mp O).2.2 _ h _ (.head _) rfl]
abbrev LA(pg:Dt)(z:Nat)(a2 a3 a4 a5 a6:ζ CV):Sl:=[Z (.g pg),Z (.ref z),a2,a3,a4,a5,a6]
abbrev tB1:Fs:=HL (aq gc Rz) (K9 0 SU.b)
abbrev tB2:Fs:=HL (aq gc Rz) (K9 1 SU.b)
abbrev tB3:Fs:=HL (aq gc Rz) (K9 0 (K9 1 SU.b))
theorem tw1{a5 a6:ζ CV}:∀{cs:B Hd}{P:B Hv}{a2 a3 a4:ζ CV},(P++c1 (JO cs)).Nodup->(P++c1 (JO cs)).length<G6->(∀c∈cs,g c.1 0=c.2.1)->∃b2 U O,bJ (Hq (.many [2,3,4])) tB1 (cs.map Hd.d) (LA pg b.length a2 a3 a4 a5 a6) (b++[.dT (dp (lz P g))])=Z (.nx (LA pg b.length b2 U O a5 a6) (b++[.dT (dp (lz (P++c1 (JO cs)) g))]))
 |[],P,a2,a3,a4,_,_,_=>⟨a2,a3,a4,by rw[show P++c1 (JO [])=P from LY P];rfl⟩
 |(n,s,t)::cs,P,a2,a3,a4,W,hl,hg=>by
  have e0:=hg _ (.head _);cases t with
  |false=>
   have⟨b2,U,O,i⟩:=tw1 (a5:=a5) (a6:=a6) (cs:=cs) (P:=P) (a2:=Z (.g (.str n))) (a3:=Z (I s)) (a4:=Z (.g (.bl ξ))) W hl λc hc=>hg c (.tail _ hc)
   exact⟨b2,U,O,M0 (aY (Hi:=LA pg b.length (Z (.g (.str n))) (Z (I s)) (Z (.g (.bl ξ))) a5 a6) rfl rfl) i⟩
  |true=>
   have e:P++c1 (JO ((n,s,C)::cs))=(P++[(n,0)])++c1 (JO cs):=by simp[JO,c1]
   rw[e]at W hl ⊢;have⟨b2,U,O,i⟩:=tw1 (a5:=a5) (a6:=a6) (cs:=cs) (P:=P++[(n,0)]) (a2:=Z (.g (.str n))) (a3:=Z (I s)) (a4:=Z (.g (.bl C))) W hl λc hc=>hg c (.tail _ hc)
   have pt:=qi (g:=g) (q:=(n,0)) (P:=P) (Le.mp W).1 (by simp at hl;lia);rw[show g n 0=s from e0]at pt;refine⟨b2,U,O,M0 (aY (Hi:=LA pg b.length (Z (.g (.str n))) (Z (I s)) (Z (.g (.bl C))) a5 a6) (Oe:=LA pg b.length (Z (.g (.str n))) (Z (I s)) (Z (.g (.bl C))) a5 a6) (ch1:=b++[.dT (dp (lz (P++[(n,0)]) g))]) rfl ?_) i⟩;rw[<- gV (b:=b) (o:=.dT (dp (lz P g))) (o':=.dT (dp (lz (P++[(n,0)]) g)))];exact K6 (.h 0 (gd (b:=b) (o:=.dT (dp (lz P g)))) (.p 0 (w:=bR (.dT (dp (lz P g))) (.t [.str n,.int 0]) (I s)) pt .nil))
theorem Y8{n:Str}{a3 a4 a5:ζ CV}:∀{ps:B Nat}{P:B Hv}{a6:ζ CV},(P++ps.map λp=>((n,p):Hv)).Nodup->(P++ps.map λp=>((n,p):Hv)).length<G6->(∀p,g n p=0)->∃U,bJ (Hq (.one 6)) tB3 (ps.map λ(p:Nat)=>.int (0+p)) (LA pg b.length (Z (.g (.str n))) a3 a4 a5 a6) (b++[.dT (dp (lz P g))])=Z (.nx (LA pg b.length (Z (.g (.str n))) a3 a4 a5 U) (b++[.dT (dp (lz (P++ps.map λp=>((n,p):Hv)) g))]))
 |[],P,a6,_,_,_=>⟨a6,by rwa[Mi,LY];rfl⟩
 |p::ps,P,a6,O,hl,W=>by
  have e:P++(p::ps).map (λp=>((n,p):Hv))=(P++[(n,p)])++ps.map λp=>((n,p):Hv):=by simp
  rw[e]at O hl ⊢;have⟨U,i⟩:=Y8 (a3:=a3) (a4:=a4) (a5:=a5) (ps:=ps) (P:=P++[(n,p)]) (a6:=Z (I (0+(p:Nat)))) O hl W;have pt:=qi (g:=g) (q:=(n,p)) (P:=P) (Le.mp O).1 (by simp at hl;lia);rw[show g n p=0 from W p]at pt;have pt:bR (.dT (dp (lz P g))) (.t [.str n,.int (0+(p:Int))]) (I 0)=Z (.dT (dp (lz (P++[(n,p)]) g))):=by rw[MK];exact pt
  refine⟨U,M0 (aY (Hi:=LA pg b.length (Z (.g (.str n))) a3 a4 a5 (Z (I (0+(p:Nat))))) (Oe:=LA pg b.length (Z (.g (.str n))) a3 a4 a5 (Z (I (0+(p:Nat))))) (ch1:=b++[.dT (dp (lz (P++[(n,p)]) g))]) rfl ?_) i⟩;rw[<- gV (b:=b) (o:=.dT (dp (lz P g))) (o':=.dT (dp (lz (P++[(n,p)]) g)))];exact K6 (.h 0 (gd (b:=b) (o:=.dT (dp (lz P g)))) (.p 0 (w:=bR (.dT (dp (lz P g))) (.t [.str n,.int (0+(p:Int))]) (I 0)) pt .nil))
theorem tw2{a3:ζ CV}:∀{ss:B Hd}{P:B Hv}{a2 a4 a5 a6:ζ CV},(P++Jn (JO ss)).Nodup->(P++Jn (JO ss)).length<G6->(∀c∈ss,(∀p,g c.1 p=0)/\0<=c.2.1/\c.2.1<=1000)->∃b2 O W U,bJ (Hq (.many [2,5,4])) tB2 (ss.map Hd.d) (LA pg b.length a2 a3 a4 a5 a6) (b++[.dT (dp (lz P g))])=Z (.nx (LA pg b.length b2 a3 O W U) (b++[.dT (dp (lz (P++Jn (JO ss)) g))]))
 |[],P,a2,a4,a5,a6,_,_,_=>⟨a2,a4,a5,a6,by rw[show P++Jn (JO [])=P from LY P];rfl⟩
 |(n,s,t)::ss,P,a2,a4,a5,a6,hn,hl,hg=>by
  have⟨e0,hs⟩:=hg _ (.head _)
  have go:∀(m:Int)(L:B Hv),0<=m/\m<=1000->HY.g (.int s) (.int (if t then 1 else 0))=Z (.f (.int m))->L=(Ir m.toNat).map (λp=>((n,p):Hv))->P++Jn (JO ((n,s,t)::ss))=P++L++Jn (JO ss)->∃b2 O W U,bJ (Hq (.many [2,5,4])) tB2 (((n,s,t)::ss).map Hd.d) (LA pg b.length a2 a3 a4 a5 a6) (b++[.dT (dp (lz P g))])=Z (.nx (LA pg b.length b2 a3 O W U) (b++[.dT (dp (lz (P++Jn (JO ((n,s,t)::ss))) g))])):=λm L hm em hL e=>by
   subst hL;rw[e]at hn hl ⊢;have⟨c6,j⟩:=Y8 (b:=b) (g:=g) (pg:=pg) (n:=n) (a3:=a3) (a4:=Z (.g (.bl t))) (a5:=Z (I s)) (ps:=Ir m.toNat) (P:=P) (a6:=a6) (Le.mp hn).1 (by simp at hl ⊢;lia) e0;have⟨b2,O,W,U,i⟩:=tw2 (a3:=a3) (ss:=ss) (P:=P++(Ir m.toNat).map λp=>((n,p):Hv)) (a2:=Z (.g (.str n))) (a4:=Z (.g (.bl t))) (a5:=Z (I s)) (a6:=c6) hn hl λc hc=>hg c (.tail _ hc)
   have fs:G3 (e2 .v HY.g (eV 5) (eB .v PH.g (G3 (eV 4) He))) He (LA pg b.length (Z (.g (.str n))) a3 (Z (.g (.bl t))) (Z (I s)) a6) (b++[.dT (dp (lz P g))])=Z ([I m],b++[.dT (dp (lz P g))]):=by
    refine cw ?_;have e4:eB .v PH.g (G3 (eV 4) He) (LA pg b.length (Z (.g (.str n))) a3 (Z (.g (.bl t))) (Z (I s)) a6) (b++[.dT (dp (lz P g))])=Z (I (if t then 1 else 0),b++[.dT (dp (lz P g))]):=by cases t<;>rfl
    unfold e2;rw[show eV 5 (LA pg b.length (Z (.g (.str n))) a3 (Z (.g (.bl t))) (Z (I s)) a6) (b++[.dT (dp (lz P g))])=Z (I s,b++[.dT (dp (lz P g))])from rfl,G8,e4,G8];show((HY.g (.int s) (.int (if t then 1 else 0))).bind _)=_;rw[em];rfl
   exact⟨b2,O,W,U,M0 (aY (Hi:=LA pg b.length (Z (.g (.str n))) a3 (Z (.g (.bl t))) (Z (I s)) a6) rfl (K6 (.o 0 (ay (pt:=.one 6) (g:=tB3) (ds:=au 0 m.toNat) (fi:=iR 1 (G3 (e2 .v HY.g (eV 5) (eB .v PH.g (G3 (eV 4) He))) He)) (D:=LA pg b.length (Z (.g (.str n))) a3 (Z (.g (.bl t))) (Z (I s)) a6) (vN (j:=m) fs (qg hm)) j) .nil))) i⟩
  cases t with
  |false=>exact go 0 [] Ω (by simp[HY,Jh,ia,gG (i:=s) (j:=0) Θ Θ]) rfl (by simp[JO])
  |true=>exact go s _ hs (by simp[HY,Jh,ia,gG (i:=s) (j:=1) Θ Θ]) rfl (by simp[JO,Jn])
theorem qj:∀{ss:B Hd},QI (Jn (JO ss)) (Jn ss)
 |[]=>QI.refl _
 |c::ss=>by
  have O:=qj (ss:=ss);unfold Jn at O ⊢;cases q:c.2.2
  .rw[show JO (c::ss)=JO ss by simp[JO,q],Zo];exact List.sublist_append_of_sublist_right O
  .rw[show JO (c::ss)=c::JO ss by simp[JO,q],Zo,Zo];exact QI.append (QI.refl _) O
def Os{cs:B Hd}:QI (Ig cs ss) (aw cs ss):=QI.append (QI.map _ List.filter_sublist) qj
def DW{cs:B Hd}(h:(aw cs ss).Nodup):(Ig cs ss).Nodup:=Os.nodup h
end
variable{P:B Hv}
section
variable{T:B Hv}{g f:Vf}{z p:Nat}{b:CH}{cs ss:B Hd}{rw:Dt}
def wH(U:(Ig cs ss).Nodup)(hl:(Ig cs ss).length<G6)(h1:∀c∈cs,g c.1 0=c.2.1)(h2:∀c∈ss,(∀p,g c.1 p=0)/\0<=c.2.1/\c.2.1<=1000):F51 [.g (pD cs ss rw)] b=Z (.ref b.length,b++[.dT (dp (lz (Ig cs ss) g))]):=by
 obtain⟨pg,O⟩:∃pg,pg=pD cs ss rw:=⟨_,rfl⟩;unfold Ig at*
 have⟨b2,b3,b4,i1⟩:=tw1 (b:=b) (pg:=pg) (g:=g) (a5:=J) (a6:=J) (cs:=cs) (P:=[]) (a2:=J) (a3:=J) (a4:=J) (Le.mp U).1 (by simp at hl ⊢;lia) h1;have⟨d2,d4,d5,d6,W⟩:=tw2 (b:=b) (pg:=pg) (g:=g) (a3:=b3) (ss:=ss) (P:=[]++c1 (JO cs)) (a2:=b2) (a4:=b4) (a5:=J) (a6:=J) U hl h2;rw[<- O];have j1:=ay (fi:=iE (HR (eV 0) (eK (.int 0)))) (pt:=.many [2,3,4]) (g:=tB1) (ds:=cs.map Hd.d) (ch:=b++[CO.dT []]) (D:=LA pg b.length J J J J J) (by rw[O];rfl) i1;have j2:=ay (fi:=iE (HR (eV 0) (eK (.int 1)))) (pt:=.many [2,5,4]) (g:=tB2) (ds:=ss.map Hd.d) (by rw[O];rfl) W;exact xR (.o 0 j1 (.o 0 j2 .nil))
def PR(g:Vf):B Hv->Vf->Vf
 |[],f=>f
 |q::T,f=>PR g T (fu f q.1 q.2 (g q.1 q.2))
theorem wI{n:Str}{i:Nat}:∀{T:B Hv}{f:Vf},PR g T f n i=if((n,i):Hv)∈T then g n i else f n i
 |[],f=>by simp[PR]
 |q::T,f=>by
  show PR g T _ n i=_;rw[wI];by_cases h:((n,i):Hv)∈T
  .rw[if_pos h,if_pos (.tail _ h)]
  .rw[if_neg h];unfold fu;by_cases e:n=q.1/\i=q.2
   .rw[if_pos e,if_pos (by rw[show((n,i):Hv)=q from Prod.ext e.1 e.2];exact .head _),e.1,e.2]
   .rw[if_neg e,if_neg λO=>(IE.mp O).elim (λz=>e (by rw[<- z];exact⟨rfl,rfl⟩)) h]
def qk{q:Hv}(h:q∈T):ah ((lz T g).map (·.1)) ((lz T g).map (·.2)) (pK q)=Z (.int (g q.1 q.2)):=by
 induction T with
 |nil=>cases h
 |cons r T O=>
  show ah (pK r::(lz T g).map (·.1)) (Dt.int (g r.1 r.2)::(lz T g).map (·.2)) (pK q)=_;unfold ah;by_cases e:pK r=pK q
  .rw[if_pos e,iL e]
  .rw[if_neg e];exact O ((IE.mp h).resolve_left λz=>e (by rw[z]))
def DX:fW (dp (lz T g))=T.map λq=>.t [.str q.1,.int q.2]:=by simp[fW,dp,lz,dP,pK,av,IJ]
def lU{q:Hv}{v:Int}(U:P.Nodup)(hl:P.length<G6)(O:q∈P):bR (.dT (dp (lz P f))) (.t [.str q.1,.int q.2]) (I v)=Z (.dT (dp (lz P (fu f q.1 q.2 v)))):=by show(if(dp (lz P f)).length<G6 then Z (CO.dT (aV (dp (lz P f)) (pK q) (I v)))else J)=_;rw[if_pos (by rw[f8];simpa[lz] using hl),eg,ww U O]
abbrev RN(p:Nat)(pg:Dt)(z η:Nat)(a4:ζ CV):Sl:=[Z (.ref p),Z (.g pg),Z (.ref z),Z (.ref η),a4]
abbrev duB:Fs:=HL (aq gc Vs) (foB (match YC.b with|.sq _ (.sq (.ul _ s) _)=>.sq s .nil|_=>.nil))
def Gn{i:Nat}{g:Fs}{l O:B (B rb×CV)}(h1:D[j]?=Z (Z (.ref i)))(h2:ch[i]?=Z (.dT l))(U:g D ch=Z (.nx Hi G0))(h4:G0[i]?=Z (.wT O)):Qt j g D ch=Z (.nx Hi (G0.set i (.dT O))):=by unfold Qt;rw[h1];dsimp only;rw[h2];dsimp only;rw[U,G8];dsimp only;rw[h4]
theorem wJ{L:CH}{pg:Dt}(U:P.Nodup)(hl:P.length<G6)(hz:L[z]?=Z (.wT (dp (lz T g)))):∀{T':B Hv}{f:Vf}{a4:ζ CV},(∀q∈T',q∈P/\q∈T)->∃O,bJ (Hq (.one 4)) duB (T'.map λq=>.t [.str q.1,.int q.2]) (RN p pg z L.length a4) (L++[.dT (dp (lz P f))])=Z (.nx (RN p pg z L.length O) (L++[.dT (dp (lz P (PR g T' f)))]))
 |[],f,a4,_=>⟨a4,rfl⟩
 |q::T',f,a4,h=>by
  have⟨h1,h2⟩:=h q (.head _);have⟨O,i⟩:=wJ (pg:=pg) U hl hz (T':=T') (f:=fu f q.1 q.2 (g q.1 q.2)) (a4:=Z (.g (.t [.str q.1,.int q.2]))) λr W=>h r (.tail _ W)
  have hx:ixV (L++[.dT (dp (lz P f))]) (.ref z) (.t [.str q.1,.int q.2])=Z (I (g q.1 q.2)):=by show((L++[CO.dT (dp (lz P f))])[z]?).bind _=_;rw[gL (af hz),hz];show Jy (dp (lz T g)) (pK q)=_;rw[gu,qk h2];rfl
  have pt:=lU (f:=f) (v:=g q.1 q.2) U hl h1;refine⟨O,M0 (aY (Hi:=RN p pg z L.length (Z (.g (.t [.str q.1,.int q.2])))) (Oe:=RN p pg z L.length (Z (.g (.t [.str q.1,.int q.2])))) (ch1:=L++[.dT (dp (lz P (fu f q.1 q.2 (g q.1 q.2))))]) rfl ?_) i⟩;rw[<- gV (b:=L) (o:=.dT (dp (lz P f))) (o':=.dT (dp (lz P (fu f q.1 q.2 (g q.1 q.2)))))];exact K6 (.c 0 hx (.h 0 (gd (b:=L) (o:=.dT (dp (lz P f)))) (.p 0 pt .nil)))
def m5{o:CO}{b:CH}(h:b[z]?=Z o):b.set z o=b:=by
 refine QG λj=>?_
 by_cases e:z=j
 .subst e;rw[Mh (af h),h]
 .rw[gN e]
def DY{pg:Dt}(hn:P.Nodup)(hl:P.length<G6)(hT:∀q∈T,q∈P)(ho:F65 [.ref p,.g pg] b=Z (.ref b.length,b++[.dT (dp (lz P f))]))(hz:b[z]?=Z (.dT (dp (lz T g)))):F66 [.ref p,.g pg,.ref z] b=Z (.ref b.length,b++[.dT (dp (lz P (PR g T f)))]):=by
 have U:=af hz;have O:(b.set z (.wT (dp (lz T g))))[z]?=Z (.wT (dp (lz T g))):=Mh U;have⟨b4,i⟩:=wJ (p:=p) (pg:=pg) (L:=b.set z (.wT (dp (lz T g)))) hn hl O (T':=T) (f:=f) (a4:=J) λq hq=>⟨hT q hq,hq⟩
 rw[P5,<- DX (g:=g)]at i;have e1:(b++[CO.dT (dp (lz P f))])[z]?=Z (.dT (dp (lz T g))):=by rw[gL U];exact hz
 have W:∀X:CO,(b++[X]).set z (.wT (dp (lz T g)))=b.set z (.wT (dp (lz T g)))++[X]:=λX=>by rw[List.set_append_left _ _ U]
 have fi:OU (eV 2) (RN p pg z b.length J) (b++[.dT (dp (lz P f))])=Z (fW (dp (lz T g)),b.set z (.wT (dp (lz T g)))++[.dT (dp (lz P f))]):=by show((OU _ _ _)=_);unfold OU;rw[show eV 2 (RN p pg z b.length J) (b++[CO.dT (dp (lz P f))])=Z (.ref z,b++[CO.dT (dp (lz P f))])from rfl,G8];dsimp only;rw[e1];dsimp only;rw[W]
 have j:=Gn (j:=2) (D:=RN p pg z b.length J) rfl e1 (ay (pt:=.one 4) (g:=duB) fi i) (by rw[gL (by rw[P5];exact U)];exact O)
 have e3:(b.set z (.wT (dp (lz T g)))++[CO.dT (dp (lz P (PR g T f)))]).set z (.dT (dp (lz T g)))=b++[CO.dT (dp (lz P (PR g T f)))]:=by rw[List.set_append_left _ _ (by rw[P5];exact U),List.set_set,m5 hz]
 rw[e3]at j;exact xR (.v 0 ho (.o 0 j .nil))
def vwT(h:ch[z]?=Z (.dT (dp (lz P g)))):vw ch (.ref z)=Z (.HJ ((lz P g).map (·.1)) ((lz P g).map (·.2))):=by show(ch[z]?).bind _=_;rw[h];show(dats ((dp (lz P g)).map (·.2))).map (Dt.HJ ((dp (lz P g)).map (·.1)))=_;rw[dA,dZ];rfl
def zJ:((lz P g).map (·.2)).all aR=C:=Kk.mpr λd O=>by rwa[lz,IV,HG]at O;have⟨q,_,rfl⟩:=O;rfl
def iO:On.g (Nv cs ss g) (Nv cs ss g)=Z (.f (.bl C)):=by have fl:=zJ (P:=aw cs ss) (g:=g);unfold Nv On;dsimp only;unfold Jh;have e:MR ξ (.HJ ((lz (aw cs ss) g).map (·.1)) ((lz (aw cs ss) g).map (·.2))) (.HJ ((lz (aw cs ss) g).map (·.1)) ((lz (aw cs ss) g).map (·.2)))=J:=rfl;rw[e];dsimp only;exact(if_pos ⟨rfl,fl,fl,rfl⟩).trans (by rw[f9];rfl)
end
structure Tk(x:Fx)(cs ss:List Hd):Prop where
 tn:(Ig cs ss).Nodup
 ts:∀q∈Ig cs ss,q∈aw cs ss
 tk:∀n p,((n,p):Hv)∈aw cs ss->(((n,p):Hv)∈Ig cs ss↔aU x n=C)
 sz:∀n m,ah x.sk x.sv (.inr n)=Z (.int m)->∃t,(ss.filter λq=>decide (q.1=n))=[(n,m,t)]
 nq:((Hk ss).map (·.1)).Nodup
 ln:ss.length<=1000
 tl:(Ig cs ss).length<G6
variable{lg:B (B rb×Dt)}
section
variable{x:Fx}{R:B Rw}{sh:Sh}{nm ns:B Str}{cs ss:B Hd}{N N':Nat}{S:HS}{lo:ζ LS}{l:LS}{g:Vf}{a:AM}{P:PN}{h p z y:Nat}{zs:B Nat}{os:B CO}{b:CH}{rw:Dt}
def HA.ntw(h:HA sh N S l g a){n:Str}(O:aU S.x n=ξ)(p:Nat):g n p=a.f n p:=by
 rw[<- h.f];show _=iv _ _;cases q:ah (l.lg.map (·.1)) (l.lg.map (·.2)) [JM n,JT (p:Int)]with
 |none=>rfl
 |some d=>have⟨⟨m,j,h1,_,h2⟩,_⟩:=h.lg _ (aA q);rwa[OA,OI]at h1;rw[<- h1.1,O]at h2;cases h2
omit x in
def DZ(K:Tk x cs ss)(o:HA sh N S l g a)(O:S.x=x):lz (aw cs ss) (PR g (Ig cs ss) a.f)=lz (aw cs ss) g:=M3 λq U=>by
 rw[wI];split
 .rfl
 .rename_i h
  have W:aU S.x q.1=ξ:=by
   rw[O];cases e:aU x q.1 with
   |false=>rfl
   |true=>exact absurd ((K.tk q.1 q.2 U).mpr e) h
  rw[o.ntw W]
def wK(w:Nm sh cs ss):(aw cs ss).length<G6:=by rw[Ih];have:=w.ln;lia
theorem AT(w:Nm sh cs ss)(K:Tk x cs ss)(o:HA sh N S l g a)(hx:S.x=x)(q:PA x (cs.map (·.1)) N' P a)(W:Wm sh (Hk ss) h p S lo g P a.f zs os b)(hz:b[z]?=Z (.dT (dp (lz (Ig cs ss) g)))):F66 [.ref p,.g (pD cs ss rw),.ref z] b=Z (.ref b.length,b++[.dT (dp (lz (aw cs ss) g))]):=by have⟨M,Y,A1,A2,d,p1,p2,nd,hl,th,e1,O⟩:=W;have U:=DV (rw:=rw) w K.nq q A2;rw[O]at U;have:=DY w.pn (wK w) K.ts U hz;rw[DZ K o hx]at this;exact this
def wL(w:Nm sh cs ss)(W:Wm sh (Hk ss) h p S lo g P a.f zs os b):YY [.ref h,.g (pD cs ss rw)] b=Z (.g (Nv cs ss g),b):=by have⟨M,Y,A1,A2,d,p1,p2,nd,hl,th,O,U⟩:=W;have:=wA (rw:=rw) w A1;rw[O]at this;exact this
def wM(w:Nm sh cs ss)(K:Tk x cs ss)(hl:ns.length<=100)(U:S.res=J)(hp:S.mu=[])(o:HA sh N S l g a)(hx:S.x=x)(q:PA x (cs.map (·.1)) N' P a)(W:Wm sh (Hk ss) h p S (Z l) g P a.f zs os b)(hz:b[z]?=Z (.dT (dp (lz (Ig cs ss) g)))):F67 [.ref h,.ref p,.g (pD cs ss rw),.g (.e (ns.map .str)),.ref z] b=Z (.g (.bl C),b++[.dT (dp (lz (aw cs ss) g))]):=by
 have⟨q1,h1⟩:=W.h1;have⟨q2,h2⟩:=W.h2;have st:=W.hp (ds:=[]) (aj _) (dq (sh:=sh) (l:=l) (g:=g) U hp);have cn:=W.hp (ds:=[]) (aj _) (zD (sh:=sh) (l:=l) (g:=g) U hp);have bx:=λn=>W.hp (ds:=[.str n]) (aj _) (Gf (sh:=sh) (l:=l) (g:=g) U hp o n)
 have ps:=W.pp (ds:=[]) (aj _) (VM (ss:=Hk ss) (S:=P) (tl:=ab (Hk ss) a.f));have pc:=W.pp (ds:=[]) (aj _) (VN (ss:=Hk ss) (S:=P) (tl:=ab (Hk ss) a.f));have pb:=λn=>W.pp (ds:=[.str n]) (aj _) (zG (ss:=Hk ss) (tl:=ab (Hk ss) a.f) q n)
 rw[q.pl]at ps;rw[q.dn]at pc;rw[o.pl]at st;rw[o.dn]at cn;have hm:=wL (rw:=rw) w W;have du:=AT (rw:=rw) w K o hx q W hz
 have k1:Jj .v [J,Z 0] (iE (eV 3)) (Hq (.one 0)) IN (K4 3 2 F56 (eV 1) (G3 (eV 0) He)) [Z (.ref h),Z (.ref p),Z (.g (pD cs ss rw)),Z (.g (.e (ns.map .str))),Z (.ref z)] b=Z (.g (.e (ns.map λn=>.int (a.b n))),b):=bh (MD:=[J,Z (.ref h)]) (ds:=ns.map .str) rfl rfl (by rw[IV];exact aM (f:=Dt.str) (g:=λn=>.int (a.b n)) λn _=>⟨[Z (.g (.str n)),Z (.ref h)],rfl,rfl,zF h1 (bx n) rfl rfl⟩) (by rw[HN,Ih];lia)
 have k2:Jj .v [J,Z 1] (iE (eV 3)) (Hq (.one 0)) IN (K4 4 2 VB (eV 1) (G3 (eV 0) He)) [Z (.ref h),Z (.ref p),Z (.g (pD cs ss rw)),Z (.g (.e (ns.map .str))),Z (.ref z)] b=Z (.g (.e (ns.map λn=>.int (a.b n))),b):=bh (MD:=[J,Z (.ref p)]) (ds:=ns.map .str) rfl rfl (by rw[IV];exact aM (f:=Dt.str) (g:=λn=>.int (a.b n)) λn _=>⟨[Z (.g (.str n)),Z (.ref p)],rfl,rfl,zF h2 (pb n) rfl rfl⟩) (by rw[HN,Ih];lia)
 have pl:aZ 20 (.e (ns.map λn=>.int (a.b n)))=C:=gb (λ_=>rfl) _;have n1:=bB (d:=.int a.pl) rfl;have n2:=bB (d:=.int a.dn) rfl;have n3:=bB pl;have eT:=iO (cs:=cs) (ss:=ss) (g:=g);have O:=vwT (z:=b.length) (ch:=b++[.dT (dp (lz (aw cs ss) g))]) (P:=aw cs ss) (g:=g) gd;have O:vw (b++[.dT (dp (lz (aw cs ss) g))]) (.ref b.length)=Z (Nv cs ss g):=O;generalize Nv cs ss g=δ at hm eT O;generalize (CO.dT (dp (lz (aw cs ss) g)))=E at du O ⊢;exact xR (.h 0 h1 (.v 0 st (.h 0 h2 (.v 0 ps (.t 0 n1 (.h 0 h1 (.v 0 cn (.h 0 h2 (.v 0 pc (.t 0 n2 (.v 0 k1 (.v 0 k2 (.t 0 n3 (.v 0 hm (.v 0 du (.d 0 O (.t 0 eT .nil)))))))))))))))))
def VO(K:Tk x cs ss){n:Str}{i:Nat}(h:((n,i):Hv)∈aw cs ss):(ah ((lz (Ig cs ss) g).map (·.1)) ((lz (Ig cs ss) g).map (·.2)) (pK (n,i))).isSome=aU x n:=by
 cases e:aU x n with
 |true=>rw[qk ((K.tk n i h).mpr e)];rfl
 |false=>
  cases q:ah ((lz (Ig cs ss) g).map (·.1)) ((lz (Ig cs ss) g).map (·.2)) (pK (n,i))with
  |none=>rfl
  |some d=>have⟨r,O,U⟩:=HG.mp (aA q);rw[iL (congrArg NN U)]at O;rw[(K.tk n i h).mp O]at e;cases e
def zK(q:PA x (cs.map (·.1)) N' P a)(W:Wm sh (Hk ss) h p S lo g P a.f zs os b)(k:rb):F68 [.ref p,.g (av k)] b=Z (I (wv a.b k),b):=by
 have⟨q2,h2⟩:=W.h2;cases k with
 |inl i=>exact xR .nil
 |inr s=>have O:=W.pp (ds:=[.str s]) (aj _) (zG (ss:=Hk ss) (tl:=ab (Hk ss) a.f) q s);exact xR (.h 0 h2 (.v 0 O .nil))
def VP{n:Str}{i v:Int}(hl:lg.length<G6):bR (.dT (dp lg)) (.t [.str n,.int i]) (I v)=Z (.dT (dp (az lg [.inr n,.inl i] (.int v)))):=by show(if(dp lg).length<G6 then Z (CO.dT (aV (dp lg) [.inr n,.inl i] (I v)))else J)=_;rw[if_pos (by rw[f8];exact hl),eg]
def wN(X:XR x R sh nm)(w:Nm sh cs ss)(K:Tk x cs ss)(q:PA x (cs.map (·.1)) N' P a)(W:Wm sh (Hk ss) h p S lo g P a.f zs os b){r:Rw}(hR:R[a.pl]?=Z r){lg:B (B rb×Dt)}(hl:lg.length<G6)(hz:b[z]?=Z (.dT (dp (lz (Ig cs ss) g))))(hy:b[y]?=Z (.dT (dp lg))):F69 [.ref p,.g (pD cs ss (.t (R.map Rw.d))),.ref z,.ref y] b=Z (.g .ek,b.set y (.dT (dp (PQ x a r lg)))):=by
 have⟨q2,h2⟩:=W.h2;have ps:=W.pp (ds:=[]) (aj _) (VM (ss:=Hk ss) (S:=P) (tl:=ab (Hk ss) a.f));have O:ixV b (.g (.t (R.map Rw.d))) (.int P.pl)=Z (.g r.d):=(cK q.pl (by rw[HZ,hR];rfl)).2;have wo:=zK q W;have vz:=vwT hz;have S4:=X.Y3 r (Il hR);have same:b.set y (.dT (dp lg))=b:=m5 hy
 have SJ:(∀n k,r≠.store n k)->(∀n k j,r≠.lay n k j)->F69 [.ref p,.g (pD cs ss (.t (R.map Rw.d))),.ref z,.ref y] b=Z (.g .ek,b.set y (.dT (dp (PQ x a r lg)))):=λn1 n2=>by
  have e:PQ x a r lg=lg:=by cases r<;>first|rfl|exact absurd rfl (n1 _ _)|exact absurd rfl (n2 _ _ _)
  rw[e,same];have hk:=v7 (ch:=b) (r:=r);have e1:KH.g (.str (kd r)) (.str "store")=Z (.f (.bl ξ)):=by cases r<;>first|exact absurd rfl (n1 _ _)|kernel_rfl
  have Lz:KH.g (.str (kd r)) (.str "lay")=Z (.f (.bl ξ)):=by cases r<;>first|exact absurd rfl (n2 _ _ _)|kernel_rfl
  generalize Dt.t (R.map Rw.d)=RD at O ⊢;generalize r.d=rd at O hk;generalize kd r=kr at hk e1 Lz;exact xR (.h 0 h2 (.v 0 ps (.c 0 O (.c 0 hk (.t 0 e1 (.c 0 hk (.t 0 Lz .nil)))))))
 cases r with
 |store n k=>
  have hv:((n,0):Hv)∈aw cs ss:=w.pm _ _ S4.1;have U:Lu.g (.t [.str n,.int 0]) (.HJ ((lz (Ig cs ss) g).map (·.1)) ((lz (Ig cs ss) g).map (·.2)))=Z (.f (.bl (ah ((lz (Ig cs ss) g).map (·.1)) ((lz (Ig cs ss) g).map (·.2)) (pK (n,0))).isSome)):=rfl;rw[VO K hv]at U;have pt:=VP (lg:=lg) (n:=n) (i:=0) (v:=wv a.b k) hl;have wk:=wo k;generalize Dt.t (R.map Rw.d)=RD at O ⊢;show _=Z (CV.g .ek,b.set y (.dT (dp (if aU x n then az lg [.inr n,.inl ((0:Nat):Int)] (.int (wv a.b k))else lg))));cases t:aU x n with
  |false=>rw[t]at U;rw[if_neg Ω,same];exact xR (.h 0 h2 (.v 0 ps (.c 0 O (.d 0 vz (.t 0 U .nil)))))
  |true=>rw[t]at U;rw[if_pos rfl];exact xR (.h 0 h2 (.v 0 ps (.c 0 O (.d 0 vz (.t 0 U (.v 0 wk (.h 0 hy (.p 0 pt .nil))))))))
 |lay n k j=>
  have⟨i,m,s1,s2,s3⟩:=S4.1;have hv:((n,0):Hv)∈aw cs ss:=w.pm _ _ ⟨i,m,s1,s2⟩;have U:Lu.g (.t [.str n,.int 0]) (.HJ ((lz (Ig cs ss) g).map (·.1)) ((lz (Ig cs ss) g).map (·.2)))=Z (.f (.bl (ah ((lz (Ig cs ss) g).map (·.1)) ((lz (Ig cs ss) g).map (·.2)) (pK (n,0))).isSome)):=rfl;rw[VO K hv]at U;have esz:sz x n=m:=p9 s3;have⟨tt,hf⟩:=K.sz n m s3;have wk:=wo k;have wj:=wo j;have pos:=M1 (wv a.b k) (show(m:Int)≠0 by lia);have md:=KC (v:=wv a.b k) (m:=m) (q:=wv a.b k%m) rfl Θ;have pt:=VP (lg:=lg) (n:=n) (i:=wv a.b k%m) (v:=wv a.b j) hl
  have co:Jj .v [J,J,J,Z 4] (iE (HR (eV 1) (eK (.int 1)))) (Hq (.many [0,1,2])) (gw (e2 .v KH.g (eV 0) (HR (eV 3) (eK (.int 1))))) (eV 1) [Z (.ref p),Z (.g (pD cs ss (.t (R.map Rw.d)))),Z (.ref z),Z (.ref y),Z (.g (Rw.lay n k j).d),J] b=Z (.g (.e [.int m]),b):=
   bh (MD:=[J,J,J,Z (.g (Rw.lay n k j).d)]) (ds:=ss.map Hd.d) (es:=[.int m]) rfl rfl (by
    have:=cb (pt:=.many [0,1,2]) (ft:=gw (e2 .v KH.g (eV 0) (HR (eV 3) (eK (.int 1))))) (fe:=eV 1) (D:=[J,J,J,Z (.g (Rw.lay n k j).d)]) (ch:=b) (f:=Hd.d) (g:=λq:Hd=>.int q.2.1) (p:=λq=>decide (q.1=n)) (l:=ss) λc _=>⟨[Z (.g (.str c.1)),Z (I c.2.1),Z (.g (.bl c.2.2)),Z (.g (Rw.lay n k j).d)],rfl,xRt (tb:=aq gc []) (e:=.tr (.b2 KH .v (.v 0) (.ix (.v 3) (.k (.int 1))))) (.t 0 (LV (a:=c.1) (b:=n) rfl) .nil),λ_=>rfl⟩
    rw[this,hf];rfl) (by rw[Ih];simp)
  generalize Dt.t (R.map Rw.d)=RD at O co ⊢;show _=Z (CV.g .ek,b.set y (.dT (dp (if aU x n then az lg [.inr n,.inl ((wv a.b k%sz x n).toNat:Int)] (.int (wv a.b j))else lg))));rw[esz,show((wv a.b k%m).toNat:Int)=wv a.b k%m by lia];cases t:aU x n with
  |false=>rw[t]at U;rw[if_neg Ω,same];exact xR (.h 0 h2 (.v 0 ps (.c 0 O (.d 0 vz (.t 0 U .nil)))))
  |true=>rw[t]at U;rw[if_pos rfl];exact xR (.h 0 h2 (.v 0 ps (.c 0 O (.d 0 vz (.t 0 U (.v 0 co (.v 0 wj (.v 0 wk (.t 0 md (.h 0 hy (.p 0 pt .nil)))))))))))
 |_=>exact SJ (λ_ _ e=>nomatch e) (λ_ _ _ e=>nomatch e)
end
section
variable{x:Fx}{sh:Sh}{cs ss:B Hd}{S S1:HS}{lo lo1:ζ LS}{g g1 f:Vf}{P:PN}{h p q pgs wz kq kp kw:Nat}{zs:B Nat}{os:B CO}{b:CH}{rw:Dt}
def Gp{i:Nat}{l:B CV}(h1:fe D ch=Z (.ref i,ch))(h2:ch[i]?=Z (.t l))(O:kQ is l D=Z Hi):SM is fe D ch=Z (.nx Hi ch):=by unfold SM;rw[h1,G8];dsimp only;rw[h2];dsimp only;rw[O];rfl
def ql{i:Nat}{p0 p1:Dt}(h:ch[i]?=Z (.e [.g p0,.g p1])):ixV ch (.ref i) (.int 0)=Z (.g p0)/\ixV ch (.ref i) (.int 1)=Z (.g p1):=by
 constructor
 .show(ch[i]?).bind _=_;rw[h];rfl
 .show(ch[i]?).bind _=_;rw[h];rfl
def iP (w:Nm sh cs ss) (W:Wm sh (Hk ss) h p S lo g P f zs os b) (hr:S.res=J) (hp:S.mu≠[]) (t:To sh O0 [.ref 0] (hz sh S lo g) (λS' Jg g'=>S'=S1/\Jg=lo1/\g'=g1)) (q1:zs[kq]?=Z q) (q2:os[kq]?=Z (.t [.ref pgs,I (cI S1.c),.ref wz])) (p1:zs[kp]?=Z pgs) (p2:os[kp]?=Z (.e [.g (S1.pg ξ).d,.g (S1.pg C).d])) (w1:zs[kw]?=Z wz) (w2:os[kw]?=Z (.dT (dp (lz (aw cs ss) g1)))) :
  ∃b',F80 [.ref h,.g (pD cs ss rw),.ref q] b=Z (.g (.bl C),b')/\Wm sh (Hk ss) h p S1 lo1 g1 P f zs os b':=by
 have⟨e1,h1⟩:=W.h1;have st:=W.hp (ds:=[]) (aj _) (iK (sh:=sh) (lo:=lo) (g:=g) hr hp);have rs:=W.hp (ds:=[]) (aj _) (iI (sh:=sh) (lo:=lo) (g:=g) hr);have tq:=W.th q1 q2;have⟨S',Jg,g',b',⟨rfl,rfl,rfl⟩,c1,O⟩:=W.MY (ds:=[]) (aj _) t;have⟨e2,h2⟩:=O.h1;have fc:=O.hp (ds:=[]) (aj _) (wt (sh:=sh) (S:=S') (lo:=Jg) (g:=g'));have g0:Op [.ref h,I 0] b'=Z (.g (S'.pg ξ).d,b'):=O.hp (ds:=[.int 0]) (aj _) (iJ (sh:=sh) (S:=S') (lo:=Jg) (g:=g') ξ);have U:Op [.ref h,I 1] b'=Z (.g (S'.pg C).d,b'):=O.hp (ds:=[.int 1]) (aj _) (iJ (sh:=sh) (S:=S') (lo:=Jg) (g:=g') C)
 have hm:YY [.ref h,.g (pD cs ss rw)] b'=Z (.g (Nv cs ss g'),b'):=by have⟨M,Y,A1,A2,d,p1,p2,nd,hl,th,e1,Lz⟩:=O;have:=wA (rw:=rw) w A1;rw[e1]at this;exact this
 have⟨i0,i1⟩:=ql (O.th p1 p2);have vT:vw b' (.ref wz)=Z (Nv cs ss g'):=vwT (O.th w1 w2);have eT:=iO (cs:=cs) (ss:=ss) (g:=g');have n0:=bB (d:=.int (cI S'.c)) rfl;have n1:=bB (m3 (k:=15) (S'.pg ξ));have n2:=bB (m3 (k:=15) (S'.pg C));have ut:=Gp (is:=[3,4,5]) (fe:=eV 2) (D:=[Z (.ref h),Z (.g (pD cs ss rw)),Z (.ref q),J,J,J]) (ch:=b) rfl tq rfl;refine⟨b',?_,O⟩;generalize Nv cs ss g'=δ at hm eT vT;generalize (S'.pg ξ).d=d0 at g0 i0 n1;generalize (S'.pg C).d=d1 at U i1 n2;exact xR (.o 0 ut (.h 0 h1 (.v 0 st (.h 0 h1 (.v 0 rs (.h 0 h1 (.v 0 c1 (.h 0 h2 (.v 0 fc (.t 0 n0 (.h 0 h2 (.v 0 g0 (.c 0 i0 (.t 0 n1 (.h 0 h2 (.v 0 U (.c 0 i1 (.t 0 n2 (.v 0 hm (.d 0 vT (.t 0 eT .nil)))))))))))))))))))))
end
def JA(H:Pg)(k:Nat):Pg:={H with bs:=H.bs.take k,ts:=H.ts.take (k-H.bs.length)}
def KR(H:Pg):B Sm:=Sm.Nt H.r H.dn H.he H.sy::((H.bs.map λk=>.box k.1 k.2)++oo H.ts)
def Jq(S:HS)(H:Pg)(R:B Sm):Nat->HS
 |0=>S
 |k+1=>{S with mu:=(KR H).drop (k+1)++R,pg:=up S.pg (!S.c) (JA H k)}
variable{ks:B Bx}
section
variable{S:HS}{H:Pg}{R:B Sm}{k:Nat}
def wO{b c d:Int}:dm a b c d ks ts=KR ⟨a,b,c,d,ks,ts⟩++(.LU::bj ts):=by simp[dm,KR]
def gW:(KR H).length=H.bs.length+H.ts.length+1:=by simp[KR,oo]
def iQ(hp:S.mu=KR H++R):(Jq S H R k).mu=(KR H).drop k++R:=by cases k with|zero=>exact hp|succ k=>rfl
def qm:(Jq S H R k).c=S.c:=by cases k<;>rfl
def lV:(Jq S H R k).res=S.res:=by cases k<;>rfl
def zL:(Jq S H R (k+1)).pg (!S.c)=JA H k:=qc
def zM:JA H (H.bs.length+H.ts.length)=H:=by unfold JA;rw[V1 (l:=H.bs) Θ,P8,List.take_length]
def jX{α:Type}{l:B α}{i:Nat}{a:α}(h:l[i]?=Z a):l.take i++[a]=l.take (i+1):=by rw[List.take_add_one,h];rfl
def D0{s:Sm}(hs:(KR H)[k]?=Z s):ap {Jq S H R k with mu:=(KR H).drop (k+1)++R} s=Jq S H R (k+1):=by
 cases k with
 |zero=>cases hs;show HS.mk _ _ _ _ _ _ _ _=HS.mk _ _ _ _ _ _ _ _;simp[Jq,JA]
 |succ k=>
  have hs:((H.bs.map λk=>Sm.box k.1 k.2)++oo H.ts)[k]?=Z s:=hs;rcases MM k H.bs.length with O|O
  .rw[RZ ‹O›,HZ]at hs;have⟨c,hc,rfl⟩:=mS hs
   have e:JA H (k+1)={JA H k with bs:=(JA H k).bs++[(c.1,c.2)]}:=by show Pg.mk _ _ _ _ _ _=Pg.mk _ _ _ _ _ _;rw[show(JA H k).bs++[(c.1,c.2)]=H.bs.take (k+1)from jX hc,show k+1-H.bs.length=0 by lia];simp[JA,show k-H.bs.length=0 by lia]
   show HS.mk _ _ _ _ _ _ _ _=HS.mk _ _ _ _ _ _ _ _;rw[e];congr 1;show up (up S.pg (!S.c) _) (!S.c) {up S.pg (!S.c) (JA H k) (!S.c)with bs:=(up S.pg (!S.c) (JA H k) (!S.c)).bs++[(c.1,c.2)]}=_;rw[wm,qc]
  .rw[P0 ‹O›,HN]at hs;unfold oo at hs;rw[HZ]at hs;have⟨c,hc,rfl⟩:=mS hs
   have e:JA H (k+1)={JA H k with ts:=(JA H k).ts++[((c.1.1,c.1.2),c.2)]}:=by show Pg.mk _ _ _ _ _ _=Pg.mk _ _ _ _ _ _;rw[show(JA H k).ts++[((c.1.1,c.1.2),c.2)]=H.ts.take (k-H.bs.length+1)from jX hc,show k+1-H.bs.length=k-H.bs.length+1 by lia,V1 (l:=H.bs) Θ,show(JA H k).bs=H.bs from V1 O];rfl
   show HS.mk _ _ _ _ _ _ _ _=HS.mk _ _ _ _ _ _ _ _;rw[e];congr 1;show up (up S.pg (!S.c) _) (!S.c) {up S.pg (!S.c) (JA H k) (!S.c)with ts:=(up S.pg (!S.c) (JA H k) (!S.c)).ts++[((c.1.1,c.1.2),c.2)]}=_;rw[wm,qc]
def wP{l:LS}{g:Vf}(W:(sh.map (·.1)).Nodup)(hr:S.res=J)(hp:S.mu=KR H++R)(hR:R≠[])(hl:S.mu.length<=1000000){s:Sm}(hs:(KR H)[k]?=Z s):To sh O0 [.ref 0] (hz sh (Jq S H R k) (Z l) g) (λS' Jg g'=>S'=Jq S H R (k+1)/\Jg=Z l/\g'=g):=by
 have hk:=af hs;have Xn:H.bs.length+H.ts.length+1<=1000000:=by rw[hp,Kj,gW]at hl;lia
 have e:(Jq S H R k).mu=s::((KR H).drop (k+1)++R):=by rw[iQ hp,Zj hk];have:(KR H)[k]=s:=(gX hs).2;rw[this];rfl
 have hx:=D0 (S:=S) (R:=R) hs;have O:(KR H).drop (k+1)++R≠[]:=by simp[hR]
 have hw:s≠.wake/\Y4 g s=g/\(((∃a b c d,s=.Nt a b c d)/\(KR H).drop (k+1)++R≠[])\/Can sh {Jq S H R k with mu:=(KR H).drop (k+1)++R} s):=by
  have U:=Il hs;rwa[KR,oo,IE,JC,HG]at U
  have lt:∀j,((Jq S H R j).pg (!S.c)).bs.length<G6/\((Jq S H R j).pg (!S.c)).ts.length<G6\/j=0:=λj=>by
   cases j with
   |zero=>exact .inr rfl
   |succ j=>left;rw[zL,Ih];simp[JA];lia
  rcases U with rfl|⟨c,_,rfl⟩|⟨c,_,rfl⟩
  .exact⟨nofun,rfl,.inl ⟨⟨_,_,_,_,rfl⟩,O⟩⟩
  .refine⟨nofun,rfl,.inr ?_⟩;rcases lt k with h|rfl
   .show((Jq S H R k).pg (!(Jq S H R k).c)).bs.length<_;rw[qm];exact h.1
   .cases hs
  .refine⟨nofun,rfl,.inr ?_⟩;rcases lt k with h|rfl
   .show((Jq S H R k).pg (!(Jq S H R k).c)).ts.length<_;rw[qm];exact h.2
   .cases hs
 have⟨w1,w2,w3⟩:=hw;have:=lI (S:=Jq S H R k) (l:=l) (g:=g) W (by rw[lV];exact hr) e w1 (by rw[iQ hp];rw[hp]at hl;simp at hl ⊢;lia) w3;rw[hx,w2]at this;have e3:RJ l ((KR H).drop (k+1)++R)=l:=by cases q:(KR H).drop (k+1)++R with|nil=>exact absurd q O|cons _ _=>rfl
 rw[e3]at this;exact this
end
abbrev wE(h p:Nat)(pg bx:Dt)(z y:Nat)(fc:Int)(A:Nat)(pr tr:Dt)(η:Nat)(hd:Dt)(a9 a13 a14:ζ CV):Sl:=[Z (.ref h),Z (.ref p),Z (.g pg),Z (.g bx),Z (.ref z),Z (.ref y),Z (I fc),Z (.ref A),Z (.g pr),a9,Z (.g tr),Z (.ref η),Z (.g hd),a13,a14]
abbrev wB1:Fs:=HL (aq gc SY) (K9 0 Vt.b)
abbrev wB2:Fs:=HL (aq gc SY) (K9 1 Vt.b)
def Kb(S:HS):CO:=.e [.g (S.pg ξ).d,.g (S.pg C).d]
def RP(g:Vf):B Tn->Vf
 |[]=>g
 |t::ts=>RP (fu g t.1.1 t.1.2 t.2) ts
variable{R:B Sm}
section
variable{S:HS}{H q:Pg}{ch:CH}{A:Nat}{L:B Dt}{k:Nat}
def D3:bR (Kb S) (.int (cI (!S.c))) (.g q.d)=Z (.e [.g (up S.pg (!S.c) q ξ).d,.g (up S.pg (!S.c) q C).d]):=by cases e:S.c<;>simp[up]<;>rfl
def Gq(h:ch[A]?=Z (Kb S)):ixV ch (.ref A) (.int (cI S.c))=Z (.g (S.pg S.c).d):=by
 have⟨U,O⟩:=ql h;cases e:S.c
 .exact U
 .exact O
def wQ{c:Bool}:LJ.g (.int 1) (.int (cI c))=Z (.f (.int (cI (!c)))):=by cases c<;>rfl
def AU:Ng (.e L) J (Z (k:Int))=Z (.e (L.take k)):=by show Z (T.e ((L.drop (HT.Jx L.length 0 J)).take (HT.Jx L.length L.length (Z (k:Int))-HT.Jx L.length 0 J)))=_;rw[HT.GX,show HT.Jx L.length 0 J=0 from rfl,List.drop_zero,Wa,show L.take (min k L.length)=L.take k from List.take_eq_take_iff.mpr Θ]
def D4{H:Pg}:up (Jq S H R k).pg (!S.c) (JA H k)=(Jq S H R (k+1)).pg:=by
 cases k with
 |zero=>rfl
 |succ k=>exact wm
def wR{U O:B Dt}{a b c d:Int}:Hs.g (.t [.int a,.int b,.int c,.int d]) (.t [.e U,.e O])=Z (.f (.t [.int a,.int b,.int c,.int d,.e U,.e O])):=by simp[Hs,Jh,c5,Ih]
end
section
variable{x:Fx}{sh:Sh}{cs ss:B Hd}{N N':Nat}{S:HS}{l:LS}{g:Vf}{a:AM}{P:PN}{f:Vf}{h p z y A η:Nat}{b:CH}{rw bx:Dt}{H:Pg}{ts:B Tn}{ς σ:CO}
theorem wS (w:Nm sh cs ss) (hr:S.res=J) (hp:S.mu=KR H++R) (hR:R≠[]) (hl:S.mu.length<=1000000):∀ {n k:Nat} {b:CH} {a13:ζ CV},k+n=H.bs.length+H.ts.length+1->Wm sh (Hk ss) h p (Jq S H R k) (Z l) g P f [z,y,A,η] [ς,σ,Kb (Jq S H R k),.dT (dp (lz (aw cs ss) g))] b→
  ∃O b',bJ (Hq (.one 13)) wB1 ((List.range' k n).map λ(i:Nat)=>.int (0+i)) (wE h p (pD cs ss rw) bx z y (cI S.c) A (.e H.b) (.e H.t) η (.t H.h) J a13 J) b=Z (.nx (wE h p (pD cs ss rw) bx z y (cI S.c) A (.e H.b) (.e H.t) η (.t H.h) J O J) b')/\Wm sh (Hk ss) h p (Jq S H R (k+n)) (Z l) g P f [z,y,A,η] [ς,σ,Kb (Jq S H R (k+n)),.dT (dp (lz (aw cs ss) g))] b'
 |0,k,b,a13,_,W=>⟨a13,b,rfl,W⟩
 |n+1,k,b,a13,e,W=>by
  have hk:k<(KR H).length:=by rw[gW];lia
  obtain⟨s,hs⟩:∃s,(KR H)[k]?=Z s:=⟨_,gQ hk⟩;have t:=wP (l:=l) (g:=g) w.nd hr hp hR hl hs;have⟨q1,h1⟩:=W.h1;have U:(Jq S H R k).mu≠[]:=by rw[iQ hp];simp[hR]
  have cn:=W.hp (ds:=[]) (aj _) (qe (sh:=sh) (lo:=Z l) (g:=g) (by rw[lV];exact hr) U);have hA:=W.th (k:=2) rfl rfl;have ix:=Gq hA;have pt:=D3 (S:=Jq S H R k) (q:=JA H k);rw[qm]at cn ix pt;rw[D4]at pt;have W1:=(W.put (k:=2) rfl (Kb (Jq S H R (k+1)))).new (.t [.ref A,I (cI S.c),.ref η]);have⟨b',c1,W2⟩:=iP (rw:=rw) (kq:=4) (kp:=2) (kw:=3) w W1 (by rw[lV];exact hr) U t (q:=(b.set A (Kb (Jq S H R (k+1)))).length) rfl (by rw[qm];rfl) rfl rfl rfl rfl;have W3:=Wm.fst (zs:=[z,y,A,η]) (os:=[ς,σ,Kb (Jq S H R (k+1)),.dT (dp (lz (aw cs ss) g))]) W2 rfl;have⟨O,b2,i,W4⟩:=wS w hr hp hR hl (n:=n) (k:=k+1) (a13:=Z (I (0+(k:Int)))) Θ W3;rw[show k+1+n=k+(n+1)by lia]at W4;refine⟨O,b2,?_,W4⟩;rw[Zp,Hz];refine M0 (aY (Hi:=wE h p (pD cs ss rw) bx z y (cI S.c) A (.e H.b) (.e H.t) η (.t H.h) J (Z (I (0+(k:Int)))) J) rfl ?_) i
  have s1:KN .v (eV 8) J (Z (eV 13)) (wE h p (pD cs ss rw) bx z y (cI S.c) A (.e H.b) (.e H.t) η (.t H.h) J (Z (I (0+(k:Int)))) J) b=Z (.g (.e (JA H k).b),b):=by have:=AU (L:=H.b) (k:=k);rwa[KN,L8,eV,KU,R0,lent,cj,vw,MK,this,fin,T.d,G8,Iy,JA,Pg.b,V8]
  have mx:Ol.g [.int 0,.int (0+(k:Int)-(H.b.length:Int))]=Z (.f (.int ((k-H.bs.length:Nat):Int))):=by
   show Z (T.f (.int (if(0:Int)<0+(k:Int)-(H.b.length:Int)then 0+(k:Int)-(H.b.length:Int)else 0)))=_;have e1:H.b.length=H.bs.length:=by simp[Pg.b]
   rw[e1];split<;>congr 3<;>lia
  have s2:KN .v (eV 10) J (Z (eB .v Ol.g (G3 (eK (.int 0)) (G3 (e2 .v LJ.g (eV 13) (eB .v HE.g (G3 (eV 8) He))) He)))) (wE h p (pD cs ss rw) bx z y (cI S.c) A (.e H.b) (.e H.t) η (.t H.h) J (Z (I (0+(k:Int)))) J) b=Z (.g (.e (JA H k).t),b):=by
   have ha:eB .v Ol.g (G3 (eK (.int 0)) (G3 (e2 .v LJ.g (eV 13) (eB .v HE.g (G3 (eV 8) He))) He)) (wE h p (pD cs ss rw) bx z y (cI S.c) A (.e H.b) (.e H.t) η (.t H.h) J (Z (I (0+(k:Int)))) J) b=Z (I ((k-H.bs.length:Nat):Int),b):=xRe (tb:=aq gc []) (e:=.bn Ol .v (.cons (.k (.int 0)) (.cons (.b2 LJ .v (.v 13) (.bn HE .v (.cons (.v 8) .nil))) .nil))) (.t 0 (show HE.g [.e H.b]=Z (.f (.int H.b.length))from rfl) (.t 1 mx .nil))
   have:=AU (L:=H.t) (k:=k-H.bs.length);unfold KN L8;rw[show eV 10 (wE h p (pD cs ss rw) bx z y (cI S.c) A (.e H.b) (.e H.t) η (.t H.h) J (Z (I (0+(k:Int)))) J) b=Z (.g (.e H.t),b)from rfl,G8,G8];dsimp only;rw[ha];rwa[G8,cj,Iy,vw,this,fin,T.d,JA,Pg.t,V8]
  have ad:Hs.g (.t H.h) (.t [.e (JA H k).b,.e (JA H k).t])=Z (.f (JA H k).d):=wR;have n1:=bB (d:=.int ((Jq S H R k).pg S.c).dn) rfl;have sc:=wQ (c:=S.c);generalize ((Jq S H R k).pg S.c)=pc at cn ix n1;exact K6 (.h 0 h1 (.v 0 cn (.c 0 ix (.t 0 n1 (.v 0 s1 (.v 0 s2 (.t 0 ad (.t 0 sc (.h 0 hA (.p 0 pt (.v 0 c1 .nil)))))))))))
end
section
variable{x:Fx}{sh:Sh}{cs ss:B Hd}{N N':Nat}{S:HS}{l:LS}{g:Vf}{a:AM}{P:PN}{f:Vf}{h p z y A η:Nat}{b:CH}{rw bx:Dt}{H:Pg}{ts:B Tn}{ς σ:CO}
theorem wU (w:Nm sh cs ss) (K:Tk x cs ss) (hr:S.res=J) (hd:(S.pg S.c).dn=H.dn) (hl:ts.length<=900000):∀ {L:B Tn} {g:Vf} {b:CH} {a9 a14 a13:ζ CV},L.length<=ts.length->(∀ t∈L,Vp sh t.1.1 t.1.2/\aU x t.1.1=C)->Wm sh (Hk ss) h p {S with mu:=bj L} (Z (RJ l (bj L))) g P f [z,y,A,η] [.dT (dp (lz (Ig cs ss) g)),σ,Kb S,.dT (dp (lz (aw cs ss) g))] b→
  ∃U O b',bJ (Hq (.many [9,14])) wB2 (L.map Tn.d) (wE h p (pD cs ss rw) bx z y (cI (!S.c)) A (.e H.b) (.e H.t) η (.t H.h) a9 a13 a14) b=Z (.nx (wE h p (pD cs ss rw) bx z y (cI (!S.c)) A (.e H.b) (.e H.t) η (.t H.h) U a13 O) b')/\Wm sh (Hk ss) h p {S with mu:=[]} (Z {l with lg:=[]}) (RP g L) P f [z,y,A,η] [.dT (dp (lz (Ig cs ss) (RP g L))),σ,Kb S,.dT (dp (lz (aw cs ss) (RP g L)))] b'
 |[],g,b,a9,a14,a13,_,_,W=>⟨a9,a14,b,rfl,W⟩
 |t::L,g,b,a9,a14,a13,hL,ht,W=>by
  rwa[JK]at hL;have⟨v1,v2⟩:=ht t (.head _);have hq:=w.pm _ _ v1;have hT:t.1∈Ig cs ss:=(K.tk t.1.1 t.1.2 hq).mpr v2;have⟨q1,h1⟩:=W.h1;have cn:=W.hp (ds:=[]) (aj _) (qe (sh:=sh) (lo:=Z (RJ l (bj (t::L)))) (g:=g) (S:={S with mu:=bj (t::L)}) hr nofun);have hz:=W.th (k:=0) rfl rfl;have pz:=lU (f:=g) (v:=t.2) (q:=t.1) K.tn K.tl hT;have W1:=W.put (k:=0) rfl (.dT (dp (lz (Ig cs ss) (fu g t.1.1 t.1.2 t.2))));have hB:=W1.th (k:=3) rfl rfl;have pB:=lU (f:=g) (v:=t.2) (q:=t.1) w.pn (wK w) hq;have W2:=W1.put (k:=3) rfl (.dT (dp (lz (aw cs ss) (fu g t.1.1 t.1.2 t.2))));have W3:=W2.new (.t [.ref A,I (cI S.c),.ref η]);have st:=lI (S:={S with mu:=bj (t::L)}) (l:=l) (g:=g) (P:=bj L) (s:=.put t.1.1 t.1.2 t.2) w.nd hr rfl nofun (by simp[bj];lia) (.inr v1);have⟨b',c1,W4⟩:=iP (rw:=rw) (kq:=4) (kp:=2) (kw:=3) w W3 (S1:={S with mu:=bj L}) (lo1:=Z (RJ l (bj L))) (g1:=fu g t.1.1 t.1.2 t.2) hr nofun st rfl rfl rfl rfl rfl rfl;have W5:=Wm.fst (zs:=[z,y,A,η]) (os:=[.dT (dp (lz (Ig cs ss) (fu g t.1.1 t.1.2 t.2))),σ,Kb S,.dT (dp (lz (aw cs ss) (fu g t.1.1 t.1.2 t.2)))]) W4 rfl;have⟨U,O,b2,i,W6⟩:=wU w K hr hd hl (L:=L) (a9:=Z (.g (.t [.str t.1.1,.int t.1.2]))) (a14:=Z (I t.2)) (a13:=a13) Θ (λu hu=>ht u (.tail _ hu)) W5;refine⟨U,O,b2,?_,W6⟩;refine M0 (aY (Hi:=wE h p (pD cs ss rw) bx z y (cI (!S.c)) A (.e H.b) (.e H.t) η (.t H.h) (Z (.g (.t [.str t.1.1,.int t.1.2]))) a13 (Z (I t.2))) rfl ?_) i;have n1:=bB (d:=.int H.dn) rfl;have cn:YX [.ref h] b=Z (I H.dn,b):=by rw[<- hd];exact cn
  have sc:LJ.g (.int 1) (.int (cI (!S.c)))=Z (.f (.int (cI S.c))):=by have:=wQ (c:=!S.c);rw[Bool.not_not]at this;assumption
  have pz:bR (.dT (dp (lz (Ig cs ss) g))) (.t [.str t.1.1,.int t.1.2]) (I t.2)=Z (.dT (dp (lz (Ig cs ss) (fu g t.1.1 t.1.2 t.2)))):=pz;have pB:bR (.dT (dp (lz (aw cs ss) g))) (.t [.str t.1.1,.int t.1.2]) (I t.2)=Z (.dT (dp (lz (aw cs ss) (fu g t.1.1 t.1.2 t.2)))):=pB;generalize CO.dT (dp (lz (Ig cs ss) g))=O1 at hz pz;generalize CO.dT (dp (lz (aw cs ss) g))=O2 at hB pB;exact K6 (.h 0 h1 (.v 0 cn (.t 0 n1 (.h 0 hz (.p 0 pz (.h 0 hB (.p 0 pB (.t 0 sc (.v 0 c1 .nil)))))))))
theorem wV:∀{ts:B Tn}{g:Vf},((Lx ts).map (·.1)).Nodup->RP g ts=va (Lx ts) g
 |[],_,_=>rfl
 |t::ts,g,h=>by
  have h':=Jr.mp h;show RP (fu g t.1.1 t.1.2 t.2) ts=_;rw[wV h'.2];funext n p;show lv (Lx ts) (fu g t.1.1 t.1.2 t.2 n p) _=lv (Lx (t::ts)) (g n p) _;unfold lv fu;show _=iv _ (ah (([JM t.1.1,JT (t.1.2:Int)]:B rb)::(Lx ts).map (·.1)) (Dt.int t.2::(Lx ts).map (·.2)) _);rwa[ah];by_cases e:n=t.1.1/\p=t.1.2
  .rw[if_pos e,if_pos (by rw[e.1,e.2])];cases q:ah ((Lx ts).map (·.1)) ((Lx ts).map (·.2)) [JM n,JT (p:Int)]with
   |none=>rfl
   |some d=>rw[e.1,e.2]at q;exact absurd (HG.mpr ⟨_,aA q,rfl⟩) h'.1
  .rw[if_neg e,if_neg (by rwa[OA,OI,TC,and_true];intro w;exact e ⟨w.1.symm,Θ⟩)]
def zN{e:B rb×Dt}(h:(lg.map (·.1)).Nodup)(O:e∈lg):ah (lg.map (·.1)) (lg.map (·.2)) e.1=Z e.2:=by
 induction lg with
 |nil=>cases O
 |cons r lg U=>
  have h':=Jr.mp h;rwa[Hz,ah];rcases IE.mp O with rfl|O
  .rw[if_pos rfl]
  .rw[if_neg λz=>h'.1 (by show r.1∈_;rw[z];exact HG.mpr ⟨e,O,rfl⟩)];exact U h'.2 O
def D5:fW (dp (Lx ts))=ts.map λt=>.t [.str t.1.1,.int t.1.2]:=by simp[fW,dp,Lx,dP,av,IJ]
def oM (w:Nm sh cs ss) (K:Tk x cs ss) (hr:S.res=J) (hx:S.x=x) (o:HA sh N S l g a) (hN:N<=1000) (q:PA x (cs.map (·.1)) N' P a) {bs:B Str} (hb:bs.length<=6) (ht:l.lg=Lx ts) (hp:S.mu=dm a.pl a.dn a.he a.out.length (bs.map λs=>(s,a.b s)) ts) (W:Wm sh (Hk ss) h p S (Z l) g P a.f [z,y] [.dT (dp (lz (Ig cs ss) g)),.dT (dp l.lg)] b) :
  ∃S' b',F81 [.ref h,.ref p,.g (pD cs ss rw),.g (.t (bs.map .str)),.ref z,.ref y] b=Z (.g (.bl C),b')/\Wm sh (Hk ss) h p S' (Z {l with lg:=[]}) a.f P a.f [z] [.dT (dp (lz (Ig cs ss) a.f))] b'/\S'.mu=[]/\S'.x=S.x/\S'.fst=S.fst/\S'.res=J:=by
 obtain⟨H,hH⟩:∃H:Pg,H=⟨a.pl,a.dn,a.he,a.out.length,bs.map λs=>(s,a.b s),ts⟩:=⟨_,rfl⟩;have UM:ts.length<=1000:=by have:=o.ln;rw[ht]at this;simp[Lx]at this;lia
 rw[wO,<- hH]at hp;have hHb:H.b=bs.map λs=>Bx.d (s,a.b s):=by rw[hH];simp[Pg.b]
 have hHt:H.t=ts.map Tn.d:=by rw[hH]
 have Y9:H.bs.length=bs.length/\H.ts.length=ts.length:=by rw[hH];simp
 have htw:∀t∈ts,Vp sh t.1.1 t.1.2/\aU x t.1.1=C:=λt hm=>by have⟨⟨n,i,e,v1,v2⟩,_⟩:=o.lg ([.inr t.1.1,.inl (t.1.2:Int)],.int t.2) (by rw[ht];exact HG.mpr ⟨t,hm,rfl⟩);rwa[OA,OI,TC,and_true]at e;rw[hx]at v2;rw[e.1,show t.1.2=i by lia];exact⟨v1,v2⟩
 have⟨q1,h1⟩:=W.h1;have fc:=W.hp (ds:=[]) (aj _) (wt (sh:=sh) (S:=S) (lo:=Z l) (g:=g));have g0:Op [.ref h,I 0] b=Z (.g (S.pg ξ).d,b):=W.hp (ds:=[.int 0]) (aj _) (iJ (sh:=sh) (S:=S) (lo:=Z l) (g:=g) ξ);have g1:Op [.ref h,I 1] b=Z (.g (S.pg C).d,b):=W.hp (ds:=[.int 1]) (aj _) (iJ (sh:=sh) (S:=S) (lo:=Z l) (g:=g) C)
 -- MU pages
 have W1:=W.new (Kb S);have⟨q2,h2⟩:=W1.h2;have pb:=λn=>W1.pp (ds:=[.str n]) (aj _) (zG (ss:=Hk ss) (tl:=ab (Hk ss) a.f) q n)
 have k1:Jj .v [J,Z 1] (iE (eV 3)) (Hq (.one 0)) IN (Je (G3 (eV 0) (G3 (K4 4 2 VB (eV 1) (G3 (eV 0) He)) He))) [Z (.ref h),Z (.ref p),Z (.g (pD cs ss rw)),Z (.g (.t (bs.map .str))),Z (.ref z),Z (.ref y),Z (I (cI S.c)),Z (.ref b.length),J,J,J,J,J,J,J] (b++[Kb S])=Z (.g (.e H.b),b++[Kb S]):=by
  rw[hHb]
  exact bh (MD:=[J,Z (.ref p)]) (ds:=bs.map .str) rfl rfl (by
   rw[IV]
   exact aM (f:=Dt.str) (g:=λs=>Bx.d (s,a.b s)) λn _=>⟨[Z (.g (.str n)),Z (.ref p)],rfl,rfl,by have e:VB [.ref p,.g (.str n)] (b++[Kb S])=Z (I (a.b n),b++[Kb S]):=pb n;simp[Je,G3,He,eV,K4,Kc,lent,h2,e,CV.old,dats,Ih,Bx.d]⟩) (by rw[HN,Ih];lia)
 -- MU turns
 have hy:=W1.th (k:=1) rfl rfl;have W2:=W1.put (k:=1) rfl (.wT (dp l.lg));have hyw:=W2.th (k:=1) rfl rfl;obtain⟨b2,ST⟩:∃b2,b2=(b++[Kb S]).set y (.wT (dp l.lg)):=⟨_,rfl⟩
 have k2:Jj .v [J,Z 5] (OU (eV 5)) (Hq (.one 0)) IN (Je (G3 (eV 0) (G3 (HR (eV 1) (eV 0)) He))) [Z (.ref h),Z (.ref p),Z (.g (pD cs ss rw)),Z (.g (.t (bs.map .str))),Z (.ref z),Z (.ref y),Z (I (cI S.c)),Z (.ref b.length),Z (.g (.e H.b)),J,J,J,J,J,J] (b++[Kb S])=Z (.g (.e H.t),b2):=by
  rw[hHt]
  have fi:OU (eV 5) [Z (.ref h),Z (.ref p),Z (.g (pD cs ss rw)),Z (.g (.t (bs.map .str))),Z (.ref z),Z (.ref y),Z (I (cI S.c)),Z (.ref b.length),Z (.g (.e H.b)),J,J,J,J,J,J] (b++[Kb S])=Z (ts.map λt=>.t [.str t.1.1,.int t.1.2],b2):=by
   unfold OU;rw[show ∀ D:Sl,D=[Z (.ref h),Z (.ref p),Z (.g (pD cs ss rw)),Z (.g (.t (bs.map .str))),Z (.ref z),Z (.ref y),Z (I (cI S.c)),Z (.ref b.length),Z (.g (.e H.b)),J,J,J,J,J,J]->eV 5 D (b++[Kb S])=Z (.ref y,b++[Kb S])from λD e=>by rw[e];rfl,G8]
   .dsimp only;rw[hy];dsimp only;rw[ht,D5,ST,ht]
   .rfl
  rw[<- ST]at hyw
  have cm:=aM (pt:=.one 0) (ft:=IN) (fe:=Je (G3 (eV 0) (G3 (HR (eV 1) (eV 0)) He))) (D:=[J,Z (.ref y)]) (ch:=b2) (f:=λt:Tn=>.t [.str t.1.1,.int t.1.2]) (g:=Tn.d) (l:=ts) λt hm=>⟨[Z (.g (.t [.str t.1.1,.int t.1.2])),Z (.ref y)],rfl,rfl,by
   have lk:ixV b2 (.ref y) (.t [.str t.1.1,.int t.1.2])=Z (I t.2):=by show(b2[y]?).bind _=_;rw[hyw];show Jy (dp l.lg) _=_;rw[gu];have:=zN (e:=([.inr t.1.1,.inl (t.1.2:Int)],.int t.2)) o.nd (by rw[ht];exact HG.mpr ⟨t,hm,rfl⟩);rw[this];rfl
   exact xRe (tb:=aq gc []) (e:=.tu (.cons (.v 0) (.cons (.ix (.v 1) (.v 0)) .nil))) (.c 0 lk .nil)⟩
  unfold Jj;rw[fi,G8];show((aF _ _ _ [J,Z (.ref y)] _ _).bind _)=_;rw[cm,G8];dsimp only;rw[if_pos (by rw[HN,Ih];lia),dh];rfl
 rw[<- ST]at W2
 -- what home is due
 have hz:=W2.th (k:=0) rfl rfl;have du:=AT (rw:=rw) w K o hx q W2 hz;have W3:=W2.new (.dT (dp (lz (aw cs ss) g)));have⟨q3,h3⟩:=W3.h2;have ps:=W3.pp (ds:=[]) (aj _) (VM (ss:=Hk ss) (S:=P) (tl:=ab (Hk ss) a.f));have pc:=W3.pp (ds:=[]) (aj _) (VN (ss:=Hk ss) (S:=P) (tl:=ab (Hk ss) a.f));have ph:=W3.pp (ds:=[]) (aj _) (DS (ss:=Hk ss) (S:=P) (tl:=ab (Hk ss) a.f));have pe:=W3.pp (ds:=[]) (aj _) (Gm (ss:=Hk ss) (S:=P) (tl:=ab (Hk ss) a.f));rw[q.pl]at ps;rw[q.dn]at pc;rw[q.he]at ph;have ln:HE.g [.e P.out]=Z (.f (.int a.out.length)):=by rw[q.out];show Z (T.f (.int ((a.out.map Dt.int).length:Nat)))=_;rw[HN]
 -- MU loops
 have⟨a13,b4,i1,W4⟩:=wS (rw:=rw) (bx:=.t (bs.map .str)) (S:=S) (H:=H) (A:=b.length) (η:=b2.length) w hr hp nofun (by rw[hp,Kj,gW,Y9.1,Y9.2];simp[bj];lia) (n:=H.bs.length+H.ts.length+1) (k:=0) (a13:=J) Θ W3;rw[Tg]at W4
 have e4:Jq S H (.LU::bj ts) (H.bs.length+H.ts.length+1)={S with mu:=.LU::bj ts,pg:=up S.pg (!S.c) H}:=by show({S with mu:=_,pg:=up S.pg (!S.c) (JA H (H.bs.length+H.ts.length))}:HS)=_;rw[zM,List.drop_eq_nil_of_le (by rw[gW];exact nL _)];rfl
 rw[e4]at W4;obtain⟨U,O⟩:∃U:HS,U={S with mu:=[],pg:=up S.pg (!S.c) H,c:=!S.c}:=⟨_,rfl⟩;have st:=lI (S:={S with mu:=.LU::bj ts,pg:=up S.pg (!S.c) H}) (l:=l) (g:=g) (P:=bj ts) (s:=.LU) w.nd hr rfl nofun (by simp[bj];lia) (.inr trivial);have W5:=W4.new (.t [.ref b.length,I (cI (!S.c)),.ref b2.length]);have⟨b6,c6,W6⟩:=iP (rw:=rw) (kq:=4) (kp:=2) (kw:=3) w W5 (S1:={U with mu:=bj ts}) (lo1:=Z (RJ l (bj ts))) (g1:=g) hr nofun (by rw[O];exact st) rfl (by rw[O];rfl) rfl (by rw[O];rfl) rfl rfl
 have W7:Wm sh (Hk ss) h p {U with mu:=bj ts} (Z (RJ l (bj ts))) g P a.f [z,y,b.length,b2.length] [.dT (dp (lz (Ig cs ss) g)),.wT (dp l.lg),Kb U,.dT (dp (lz (aw cs ss) g))] b6:=by have:=Wm.fst (zs:=[z,y,b.length,b2.length]) (os:=[.dT (dp (lz (Ig cs ss) g)),.wT (dp l.lg),Kb {S with mu:=.LU::bj ts,pg:=up S.pg (!S.c) H},.dT (dp (lz (aw cs ss) g))]) W6 rfl;rw[O]at this ⊢;exact this
 have⟨a9,a14,b8,i2,W8⟩:=wU (rw:=rw) (bx:=.t (bs.map .str)) (S:=U) (H:=H) (ts:=ts) (A:=b.length) (η:=b2.length) w K (by rw[O];exact hr) (by rw[O];show(up S.pg (!S.c) H (!S.c)).dn=_;rw[qc]) Θ (L:=ts) (a9:=J) (a13:=a13) (a14:=J) (nL _) htw W7;have ef:RP g ts=a.f:=by rw[wV (by rw[<- ht];exact o.nd),<- ht];exact o.f
 rw[ef]at W8;have e5:cI (!U.c)=cI S.c:=by rw[O];show cI (!!S.c)=_;rw[Bool.not_not]
 rw[e5]at i2;have hr5:U.res=J:=by rw[O];exact hr
 have W9:=W8.sub (QA:=[z]) (Qm:=[.dT (dp (lz (Ig cs ss) a.f))]) (Zm _ _) rfl λk z o q1 q2=>by
  rcases k with _|k
  .exact⟨0,q1,q2⟩
  .simp at q1
 have Pj:=W8.hp (ds:=[]) (aj _) (dq (S:={U with mu:=[]}) (sh:=sh) (l:={l with lg:=[]}) (g:=a.f) hr5 rfl);have ps5:=W8.pp (ds:=[]) (aj _) (VM (ss:=Hk ss) (S:=P) (tl:=ab (Hk ss) a.f));rw[show({l with lg:=[]}:LS).pl=a.pl from o.pl]at Pj;rw[q.pl]at ps5;have⟨q8,h8⟩:=W8.h1;have⟨q9,h9⟩:=W8.h2;refine⟨{U with mu:=[]},b8,?_,W9,rfl,by rw[O],by rw[O],hr5⟩;have hd:Dt.t H.h=.t [.int a.pl,.int a.dn,.int a.he,.int a.out.length]:=by rw[hH];rfl
 rw[hd]at i1 i2;have rg:(List.range' 0 (H.bs.length+H.ts.length+1)).map (λ(i:Nat)=>Dt.int (0+i))=au 0 (H.bs.length+H.ts.length+1):=by rw[<- List.range_eq_range'];rfl
 rw[rg]at i1;have lb:HE.g [.e H.b]=Z (.f (.int H.bs.length)):=by show Z (T.f (.int ((H.b.length:Nat):Int)))=_;rw[show H.b.length=H.bs.length by simp[Pg.b]]
 have lt:HE.g [.e H.t]=Z (.f (.int H.ts.length)):=by show Z (T.f (.int ((H.t.length:Nat):Int)))=_;rw[show H.t.length=H.ts.length by simp[Pg.t]]
 have fi:iR 1 (G3 (e2 .v Hs.g (e2 .v Hs.g (eK (.int 1)) (eB .v HE.g (G3 (eV 8) He))) (eB .v HE.g (G3 (eV 10) He))) He) (wE h p (pD cs ss rw) (.t (bs.map .str)) z y (cI S.c) b.length (.e H.b) (.e H.t) b2.length (.t [.int a.pl,.int a.dn,.int a.he,.int a.out.length]) J J J) (b2++[.dT (dp (lz (aw cs ss) g))])=Z (au 0 (H.bs.length+H.ts.length+1),b2++[.dT (dp (lz (aw cs ss) g))]):=by
  refine di (j:=H.bs.length+H.ts.length+1) (cw ?_) (by rw[Y9.1,Y9.2];unfold cM;simp;lia);have ad1:Hs.g (.int 1) (.int H.bs.length)=Z (.f (.int (1+H.bs.length))):=by simp[Hs,Jh,c5]
  have ad2:Hs.g (.int (1+H.bs.length)) (.int H.ts.length)=Z (.f (.int ((H.bs.length+H.ts.length+1:Nat):Int))):=by
   have e:((H.bs.length+H.ts.length+1:Nat):Int)=1+H.bs.length+H.ts.length:=by lia
   rw[e];simp[Hs,Jh,c5]
  exact xRe (tb:=aq gc []) (e:=.b2 Hs .v (.b2 Hs .v (.k (.int 1)) (.bn HE .v (.cons (.v 8) .nil))) (.bn HE .v (.cons (.v 10) .nil))) (.t 0 lb (.t 0 ad1 (.t 0 lt (.t 0 ad2 .nil))))
 have j1:=ay (pt:=.one 13) (g:=wB1) fi i1;have j2:=ay (fi:=iE (eV 10)) (pt:=.many [9,14]) (g:=wB2) (ds:=ts.map Tn.d) (D:=wE h p (pD cs ss rw) (.t (bs.map .str)) z y (cI S.c) b.length (.e H.b) (.e H.t) b2.length (.t [.int a.pl,.int a.dn,.int a.he,.int a.out.length]) J a13 J) (ch:=b6) (by rw[<- hHt];rfl) i2;have sc:=wQ (c:=S.c);have n9:=wq (d:=.int a.pl) rfl;generalize Dt.e H.b=DB at k1 k2 j1 j2;generalize Dt.e H.t=DT at k2 j1 j2;generalize CO.dT (dp (lz (aw cs ss) g))=OW at du h3 ps pc ph pe j1;have pgs:CO.e [.g (S.pg ξ).d,.g (S.pg C).d]=Kb S:=rfl;exact xR (.h 0 h1 (.v 0 fc (.h 0 h1 (.v 0 g0 (.h 0 h1 (.v 0 g1 (.v 0 k1 (.v 0 k2 (.v 0 du (.h 0 h3 (.v 0 ps (.h 0 h3 (.v 0 pc (.h 0 h3 (.v 0 ph (.h 0 h3 (.v 0 pe (.t 0 ln (.o 0 j1 (.t 0 sc (.v 0 c6 (.o 0 j2 (.h 0 h8 (.v 0 Pj (.h 0 h9 (.v 0 ps5 (.t 0 n9 .nil)))))))))))))))))))))))))))
end
abbrev RQ(s0 s1 s4:ζ CV)(nm pg kd:Dt)(h p z y:Nat)(a10:ζ CV):Sl:=[s0,s1,Z (.g nm),Z (.g pg),s4,Z (.g kd),Z (.ref h),Z (.ref p),Z (.ref z),Z (.ref y),a10]
abbrev S5:Fs:=HL (aq gc Vu) (K9 0 YR.b)
def kept(x:Fx)(i:Nat):Bool:=(ah x.kk x.kv (.inl (i:Int))).isSome
structure Kn(x:Fx)(R:List Rw)(sh:Sh)(nm:List Str)(cs ss:List Hd):Prop where
 X:XR x R sh nm
 Q:XQ x R (cs.map (·.1)) (Hk ss)
 w:Nm sh cs ss
 K:Tk x cs ss
 fn:∀(i:Nat) q,R[i]?=Z (.fin q)->kept x i=C
structure Go(x:Fx)(R:List Rw)(sh:Sh)(cs ss:List Hd)(h p z y N:Nat)(S:HS)(l:LS)(g:Vf)(P:PN)(a:AM)(b:CH):Prop where
 o:HA sh N S l g a
 w:HW x S
 pl:S.mu=[]
 q:PA x (cs.map (·.1)) (N+300) P a
 rs:P.res=.ek
 lt:a.pl<R.length
 kp:kept x a.pl=C->l.lg=[]
 W:Wm sh (Hk ss) h p S (Z l) g P a.f [z,y] [.dT (dp (lz (Ig cs ss) g)),.dT (dp l.lg)] b
section
variable{x:Fx}{R:B Rw}{sh:Sh}{nm ns:B Str}{cs ss:B Hd}{N:Nat}{S:HS}{l:LS}{g:Vf}{a:AM}{P:PN}{h p z y:Nat}{b:CH}{s0 s1 s4 a10:ζ CV}
def HA.cl(o:HA sh N S l g a)(O:S'.x=S.x)(e2:S'.fst=S.fst):HA sh N S' {l with lg:=[]} a.f a:=⟨o.pl,o.dn,o.he,o.h0,o.sy,o.du,o.bx,o.bi,o.bn,Ξ,Ξ,Ξ,rfl,o.fN,by rw[e2];exact o.ft,o.on⟩
def wW{i:Nat}{b c d:Int}:dm i b c d ks ts≠[]:=by simp[dm]
def zO (k:Kn x R sh nm cs ss) (hl:ns.length<=100) (G:Go x R sh cs ss h p z y N S l g P a b) (hN:N<900) :
  (∃b',S5 (RQ s0 s1 s4 (.e (ns.map .str)) (pD cs ss (.t (R.map Rw.d))) (.HC x.kk x.kv) h p z y a10) b=Z (.rt (.g (.bl C)) b'))\/
  (∃y' S' l' g' P' a' b',S5 (RQ s0 s1 s4 (.e (ns.map .str)) (pD cs ss (.t (R.map Rw.d))) (.HC x.kk x.kv) h p z y a10) b=Z (.nx (RQ s0 s1 s4 (.e (ns.map .str)) (pD cs ss (.t (R.map Rw.d))) (.HC x.kk x.kv) h p z y' a10) b')/\Go x R sh cs ss h p z y' (N+1) S' l' g' P' a' b'):=by
 obtain⟨r,hR⟩:∃r,R[a.pl]?=Z r:=⟨_,gQ G.lt⟩;have ak:=wM (rw:=.t (R.map Rw.d)) k.w k.K hl G.w.rs G.pl G.o G.w.hx G.q G.W (G.W.th (k:=0) rfl rfl);have W1:=Wm.fst (zs:=[z,y]) (os:=[.dT (dp (lz (Ig cs ss) g)),.dT (dp l.lg)]) (G.W.new (.dT (dp (lz (aw cs ss) g)))) rfl;have hll:l.lg.length<G6:=by rw[Ih];have:=G.o.ln;lia
 have nt:=wN k.X k.w k.K G.q W1 hR hll (W1.th (k:=0) rfl rfl) (W1.th (k:=1) rfl rfl);have W2:=W1.put (k:=1) rfl (.dT (dp (PQ x a r l.lg)));have⟨q1,h1⟩:=W2.h1;have⟨k1,k2⟩:=DO k.X Θ G.w G.o G.pl hR;have⟨m1,m2⟩:=Gk k.Q G.q Θ G.rs hR;obtain⟨b1,Xp⟩:∃b1,b1=b++[CO.dT (dp (lz (aw cs ss) g))]:=⟨_,rfl⟩;rw[<- Xp]at ak nt W2 h1;obtain⟨b2,ST⟩:∃b2,b2=b1.set y (.dT (dp (PQ x a r l.lg))):=⟨_,rfl⟩;rw[<- ST]at nt W2 h1;by_cases Pn:∃q,r=.fin q
 .left;have⟨q,rfl⟩:=Pn;have⟨S',Jg,g',b3,⟨rfl,rfl,rfl⟩,c3,W3⟩:=W2.MY (ds:=[]) (aj _) (To.here (Jg:=Z {l with dn:=l.dn+1}) (Q:=λS' Jg g'=>S'={S with res:=Z (wv a.b q)}/\Jg=Z {l with dn:=l.dn+1}/\g=g') (k1 q rfl) (nL _) ⟨rfl,rfl,rfl⟩);have⟨q3,h3⟩:=W3.h2;have⟨b4,c4,U⟩:=W3.plain (aj _) (m1 q rfl);have⟨q4,h4⟩:=U.h2;have⟨q5,h5⟩:=U.h1;have en:=U.pp (ds:=[]) (aj _) (wD (i:=wv a.b q) rfl);have rs:=U.hp (ds:=[]) (aj _) (DN (S:={S with res:=Z (wv a.b q)}) (v:=wv a.b q) rfl);have hm:=wL (rw:=.t (R.map Rw.d)) k.w U;have ef:g=a.f:=by rw[<- G.o.f,G.kp (k.fn _ _ hR)];rfl
  have q':PA x (cs.map (·.1)) (N+300) {P with dn:=P.dn+1,res:=.int (wv a.b q)} {a with dn:=a.dn+1}:=⟨G.q.hx,G.q.out,G.q.on,G.q.bx,G.q.bi,G.q.bn,G.q.ce,G.q.cl,G.q.pl,G.q.he,G.q.h0,by show P.dn+1=_;rw[G.q.dn],G.q.fn⟩
  have hq:F77 [.ref p,.g (pD cs ss (.t (R.map Rw.d)))] b4=Z (.g (Nv cs ss g),b4):=by have⟨M,Y,A1,A2,d,p1,p2,nd,hl,th,e1,Lz⟩:=U;have:=DU (rw:=.t (R.map Rw.d)) k.w k.K.nq q' A2;rw[Lz]at this;rw[ef];exact this
  have eT:=iO (cs:=cs) (ss:=ss) (g:=g);generalize Nv cs ss g=δ at hm hq eT;exact⟨b4,K6 (.v 0 ak (.v 0 nt (.h 0 h1 (.v 0 c3 (.h 0 h3 (.v 0 c4 (.h 0 h4 (.v 0 en (.h 0 h5 (.v 0 rs (.v 0 hm (.v 0 hq (.t 0 eT .nil)))))))))))))⟩
 .right;have RK:∀q,r≠.fin q:=λq e=>Pn ⟨q,e⟩
  have⟨j,hj,Y5,t⟩:=k2 RK;have⟨S3,lo3,g3,b3,⟨l3,rfl,o3,w3,e1,Lz,lg3,Y8,O⟩,c3,W3⟩:=W2.MY (ds:=[]) (aj _) t;have⟨q3,h3⟩:=W3.h2;have⟨P4,c4',pa4,rs4⟩:=m2 RK j hj;have⟨b4,c4,U⟩:=W3.plain (aj _) c4';have⟨q4,h4⟩:=U.h2;have⟨q5,h5⟩:=U.h1;have en:=U.pp (ds:=[]) (aj _) (m4 rs4);have ps:=U.pp (ds:=[]) (aj _) (VM (ss:=Hk ss) (S:=P4) (tl:=ab (Hk ss) (O4 x a r).f));obtain⟨a4,ha4⟩:∃a4,a4=O4 x a r:=⟨_,rfl⟩;have pl4:a4.pl=j:=by rw[ha4];show(MH a r).toNat=_;rw[hj];exact Ow j
  rw[<- ha4]at o3 pa4 U O;rw[pa4.pl]at ps;have hT:lz (Ig cs ss) g=lz (Ig cs ss) g3:=M3 λq hq=>by rw[Y8 q.1 q.2 ((k.K.tk q.1 q.2 (k.K.ts q hq)).mp hq)]
  have W5:Wm sh (Hk ss) h p S3 (Z l3) g3 P4 a4.f [z,y] [.dT (dp (lz (Ig cs ss) g3)),.dT (dp l3.lg)] b4:=by rw[<- hT,lg3];exact U
  have pre:=λ{g':B An}{L':B Prop}(z:Oa g' L')=>Oa.v 0 ak (.v 0 nt (.h 0 h1 (.v 0 c3 (.h 0 h3 (.v 0 c4 (.h 0 h4 (.v 0 en z)))))))
  have pa5:PA x (cs.map (·.1)) (N+1+300) P4 a4:=by rw[show N+1+300=N+300+1 by lia];exact pa4
  unfold Pln at O;cases q:ah x.kk x.kv (.inl (a4.pl:Int))with
  |none=>
   rw[q]at O;have st:=W5.hp (ds:=[]) (aj _) (dq (S:=S3) (sh:=sh) (l:=l3) (g:=g3) w3.rs O);have Np:Lu.g (.int a4.pl) (.HC x.kk x.kv)=Z (.f (.bl ξ)):=by simp[Lu,Jh,OQ,Ri,mK,bG,ci,q]
   refine⟨y,S3,l3,g3,P4,a4,b4,?_,o3,w3,O,pa5,rs4,by rw[pl4];exact Y5,(λe=>by unfold kept at e;rw[q]at e;cases e),W5⟩;exact K6 (pre (.h 0 h5 (.v 0 st (.h 0 h4 (.v 0 ps (.t 0 Np (.h 0 h4 (.v 0 ps (.t 0 Np .nil)))))))))
  |some d=>
   rw[q]at O;have⟨bs,ts,rfl,h6,tl,hp⟩:=O;have Nh:S3.mu≠[]:=by rw[hp];exact wW
   have st:=W5.hp (ds:=[]) (aj _) (iK (S:=S3) (sh:=sh) (lo:=Z l3) (g:=g3) w3.rs Nh);have Np:Lu.g (.int a4.pl) (.HC x.kk x.kv)=Z (.f (.bl C)):=by simp[Lu,Jh,OQ,Ri,mK,bG,ci,q]
   have hix:ixV b4 (.g (.HC x.kk x.kv)) (.int a4.pl)=Z (.g (.t (bs.map .str))):=by show(Iw _ _).map CV.g=_;simp[Iw,bG,ci,q]
   have⟨S6,b6,c6,W6,p6,x6,f6,r6⟩:=oM (rw:=.t (R.map Rw.d)) k.w k.K w3.rs w3.hx o3 Θ pa5 h6 tl hp W5;have W7:Wm sh (Hk ss) h p S6 (Z {l3 with lg:=[]}) a4.f P4 a4.f [z,b6.length] [.dT (dp (lz (Ig cs ss) a4.f)),.dT (dp ({l3 with lg:=[]}:LS).lg)] (b6++[.dT []]):=W6.new (.dT []);refine⟨b6.length,S6,{l3 with lg:=[]},a4.f,P4,a4,b6++[.dT []],?_,o3.cl x6 f6,⟨by rw[x6];exact w3.hx,r6⟩,p6,pa5,rs4,by rw[pl4];exact Y5,λ_=>rfl,W7⟩;exact K6 (pre (.h 0 h5 (.v 0 st (.h 0 h4 (.v 0 ps (.t 0 Np (.h 0 h4 (.v 0 ps (.t 0 Np (.h 0 h4 (.v 0 ps (.c 0 hix (.v 0 c6 .nil)))))))))))))
theorem qo (k:Kn x R sh nm cs ss) (hl:ns.length<=100):∀ {ds:B Dt} {N y:Nat} {S:HS} {l:LS} {g:Vf} {P:PN} {a:AM} {b:CH} {a10:ζ CV},Go x R sh cs ss h p z y N S l g P a b->N+ds.length<900→
  (∃b',bJ (Hq (.one 10)) S5 ds (RQ s0 s1 s4 (.e (ns.map .str)) (pD cs ss (.t (R.map Rw.d))) (.HC x.kk x.kv) h p z y a10) b=Z (.rt (.g (.bl C)) b'))\/
  (∃ Hi b',bJ (Hq (.one 10)) S5 ds (RQ s0 s1 s4 (.e (ns.map .str)) (pD cs ss (.t (R.map Rw.d))) (.HC x.kk x.kv) h p z y a10) b=Z (.nx Hi b'))
 |[],N,y,S,l,g,P,a,b,a10,G,_=>.inr ⟨_,b,rfl⟩
 |d::ds,N,y,S,l,g,P,a,b,a10,G,U=>by
  rwa[JK]at U;rcases zO (s0:=s0) (s1:=s1) (s4:=s4) (ns:=ns) (a10:=Z (.g d)) k hl G Θ with ⟨b',e⟩|⟨y',S',W,g',P',a',b',e,O⟩
  .exact .inl ⟨b',Dv (Hi:=RQ s0 s1 s4 (.e (ns.map .str)) (pD cs ss (.t (R.map Rw.d))) (.HC x.kk x.kv) h p z y (Z (.g d))) rfl e⟩
  .rw[aY (Hi:=RQ s0 s1 s4 (.e (ns.map .str)) (pD cs ss (.t (R.map Rw.d))) (.HC x.kk x.kv) h p z y (Z (.g d))) rfl e];exact qo k hl O Θ
end
variable{xs:B Str}
section
variable{ch:CH}
def sI{n:Nat}:(au 0 n).length=n:=by simp[au]
def aH{n:Nat}(h:n<1100):cM (n:Int)=C:=by unfold cM;simp;lia
def fw{α:Type}{f:α->Dt}{l:B α}{k:Nat}(h:k<l.length):Iw (.e (l.map f)) (.int k)=Z (f l[k]):=(gU (by rw[HZ,gQ h];rfl)).1
def dD(ns:B Int)(k:Nat):∃v:Int,F1 [.g (.e (ns.map .int)),I k] ch=Z (I v,ch):=by
 have hl:HE.g [.e (ns.map .int)]=Z (.f (.int ns.length)):=by simp[HE,ic]
 by_cases h:k<ns.length
 .have O:ixV ch (.g (.e (ns.map .int))) (.int k)=Z (I ns[k]):=by show(Iw _ _).map CV.g=_;rw[fw (f:=Dt.int) h];rfl
  exact⟨ns[k],xR (.t 0 hl (.t 0 (Me (decide_eq_true (show(k:Int)<(ns.length:Int)by lia))) (.c 0 O .nil)))⟩
 .exact⟨0,xR (.t 0 hl (.t 0 (Me (decide_eq_false (show ¬ (k:Int)<(ns.length:Int)by lia))) .nil))⟩
def VQ(v:Int):Prop:=0<=v/\v<2147483629
theorem jY{c m:CV}:∀{ds l:B Int}{n:Int}{a4:ζ CV},(∀d∈ds,0<=d)->0<=n->n<2147553251->(∀v∈l,VQ v)->l.length+ds.length<=1000->∃(W:B Int)(n':Int)(U:ζ CV),bJ (Hq (.one 4)) (i9 (ja 3 (e2 .v HU.g (e2 .v Hs.g (e2 .v Hs.g (e2 .v HY.g (eV 3) (eV 3)) (e2 .v HY.g (eK (.int 16807)) (eV 3))) (eV 4)) (eK (.int 2147483629)))) (i9 (Py 2 (eV 3)) mr)) (ds.map .int) [Z c,Z m,Z (.own C (.e (l.map .int))),Z (I n),a4] ch=Z (.nx [Z c,Z m,Z (.own C (.e (W.map .int))),Z (I n'),U] ch)/\W.length=l.length+ds.length/\∀v∈W,VQ v
 |[],l,n,a4,_,_,_,hl,_=>⟨l,n,a4,rfl,rfl,hl⟩
 |d::ds,l,n,a4,hd,h0,h1,hl,hz=>by
  rwa[JK]at hz;have m1:cL n n=C:=eN Θ Θ;have m2:cL 16807 n=C:=eN Θ Θ;have b0:=M1 (n*n+16807*n+d) (show(2147483629:Int)≠0 by decide);have b1:=O8 (n*n+16807*n+d) (show(0:Int)<2147483629 by decide);obtain⟨v,hv⟩:∃v,v=(n*n+16807*n+d)%2147483629:=⟨_,rfl⟩;rw[<- hv]at b0 b1;have⟨W,n',U,e1,Lz,e3⟩:=jY (c:=c) (m:=m) (ds:=ds) (l:=l++[v]) (n:=v) (a4:=Z (I d)) (λx O=>hd x (.tail _ O)) b0 Θ (λx O=>by rcases JC.mp O with O|O;exact hl x O;simp at O;subst O;exact⟨b0,b1⟩) (by simp;lia);refine⟨W,n',U,?_,by rw[Lz];simp;lia,e3⟩;have hll:l.length<16777216:=by lia
  refine M0 (aY (Hi:=[Z c,Z m,Z (.own C (.e (l.map .int))),Z (I n),Z (I d)]) (Oe:=[Z c,Z m,Z (.own C (.e ((l++[v]).map .int))),Z (I v),Z (I d)]) (ch1:=ch) rfl ?_) e1;simp! only[Py];simp! [HY,ia,m1,m2,HU,eO,<- hv,cN,US,hll]
def Gr{l:B Int}:Ng (.e (l.map .int)) (Z 1) J=Z (.e ((l.drop 1).map .int)):=by
 show Z (T.e (nO (l.map .int) (Z 1) J))=_;unfold nO;cases l with
 |nil=>rfl
 |cons a l=>
  have h1:HT.Jx ((a::l).map Dt.int).length 0 (Z 1)=1:=by simp[HT.Jx]
  have h2:HT.Jx ((a::l).map Dt.int).length ((a::l).map Dt.int).length J=(a::l).length:=by simp[HT.Jx]
  rw[h1,h2];simp;rw[V1 Ξ]
def dE(c:Int)(m:Nat)(hm:m<=100):∃vs:B Int,F2 [I c,I m] ch=Z (.g (.e (vs.map .int)),ch)/\vs.length=m/\∀v∈vs,VQ v:=by
 have b0:=M1 c (show(2147483629:Int)≠0 by decide);have b1:=O8 c (show(0:Int)<2147483629 by decide);have W:au 0 (m+1)=((Ir (m+1)).map λi:Nat=>(i:Int)).map .int:=by unfold au;rw[IV];apply M3;intro i _;simp
 have⟨l,n,a4,U,O,e3⟩:=jY (ch:=ch) (c:=I c) (m:=I m) (ds:=(Ir (m+1)).map λi:Nat=>(i:Int)) (l:=[]) (n:=c%2147483629+69621) (a4:=J) Ξ Θ Θ Ξ (by simp;lia);rw[<- W]at U;refine⟨l.drop 1,?_,by rw[List.length_drop,O];simp,λv hv=>e3 v (List.mem_of_mem_drop hv)⟩;rw[q2];refine f7 (bc (Hi:=[Z (I c),Z (I m),Z (.own C (.e [])),J,J]) (ch1:=ch) rfl (bc (Hi:=[Z (I c),Z (I m),Z (.own C (.e [])),Z (I (c%2147483629+69621)),J]) (ch1:=ch) ?_ (bc (ay (ds:=au 0 (m+1)) (di (j:=m+1) ?_ (aH Θ)) U) (jT (jS (c:=.g (.e ((l.drop 1).map .int))) (ch1:=ch) ?_ rfl)))))
 .simp! only[];simp! [HU,eO]
 .simp! only[];simp! []
 .have:=Gr (l:=l);rwa[KN,L8,eV,eK,lent,G8,KU,R0,cj,Iy,vw,T.d,this,fin]
def iS(n:Int):∃v,Vi (.int v)/\F3 [I n] ch=Z (I v,ch):=by
 have O:PD.g (.int 2) (.int 40)=Z (.f (.int 1099511627776)):=by simp[PD,yo,o6]
 have W:HY.g (.int (n/3)) (.int 1664525)=Z (.f (.int (n/3*1664525))):=by simp[HY,Jh,ia,gG (i:=n/3) (j:=1664525) Θ Θ]
 by_cases h0:n%3=0
 .exact⟨n/3%4,⟨_,rfl,Θ,Θ⟩,xR (.t 1 (Mb (decide_eq_true h0)) .nil)⟩
 .have U:=Mb (decide_eq_false h0);by_cases h1:n%3=1
  .exact⟨1099511627776-1-n/3%4,⟨_,rfl,Θ,Θ⟩,xR (.t 1 U (.t 1 (Mb (decide_eq_true h1)) (.t 0 O .nil)))⟩
  .exact⟨n/3*1664525%1099511627776,⟨_,rfl,Θ,Θ⟩,xR (.t 1 U (.t 1 (Mb (decide_eq_false h1)) (.t 1 W (.t 0 O .nil))))⟩
def lW(n:Int)(hx:xs≠[]):∃a,bK a/\F5 [I n,.g (.e (xs.map .str))] ch=Z (.g (av a),ch):=by
 by_cases h0:n%3=0
 .have⟨v,W,h1⟩:=iS (ch:=ch) (n/3);exact⟨.inl v,.inl W,xR (.t 1 (Mb (decide_eq_true h0)) (.v 0 h1 .nil))⟩
 .have hp:(0:Int)<xs.length:=by have:=List.length_pos_iff.mpr hx;lia
  have b0:=M1 (n/3) (show(xs.length:Int)≠0 by lia);have b1:=O8 (n/3) hp;have⟨k,hk⟩:=QC b0;have O:k<xs.length:=by lia
  have hl:HE.g [.e (xs.map .str)]=Z (.f (.int xs.length)):=by simp[HE,ic]
  have U:ixV ch (.g (.e (xs.map .str))) (.int (n/3%(xs.length:Int)))=Z (.g (.str xs[k])):=by show(Iw _ _).map CV.g=_;rw[hk,fw (f:=Dt.str) O];rfl
  exact⟨.inr xs[k],.inr ⟨_,rfl⟩,xR (.t 1 (Mb (decide_eq_false h0)) (.t 1 hl (.t 0 (KC (v:=n/3) rfl hp) (.c 0 U .nil))))⟩
end
noncomputable def KD:Nat->B (Str×B Dt)->CH
 |_,[]=>[]
 |n,p::r=>.e (p.2.map .g)::.t [.g (.str p.1),.ref n]::KD (n+2) r
noncomputable def Ix:Nat->B (Str×B Dt)->B (rb×CV)
 |_,[]=>[]
 |n,p::r=>(.inr p.1,.ref n)::Ix (n+2) r
noncomputable def JP:Nat->Nat->B CV
 |_,0=>[]
 |n,k+1=>.ref n::JP (n+2) k
section
variable{fe:Fg}{α:Type}{f:α->Dt}{nm:α->Str}{vl:α->B Dt}
theorem m6:∀(l:B α)(O:∀a∈l,∀ch,fe [Z (.g (f a))] ch=Z (.ref (ch.length+1),ch++[.e ((vl a).map .g),.t [.g (.str (nm a)),.ref ch.length]])) (ch:CH),aF (Hq (.one 0)) IN fe [J] (l.map f) ch=Z (JP (ch.length+1) l.length,ch++KD ch.length (l.map λa=>(nm a,vl a)))
 |[],_,ch=>by simp[aF,JP,KD]
 |a::l,O,ch=>by have U:=m6 l (λb hb=>O b (.tail _ hb)) (ch++[.e ((vl a).map .g),.t [.g (.str (nm a)),.ref ch.length]]);have hb:Hq (.one 0) (f a) [J]=Z [Z (.g (f a))]:=rfl;rwa[Hz,aF,hb,G8,IN,if_true,O a (.head _),CV.sol,U,Iy];simp[JP,KD]
theorem aG:∀{ps:B (Str×B Dt)}{n:Nat},(KD n ps).length=2*ps.length
 |[],_=>rfl
 |p::r,n=>by simp[KD,aG (ps:=r)];lia
theorem iT:∀{ps:B (Str×B Dt)}{n k:Nat}{p:Str×B Dt},ps[k]?=Z p->(KD n ps)[2*k]?=Z (.e (p.2.map .g))/\(KD n ps)[2*k+1]?=Z (.t [.g (.str p.1),.ref (n+2*k)])
 |[],_,_,_,h=>by simp at h
 |q::r,n,0,p,h=>by cases h;exact⟨rfl,rfl⟩
 |q::r,n,k+1,p,h=>by have:=iT (n:=n+2) (k:=k) (ps:=r) (p:=p) ‹h›;rw[show n+2+2*k=n+2*(k+1)by lia]at this;exact this
theorem jZ{H:CH}:∀{ps:B (Str×B Dt)}{n:Nat},(∀k p,ps[k]?=Z p->H[n+2*k+1]?=Z (.t [.g (.str p.1),.ref (n+2*k)]))->aP H (JP (n+1) ps.length)=Z (Ix n ps)
 |[],_,_=>rfl
 |p::r,n,h=>by
  have h0:=h 0 p rfl
  have O:=jZ (ps:=r) (n:=n+2) λk q U=>by have:=h (k+1) q ‹U›;rw[show n+2*(k+1)=n+2+2*k by lia]at this;exact this
  rwa[JK,JP,aP,cu];rw[show n+1+2=n+2+1 by lia,O];rwa[Nat.mul_zero,Zw]at h0;simp[h0,ci,Ix]
theorem gY:∀{ps:B (Str×B Dt)}{n:Nat},(Ix n ps).map (·.1)=ps.map λp=>.inr p.1
 |[],_=>rfl
 |p::r,n=>by simp[Ix,gY (ps:=r)]
theorem lY:∀{ps:B (Str×B Dt)}{n:Nat},(Ix n ps).length=ps.length
 |[],_=>rfl
 |p::r,n=>by simp[Ix,lY (ps:=r)]
theorem qp:∀{ps:B (Str×B Dt)}{n:Nat},((Ix n ps).map (·.2)).all CV.sol=C
 |[],_=>rfl
 |p::r,n=>by rwa[Ix,Hz,Ks,CV.sol,V0];exact qp
theorem qr:∀{k n:Nat},(JP n k).all CV.sol=C
 |0,_=>rfl
 |k+1,n=>by rwa[JP,Ks,CV.sol,V0];exact qr
theorem qt:∀{k n:Nat},(JP n k).length=k
 |0,_=>rfl
 |k+1,n=>by simp[JP,qt (k:=k)]
theorem m7{l:B α}(hfe:∀a∈l,∀ch,fe [Z (.g (f a))] ch=Z (.ref (ch.length+1),ch++[.e ((vl a).map .g),.t [.g (.str (nm a)),.ref ch.length]]))(hi:fi D ch=Z (l.map f,ch))(hg:gC src D=[J])(hl:l≠[])(hz:l.length<=G6)(hn:(l.map nm).Nodup):L9 .o (Jj .v src fi (Hq (.one 0)) IN fe) D ch=Z (.ref (ch.length+2*l.length+1),ch++KD ch.length (l.map λa=>(nm a,vl a))++[.e (JP (ch.length+1) l.length)]++[.dK (Ix ch.length (l.map λa=>(nm a,vl a)))]):=by
 obtain⟨a,l',rfl⟩:∃a l',l=a::l':=by cases l with|nil=>exact absurd rfl hl|cons a l'=>exact⟨a,l',rfl⟩
 generalize hL:a::l'=l at*
 have O:Jj .v src fi (Hq (.one 0)) IN fe D ch=Z (.ref (ch.length+2*l.length),ch++KD ch.length (l.map λa=>(nm a,vl a))++[.e (JP (ch.length+1) l.length)]):=by
  unfold Jj;rw[hi,G8,hg];dsimp only;rw[m6 _ hfe,G8];dsimp only;rw[if_pos (by rw[qt];exact hz)];unfold finL;have hd:dats (JP (ch.length+1) l.length)=J:=by rw[<- hL];rfl
  rw[hd];dsimp only;rw[if_pos qr];simp[aG]
 generalize hH:ch++KD ch.length (l.map λa=>(nm a,vl a))++[.e (JP (ch.length+1) l.length)]=H at O ⊢;have W:H.length=ch.length+2*l.length+1:=by rw[<- hH];simp[aG];lia
 have hp:aP H (JP (ch.length+1) l.length)=Z (Ix ch.length (l.map λa=>(nm a,vl a))):=by
  have:=jZ (H:=H) (ps:=l.map λa=>(nm a,vl a)) (n:=ch.length) λk p hk=>by have hb:=(iT (n:=ch.length) hk).2;rw[<- hH,NM,gR Θ,show ch.length+2*k+1-ch.length=2*k+1 by lia,gL (af hb)];exact hb
  rw[HN]at this;exact this
 have hs:mH H (.ref (ch.length+2*l.length))=Z (JP (ch.length+1) l.length):=by
  have:H[ch.length+2*l.length]?=Z (.e (JP (ch.length+1) l.length)):=by rw[<- hH,P0 (by simp[aG])];simp[aG]
  rwa[mH,this]
 unfold L9;rw[O,G8];dsimp only;rw[hs,G8,hp,G8]
 have U:((Ix ch.length (l.map λa=>(nm a,vl a))).map (·.1)).Nodup:=by
  rw[gY,IV];have e:(l.map ((λp:Str×B Dt=>(JM p.1:rb)) ∘ λa=>(nm a,vl a)))=(l.map nm).map JM:=by simp
  rw[e];exact Pc _ (λa b h q=>h (TD q)) hn
 rw[if_pos U];unfold kZ;have hd2:dats ((Ix ch.length (l.map λa=>(nm a,vl a))).map (·.2))=J:=by rw[<- hL];rfl
 rw[hd2];dsimp only;rw[if_pos qp,W]
end
def O6(cs:B Hd):CH:=cs.map λh=>dl [.int h.2.1]
def MZ(ss:B Hd):CH:=ss.map λh=>dl (I0 h.2.1.toNat (.int 0))
abbrev cP(cs:B Hd):B (Str×B Dt):=cs.map λh=>(h.1,[.int h.2.1])
abbrev sP(ss:B Hd):B (Str×B Dt):=ss.map λh=>(h.1,I0 h.2.1.toNat (.int 0))
theorem fC{Y:Nat->Nat}{vl:Hd->B Dt}{sz:Hd->Nat}:∀{hs:B Hd}{n o:Nat},(∀k,k<hs.length->Y (k+o)=n+2*k)->IP Y (ai o (hs.map λh=>(h.1,sz h)))=Ix n (hs.map λh=>(h.1,vl h))
 |[],_,_,_=>rfl
 |h::hs,n,o,U=>by
  have h0:=U 0 Ξ;have O:=fC (Y:=Y) (vl:=vl) (sz:=sz) (hs:=hs) (n:=n+2) (o:=o+1) λk hl=>by have:=U (k+1) ‹hl›;rw[show k+(o+1)=k+1+o by lia,this];lia
  rwa[Tg,Nat.mul_zero,Zw]at h0;rwa[IP,Hz,ai,Ix,rn,h0]at O ⊢;rw[O]
theorem j0:∀{a b:Sh}{o:Nat},ai o (a++b)=ai o a++ai (o+a.length) b
 |[],b,o=>by simp[ai]
 |p::a,b,o=>by have:=j0 (a:=a) (b:=b) (o:=o+1);rwa[List.cons_append,ai,this,JK];rw[show o+1+a.length=o+(a.length+1)by lia]
def wX{n:Nat}{d:Dt}:(I0 n [d]).flatten=I0 n d:=by
 induction n with
 |zero=>rfl
 |succ n O=>rw[O9,QF,O,O9];rfl
section
variable{cs ss l:B Hd}{R:B Rw}{bg:B Str}{ch:CH}{D:Sl}{X:CO}{T:CH}{a b c d:CV}
abbrev JI(cs ss:B Hd)(R:B Rw):Dt:=.t [.t (cs.map Hd.d),.t (ss.map Hd.d),.t (R.map Rw.d)]
abbrev h0:Fg:=HR (eV 0) (eK (.int 0))
abbrev h1:Fg:=HR (eV 0) (eK (.int 1))
abbrev shD:Fg:=L9 .o (Jj .v [J] (iE (HR (eV 1) (eK (.int 1)))) (Hq (.one 0)) IN (Je (G3 h0 (G3 (e2 .o HY.g (Mz .v (G3 (eK (.int 0)) He)) h1) He))))
theorem wY(hi:iE (HR (eV 1) (eK (.int 1))) D ch=Z (ss.map Hd.d,ch))(O:ss≠[])(hz:ss.length<=100)(U:(ss.map (·.1)).Nodup)(hs:∀h∈ss,0<=h.2.1/\h.2.1<=1000):shD D ch=Z (.ref (ch.length+2*ss.length+1),ch++KD ch.length (sP ss)++[.e (JP (ch.length+1) ss.length)]++[.dK (Ix ch.length (sP ss))]):=m7 (f:=Hd.d) (nm:=(·.1)) (vl:=λh:Hd=>I0 h.2.1.toNat (.int 0)) (λh W ch=>by have⟨h1,h2⟩:=hs h W;simp! only[Hd.d];simp! [HY,ia,pJ,h1,h2,wX]) hi rfl O (by rw[Ih];lia) U
abbrev Mg(cs ss:B Hd)(R:B Rw)(bg:B Str):Sl:=[Z (.ref 1),Z (.g (JI cs ss R)),Z (.g (.t (bg.map .str)))]
abbrev bA(cs:B Hd):CH:=KD 2 (cP cs)++[.e (JP 3 cs.length)]
abbrev mB(cs:B Hd):Nat:=2*cs.length+4
abbrev bT(cs ss:B Hd):CH:=bA cs++.dK (Ix 2 (cP cs)++Ix (mB cs) (sP ss))::(KD (mB cs) (sP ss)++[.e (JP (mB cs+1) ss.length),.dK (Ix (mB cs) (sP ss))])
theorem zP(O:cs≠[])(hz:cs.length<=100)(U:(cs.map (·.1)).Nodup):L9 .o (Jj .v [J] (iE (HR (eV 1) (eK (.int 0)))) (Hq (.one 0)) IN (Je (G3 h0 (G3 (Mz .o (G3 h1 He)) He)))) (Mg cs ss R bg) [X,.ins 2 []]=Z (.ref (2+2*cs.length+1),X::.ins 2 []::(bA cs++[.dK (Ix 2 (cP cs))])):=m7 (f:=Hd.d) (nm:=(·.1)) (vl:=λh:Hd=>[.int h.2.1]) (ch:=[X,.ins 2 []]) (λh _ ch=>by simp! only[Hd.d];simp! []) rfl rfl O (by rw[Ih];lia) U
def wZ{l:CH}{r:B (rb×CV)}{n:Nat}(h:n=l.length):iu (l++.dK r::T) n=Z r:=by subst h;simp[iu]
def D6{l:CH}{o:CO}{n:Nat}(h:n=l.length):(l++o::T).set n o'=l++o'::T:=by subst h;simp
def zQ(O:ss≠[])(hz:cs.length+ss.length<=100)(W:((cs++ss).map (·.1)).Nodup)(hs:∀h∈ss,0<=h.2.1/\h.2.1<=1000):SL (L6 2 0 (eV 0)) shD (Mg cs ss R bg) (X::.ins 2 [.ref (2+2*cs.length+1)]::(bA cs++[.dK (Ix 2 (cP cs))]))=Z (.nx (Mg cs ss R bg) (X::.ins 2 [.ref (2+2*cs.length+1)]::bT cs ss)):=by
 obtain⟨σ,hY⟩:∃σ:CO,σ=.ins 2 [.ref (2+2*cs.length+1)]:=⟨_,rfl⟩;have lA:(X::σ::bA cs).length=2+2*cs.length+1:=by simp[aG];lia
 have hd:=wY (D:=Mg cs ss R bg) (ch:=X::σ::(bA cs++[.dK (Ix 2 (cP cs))])) rfl O Θ (by rw[KW,Le]at W;exact W.2.1) hs;rw[show(X::σ::(bA cs++[.dK (Ix 2 (cP cs))])).length=mB cs by simp[aG]]at hd;have eB:X::σ::(bA cs++[.dK (Ix 2 (cP cs))])++KD (mB cs) (sP ss)++[.e (JP (mB cs+1) ss.length)]++[.dK (Ix (mB cs) (sP ss))]=(X::σ::bA cs)++.dK (Ix 2 (cP cs))::(KD (mB cs) (sP ss)++[.e (JP (mB cs+1) ss.length),.dK (Ix (mB cs) (sP ss))]):=by simp
 have eC:(X::σ::bA cs)++.dK (Ix 2 (cP cs))::(KD (mB cs) (sP ss)++[.e (JP (mB cs+1) ss.length),.dK (Ix (mB cs) (sP ss))])=((X::σ::bA cs)++.dK (Ix 2 (cP cs))::(KD (mB cs) (sP ss)++[.e (JP (mB cs+1) ss.length)]))++.dK (Ix (mB cs) (sP ss))::[]:=by simp
 have U:((Ix 2 (cP cs)++Ix (mB cs) (sP ss)).map (·.1)).Nodup:=by
  rw[KW,gY,gY];have e:((cP cs).map λp=>(JM p.1:rb))++((sP ss).map λp=>(JM p.1:rb))=((cs++ss).map (·.1)).map JM:=by simp[IJ]
  rw[e];exact Pc _ (λa b h q=>h (TD q)) W
 rw[eB]at hd;rw[<- hY];unfold SL;rw[show L6 2 0 (eV 0) (Mg cs ss R bg) (X::σ::(bA cs++[.dK (Ix 2 (cP cs))]))=Z (.ref (2+2*cs.length+1),X::σ::(bA cs++[.dK (Ix 2 (cP cs))]))by rw[hY];rfl,G8];dsimp only;rw[hd,G8];dsimp only;rw[show iu (X::σ::(bA cs++[.dK (Ix 2 (cP cs))])) (2+2*cs.length+1)=Z (Ix 2 (cP cs))from wZ (l:=X::σ::bA cs) lA.symm,G8,wZ lA.symm,G8,eC,wZ (by simp[aG,mB];lia),G8,if_pos ⟨by unfold mB;lia,U,by rw[lY,lY,Ih];simp;lia⟩,<- eC,D6 lA.symm];rfl
noncomputable def h4:B Dt:=[.int 0,.int 0,.int 0,.int 0]
abbrev k4:Fg:=Je (G3 (eK (.int 0)) (G3 (eK (.int 0)) (G3 (eK (.int 0)) (G3 (eK (.int 0)) He))))
def Gs:NF 2 1 (eV 0) (Mz .o (G3 k4 (G3 k4 He))) (Mg cs ss R bg) (X::.ins 2 [a]::T)=Z (.nx (Mg cs ss R bg) (X::.ins 2 [a,.ref (T.length+2)]::(T++[.e [.g (.t h4),.g (.t h4)]]))):=rfl
def Gu(hb:bg.length<=100):NF 2 2 (eV 0) (Mz .o (G3 (Jj .o [J] (iE (eV 2)) (Hq (.one 0)) IN (Je (G3 (eV 0) (G3 (eK (.int 0)) He)))) (G3 (Mz .o He) He))) (Mg cs ss R bg) (X::.ins 2 [a,b]::T)=Z (.nx (Mg cs ss R bg) (X::.ins 2 [a,b,.ref (T.length+4)]::(T++[dl (bg.map λs=>Bx.d (s,0)),.e [],.e [.ref (T.length+2),.ref (T.length+3)]]))):=by
 have hc:Jj .o [J] (iE (eV 2)) (Hq (.one 0)) IN (Je (G3 (eV 0) (G3 (eK (.int 0)) He))) (Mg cs ss R bg) (X::.ins 2 [a,b]::T)=Z (.ref (T.length+2),X::.ins 2 [a,b]::(T++[dl (bg.map λs=>Bx.d (s,0))])):=by unfold Jj;rw[show iE (eV 2) (Mg cs ss R bg) (X::.ins 2 [a,b]::T)=Z (bg.map .str,X::.ins 2 [a,b]::T)from rfl,G8,aM (pt:=.one 0) (ft:=IN) (fe:=Je (G3 (eV 0) (G3 (eK (.int 0)) He))) (D:=gC [J] (Mg cs ss R bg)) (ch:=X::.ins 2 [a,b]::T) (f:=.str) (g:=λs:Str=>Bx.d (s,0)) (l:=bg) λs _=>⟨_,rfl,rfl,rfl⟩,G8];dsimp only;rw[if_pos (by rw[HN,Ih];lia),dh];rfl
 rwa[NF,Mz,G3,hc,G8,He,Iy];simp[finL,dats,fin,al,eV,lent,CV.sol,ip,Ih]
def Gv:NF 2 3 (eV 0) (Mz .o (G3 (Mz .o He) (G3 (Mz .o He) He))) (Mg cs ss R bg) (X::.ins 2 [a,b,c]::T)=Z (.nx (Mg cs ss R bg) (X::.ins 2 [a,b,c,.ref (T.length+4)]::(T++[.e [],.e [],.e [.ref (T.length+2),.ref (T.length+3)]]))):=by rwa[NF,Mz,G3,He,G8,Iy];simp[finL,dats,fin,al,eV,lent,CV.sol,ip,Ih]
def p0(bg:B Str):Bool->Pg:=λb=>⟨0,0,0,0,bif b then []else bg.map λs=>(s,0),[]⟩
def p0_b:(p0 bg ξ).b=bg.map λs=>Bx.d (s,0):=by show(bg.map λs=>((s,0):Bx)).map Bx.d=_;rw[IV];rfl
abbrev bU(bg:B Str)(n:Nat):CH:=[.e [.g (.t h4),.g (.t h4)],dl (p0 bg ξ).b,.e [],.e [.ref (n+1),.ref (n+2)],.e [],.e [],.e [.ref (n+4),.ref (n+5)]]
abbrev bY(h n:Nat):CO:=.ins 2 [.ref h,.ref n,.ref (n+3),.ref (n+6),I 0,.g .ek]
theorem w6(hc:cs≠[])(hs:ss≠[])(hz:cs.length+ss.length<=100)(hb:bg.length<=100)(O:((cs++ss).map (·.1)).Nodup)(hv:∀h∈ss,0<=h.2.1/\h.2.1<=1000):Vy [.ref 1,.g (JI cs ss R),.g (.t (bg.map .str))] [X,.ins 2 []]=Z (.g .ek,X::bY (2+2*cs.length+1) ((bT cs ss).length+2)::(bT cs ss++bU bg ((bT cs ss).length+2))):=by have r1:=zP (ss:=ss) (R:=R) (bg:=bg) (X:=X) hc Θ (by rw[KW,Le]at O;exact O.1);have W:=zQ (R:=R) (bg:=bg) (X:=X) hs hz O hv;generalize bT cs ss=T at W ⊢;have U:=Gu (cs:=cs) (ss:=ss) (R:=R) (bg:=bg) (X:=X) (T:=T++[CO.e [.g (.t h4),.g (.t h4)]]) (a:=.ref (2+2*cs.length+1)) (b:=.ref (T.length+2)) hb;have r5:=Gv (cs:=cs) (ss:=ss) (R:=R) (bg:=bg) (X:=X) (T:=T++[CO.e [.g (.t h4),.g (.t h4)],dl (bg.map λs=>Bx.d (s,0)),.e [],.e [.ref (T.length+3),.ref (T.length+4)]]) (a:=.ref (2+2*cs.length+1)) (b:=.ref (T.length+2)) (c:=.ref (T.length+5));rwa[Kj,JK,Ny,NM,List.cons_append,V7,<- p0_b]at U r5;rw[q13];refine Dx (bc (Hi:=Mg cs ss R bg) (ch1:=X::.ins 2 [.ref (2+2*cs.length+1)]::(bA cs++[.dK (Ix 2 (cP cs))])) ?_ (bc W (bc Gs (bc U (bc r5 rfl)))));show NF 2 0 (eV 0) _ (Mg cs ss R bg) [X,.ins 2 []]=_;unfold NF;rw[r1,G8];rfl
end
def jf:Nat->B Rw->B Dt
 |_,[]=>[]
 |k,r::R=>mW k r::jf (k+1) R
theorem qu:∀{R:B Rw}{k i:Nat}{r:Rw},R[i]?=Z r->(jf k R)[i]?=Z (mW (k+i) r)
 |[],_,_,_,h=>by simp at h
 |q::R,k,0,r,h=>by cases h;rfl
 |q::R,k,i+1,r,h=>by have:=qu (R:=R) (k:=k+1) (i:=i) (r:=r) ‹h›;rw[show k+1+i=k+(i+1)by lia]at this;exact this
theorem m9:∀{R:B Rw}{k:Nat},(jf k R).length=R.length
 |[],_=>rfl
 |q::R,k=>by simp[jf,m9 (R:=R)]
def D7(i:Nat)(r:Rw):Vx [I i,.g r.d] ch=Z (.g (mW i r),ch):=by cases r<;>exact xR .nil
theorem qv:∀{R:B Rw}{k:Nat},aF (Hq (.many [0,1])) IN (LP 2 Vx (G3 (eV 0) (G3 (eV 1) He))) [J,J] (ck k (R.map Rw.d)) ch=Z ((jf k R).map .g,ch)
 |[],_=>rfl
 |r::R,k=>by
  have hb:Hq (.many [0,1]) (.t [.int k,r.d]) [J,J]=Z [Z (I k),Z (.g r.d)]:=rfl
  have hc:LP 2 Vx (G3 (eV 0) (G3 (eV 1) He)) [Z (I k),Z (.g r.d)] ch=Z (.g (mW k r),ch):=by show Kc 2 Vx [I k,.g r.d] [Z (I k),Z (.g r.d)] ch=_;unfold Kc;rw[if_pos ⟨rfl,rfl⟩];exact D7 k r
  rwa[Hz,ck,aF,hb,G8,IN,if_true,hc,CV.sol,qv (R:=R) (k:=k+1),Iy,jf]
section
variable{cs ss:B Hd}{R:B Rw}{bg:B Str}{ch:CH}
def qw(O:R.length<=1000):F12 [.g (JI cs ss R)] ch=Z (.g (.e (jf 0 R)),ch):=by rw[q12];exact f7 (jT (jS (bh (MD:=[J,J]) (ds:=ck 0 (R.map Rw.d)) rfl rfl qv (by rw[m9,Ih];lia)) rfl))
abbrev Ja:=Int×B Str
noncomputable def Ja.d(k:Ja):Dt:=.t [.int k.1,.t (k.2.map .str)]
abbrev NK(bg:B Str)(ks:B Ja):Dt:=.t [.t (bg.map .str),.t (ks.map Ja.d)]
abbrev PU(cs ss:B Hd)(R:B Rw)(bg:B Str)(ks:B Ja)(inc:B Dt):Sl:=[Z (.ref 0),Z (.g (JI cs ss R)),Z (.g (NK bg ks)),Z (.g (.e inc))]
variable{ks:B Ja}{inc:B Dt}
def fx(cs ss:B Hd)(R:B Rw)(ks:B Ja)(inc:B Dt):Fx:=⟨R.map Rw.d,jf 0 R,ss.map λh=>.inr h.1,ss.map λh=>.int h.2.1,((cs++ss).filter λh=>h.2.2).map λh=>.str h.1,ks.map λk=>.inl k.1,ks.map λk=>.t (k.2.map .str),inc⟩
def w8{l:B (rb×Dt)}:kZ .v (dp l) ch=Z (.g (.HC (l.map (·.1)) (l.map (·.2))),ch):=by unfold kZ;rw[dA];dsimp only;rw[om];rfl
def w9{f:FM (B Dt)}{l:B Hd}(hi:f D ch=Z (l.map Hd.d,ch))(hl:l.length<=100):Jj .v [J] f (Hq (.one 0)) IN (Je (G3 h0 (G3 h1 He))) D ch=Z (.g (.e ((l.map λh=>(h.1,h.2.1)).map Bx.d)),ch):=bh (MD:=[J]) hi rfl (by rw[IV,IV];exact aM (f:=Hd.d) (g:=λh:Hd=>Bx.d (h.1,h.2.1)) λh _=>⟨_,rfl,rfl,rfl⟩) (by simp[Ih];lia)
def AV{m:Md}{f:Fg}{l:B Bx}(h:f D ch=Z (.g (.e (l.map Bx.d)),ch))(O:(l.map (·.1)).Nodup):L9 m f D ch=kZ m (dp (JG l)) ch:=by unfold L9;rw[h,G8];show((aP ch ((l.map Bx.d).map CV.g)).bind _)=_;rw[IV,iC,G8,if_pos (by rw[dZ];exact lx O)]
def xa(O:(ss.map (·.1)).Nodup)(hl:ss.length<=100):L9 .v (Jj .v [J] (iE (HR (eV 1) (eK (.int 1)))) (Hq (.one 0)) IN (Je (G3 h0 (G3 h1 He)))) (PU cs ss R bg ks inc) ch=Z (.g (.HC (ss.map λh=>.inr h.1) (ss.map λh=>.int h.2.1)),ch):=by rw[AV (w9 (D:=PU cs ss R bg ks inc) rfl hl) (by simpa[IJ] using O),w8];simp[JG,IJ]
def xb(hc:cs≠[])(hs:ss≠[])(hl:cs.length+ss.length<=100):Jj .v [J] (iE (e2 .v Hs.g (HR (eV 1) (eK (.int 0))) (HR (eV 1) (eK (.int 1))))) (Hq (.one 0)) (i8 (HR (eV 0) (eK (.int 2)))) h0 (PU cs ss R bg ks inc) ch=Z (.g (.e (((cs++ss).filter λh=>h.2.2).map λh=>.str h.1)),ch):=by
 have O:Hs.g (.t (cs.map Hd.d)) (.t (ss.map Hd.d))=Z (.f (.t ((cs++ss).map Hd.d))):=by show Jh c5 ig _ _=_;unfold Jh c5;simp[Ih,hc,hs,show cs.length+ss.length<=16777216 by lia]
 refine bh (MD:=[J]) (ds:=(cs++ss).map Hd.d) ?_ rfl (by rw[IV];exact cb (f:=Hd.d) (g:=λh:Hd=>.str h.1) (p:=λh:Hd=>h.2.2) λh _=>⟨_,rfl,by simp! only[Hd.d];simp! [],λ_=>rfl⟩) (by rw[HN,Ih];have:=zd3 (λh:Hd=>h.2.2) (cs++ss);rw[Kj]at this;lia)
 unfold iE;rw[pW (x:=.g (.t (cs.map Hd.d))) (y:=.g (.t (ss.map Hd.d))) (ch1:=ch) (ch2:=ch) rfl rfl rfl rfl O];rfl
def na(U:(ks.map (·.1)).Nodup):L9 .v (HR (eV 2) (eK (.int 1))) (PU cs ss R bg ks inc) ch=Z (.g (.HC (ks.map λk=>.inl k.1) (ks.map λk=>.t (k.2.map .str))),ch):=by
 have W:HR (eV 2) (eK (.int 1)) (PU cs ss R bg ks inc) ch=Z (.g (.t (ks.map Ja.d)),ch):=rfl
 have hp:∀ks:B Ja,aP ch ((ks.map Ja.d).map .g)=Z (dp (ks.map λk=>(.inl k.1,.t (k.2.map .str)))):=λks=>by
  induction ks with
  |nil=>rfl
  |cons k ks O=>show(cu ch (.g (Ja.d k))).bind _=_;have h1:cu ch (.g (Ja.d k))=Z (.inl k.1,.g (.t (k.2.map .str))):=rfl;rw[h1,G8];show((aP ch ((ks.map Ja.d).map .g)).map _)=_;rw[O];rfl
 unfold L9;rw[W,G8];show((aP ch ((ks.map Ja.d).map .g)).bind _)=_
 rw[hp,G8,if_pos (by
  rw[dZ,IV];have e:(ks.map ((λp:rb×Dt=>p.1) ∘ λk:Ja=>(.inl k.1,.t (k.2.map .str))))=(ks.map (·.1)).map JT:=by simp[IJ]
  rw[e];exact Pc _ (λa b h q=>h (JT.inj q)) U),w8]
 simp[IJ]
noncomputable def VR(w m i:Nat):Nat:=match i with
 |0=>0
 |1=>1
 |2=>w+7
 |3=>w+9
 |4=>2+2*m+1
 |5=>w
 |6=>w+3
 |7=>w+6
 |8=>w+8
 |9=>w+1
 |10=>w+2
 |11=>w+4
 |12=>w+5
 |i+13=>if i<m then 2*i+2 else 2*i+4
noncomputable def sgI(w m j:Nat):Nat:=if j<2 then j else if j=w then 5 else if j=w+1 then 9 else if j=w+2 then 10 else if j=w+3 then 6 else if j=w+4 then 11 else if j=w+5 then 12 else if j=w+6 then 7 else if j=w+7 then 2 else if j=w+8 then 8 else if j=w+9 then 3 else if j=2+2*m+1 then 4 else if j<2*m+2 then j/2+12 else j/2+11
def zR{w n i:Nat}(h:i<n+13)(U:2*n+6<=w)(O:m<=n):sgI w m (VR w m i)=i:=by
 rcases i with _|_|_|_|_|_|_|_|_|_|_|_|_|i
 .rfl
 .rfl
 all_goals
  rwa[VR]
  try split
  all_goals
   unfold sgI
   repeat first|rw[if_pos Θ]|rw[if_neg Θ]
   try lia
def xc{T L:CH}{X σ:CO}:(X::σ::(T++L))[T.length+2+j]?=L[j]?:=by rw[show T.length+2+j=T.length+j+1+1 by lia,KU,KU,gR Θ,P8]
abbrev f6(cs ss:B Hd)(R:B Rw)(ks:B Ja)(inc:B Dt):B CV:=[.g (.t (R.map Rw.d)),.g (.e (jf 0 R)),.g (.HC (ss.map λh=>.inr h.1) (ss.map λh=>.int h.2.1)),.g (.e (((cs++ss).filter λh=>h.2.2).map λh=>.str h.1)),.g (.HC (ks.map λk=>.inl k.1) (ks.map λk=>.t (k.2.map .str))),.g (.e inc)]
abbrev bH(cs ss:B Hd)(R:B Rw)(bg:B Str)(ks:B Ja)(inc:B Dt)(h:Nat)(T:CH):CH:=.ins 3 (f6 cs ss R ks inc++[.ref 1,.ref (T.length+2+7),I 0,.g .ek,.ref (T.length+2+9)])::bY h (T.length+2)::(T++(bU bg (T.length+2)++[.ins 0 [.ref (T.length+2+8),.g (.bl ξ)],.dK [],dl [Sm.d .wake]]))
abbrev bQ(cs ss:B Hd)(R:B Rw)(ks:B Ja)(inc:B Dt)(h:Nat)(T L:CH):CH:=.ins 3 (f6 cs ss R ks inc++[.ref 1,.ref (T.length+2+7),I 0,.g .ek])::bY h (T.length+2)::(T++L)
noncomputable def sJ(U:cs≠[])(hs:ss≠[])(hz:cs.length+ss.length<=100)(hb:bg.length<=100)(hR:R.length<=1000)(W:((cs++ss).map (·.1)).Nodup)(hv:∀h∈ss,0<=h.2.1/\h.2.1<=1000)(hk:(ks.map (·.1)).Nodup):Qw [.ref 0,.g (JI cs ss R),.g (NK bg ks),.g (.e inc)] [.ins 3 []]=Z (.g .ek,bH cs ss R bg ks inc (2+2*cs.length+1) (bT cs ss)):=by
 have w:=λfs=>qw (cs:=cs) (ss:=ss) (ch:=[.ins 3 fs]) hR
 have z:=λfs=>xa (R:=R) (bg:=bg) (ks:=ks) (inc:=inc) (cs:=cs) (ss:=ss) (ch:=[.ins 3 fs]) (by rw[KW,Le]at W;exact W.2.1) Θ
 have t:=λfs=>xb (R:=R) (bg:=bg) (ks:=ks) (inc:=inc) (ch:=[.ins 3 fs]) U hs hz
 have k:=λfs=>na (R:=R) (bg:=bg) (inc:=inc) (cs:=cs) (ss:=ss) (ch:=[.ins 3 fs]) hk
 have m:MB 2 3 Vy (G3 (eV 1) (G3 (HR (eV 2) (eK (.int 0))) He)) (PU cs ss R bg ks inc) [.ins 3 (f6 cs ss R ks inc)]=Z (.ref 1,.ins 3 (f6 cs ss R ks inc)::bY (2+2*cs.length+1) ((bT cs ss).length+2)::(bT cs ss++bU bg ((bT cs ss).length+2))):=by have e:=w6 (R:=R) (bg:=bg) (X:=.ins 3 (f6 cs ss R ks inc)) U hs hz hb W hv;unfold MB Kc;rw[show(G3 (eV 1) (G3 (HR (eV 2) (eK (.int 0))) He)) (PU cs ss R bg ks inc) [.ins 3 (f6 cs ss R ks inc)]=Z ([.g (JI cs ss R),.g (.t (bg.map .str))],[.ins 3 (f6 cs ss R ks inc)])from rfl,G8];dsimp only;rw[if_pos ⟨rfl,rfl⟩];show((Vy [.ref 1,.g (JI cs ss R),.g (.t (bg.map .str))] [.ins 3 (f6 cs ss R ks inc),.ins 2 []]).bind _)=_;rw[e,G8];exact if_pos Ξ
 generalize bT cs ss=T at m ⊢;generalize 2+2*cs.length+1=h at m ⊢;have ln:∀X σ:CO,(X::σ::(T++bU bg (T.length+2))).length=T.length+2+7:=λX σ=>by simp
 have hd:MB 0 1 F14 He (PU cs ss R bg ks inc) (.ins 3 (f6 cs ss R ks inc++[.ref 1])::bY h (T.length+2)::(T++bU bg (T.length+2)))=Z (.ref (T.length+2+7),.ins 3 (f6 cs ss R ks inc++[.ref 1])::bY h (T.length+2)::(T++(bU bg (T.length+2)++[.ins 0 [.ref (T.length+2+8),.g (.bl ξ)],.dK []]))):=by have m8:=gJ (F:=F14) (c:=0) (n:=1) (ch:=.ins 3 (f6 cs ss R ks inc++[.ref 1])::bY h (T.length+2)::(T++bU bg (T.length+2))) (D:=PU cs ss R bg ks inc) (fs:=He) (ds:=[]) (a':=[.ins 0 [.ref 1,.g (.bl ξ)],.dK []]) (aj _) rfl rfl rfl Ξ;rw[ln]at m8;rw[m8,<- NM];rfl
 have gq:=λX σ L j=>xc (T:=T) (L:=L) (X:=X) (σ:=σ) (j:=j)
 obtain⟨L,O⟩:∃L:CH,L=bU bg (T.length+2)++[.ins 0 [.ref (T.length+2+8),.g (.bl ξ)],.dK []]:=⟨_,rfl⟩;rw[<- O]at hd;obtain⟨Q,hQ⟩:∃Q:CH,Q=bQ cs ss R ks inc h T L:=⟨_,rfl⟩;have g:∀j,Q[T.length+2+j]?=L[j]?:=λj=>by rw[hQ];exact gq _ _ _ _
 have i1:ixV Q (.ref (T.length+2)) (.int 0)=Z (.g (.t h4)):=by show(Q[T.length+2+0]?).bind _=_;rw[g,O];rfl
 have i2:ixV Q (.ref (T.length+2+3)) (.int 0)=Z (.ref (T.length+2+1)):=by show(Q[T.length+2+3]?).bind _=_;rw[g,O];rfl
 have i3:ixV Q (.ref (T.length+2+6)) (.int 0)=Z (.ref (T.length+2+4)):=by show(Q[T.length+2+6]?).bind _=_;rw[g,O];rfl
 have v1:=vl (ch:=Q) (i:=T.length+2+1) (L:=(p0 bg ξ).b) (by rw[g,O];rfl);have v2:=vl (ch:=Q) (i:=T.length+2+4) (L:=[]) (by rw[g,O];rfl)
 have cm:F16 [.g (p0 bg ξ).d] Q=Z (.ref (T.length+2+9),Q++[dl [Sm.d .wake]]):=by have:=sD (ch:=Q) (p:=p0 bg ξ) (by rw[Ih];show 0<_;decide);rw[show Q.length=T.length+2+9 by rw[hQ,O];simp]at this;exact this
 rw[hQ]at i1 i2 i3 v1 v2 cm;have sp:Vz [.ref 1,I 0] (bQ cs ss R ks inc h T L)=Z (.g (p0 bg ξ).d,bQ cs ss R ks inc h T L):=xR (.c 0 i1 (.c 0 i2 (.d 0 v1 (.c 0 i3 (.d 0 v2 .nil)))));have pg:Op [.ref 0,I 0] (bQ cs ss R ks inc h T L)=Z (.g (p0 bg ξ).d,bQ cs ss R ks inc h T L):=xR (.v 0 sp .nil);have fc:RG [.ref 0] (bQ cs ss R ks inc h T L)=Z (I 0,bQ cs ss R ks inc h T L):=rfl;have eF:bH cs ss R bg ks inc h T=.ins 3 (f6 cs ss R ks inc++[.ref 1,.ref (T.length+2+7),I 0,.g .ek,.ref (T.length+2+9)])::bY h (T.length+2)::(T++L++[dl [Sm.d .wake]]):=by rw[O];simp
 rw[eF];let f:=f6 cs ss R ks inc;exact xR (.v 0 (w (f.take 1)) (.v 0 (z (f.take 2)) (.v 0 (t (f.take 3)) (.v 0 (k (f.take 4)) (.v 0 m (.v 0 hd (.v 0 fc (.v 0 pg (.v 0 cm .nil)))))))))
def xf (hcn:cs≠[]) (hs:ss≠[]) (hz:cs.length+ss.length<=100) (hb:bg.length<=100) (hR:R.length<=1000) (hn:((cs++ss).map (·.1)).Nodup) (hv:∀ h∈ss,0<=h.2.1/\h.2.1<=1000) (W:(ks.map (·.1)).Nodup) :
  ∃η Y,Qw [.ref 0,.g (JI cs ss R),.g (NK bg ks),.g (.e inc)] [.ins 3 []]=Z (.g .ek,η)/\At Y (hc (JH cs++Hk ss) ⟨fx cs ss R ks inc,[.wake],p0 bg,ξ,J,[],ξ,0⟩ J (O6 cs++MZ ss)) η/\Y 0=0:=by
 refine⟨_,VR ((bT cs ss).length+2) cs.length,sJ hcn hs hz hb hR hn hv W,?_,rfl⟩;have lT:(bT cs ss).length=2*(cs.length+ss.length)+4:=by simp[aG];lia
 have O:=λj=>xc (T:=bT cs ss) (L:=bU bg ((bT cs ss).length+2)++[.ins 0 [.ref ((bT cs ss).length+2+8),.g (.bl ξ)],.dK [],dl [Sm.d .wake]]) (X:=.ins 3 (f6 cs ss R ks inc++[.ref 1,.ref ((bT cs ss).length+2+7),I 0,.g .ek,.ref ((bT cs ss).length+2+9)])) (σ:=bY (2+2*cs.length+1) ((bT cs ss).length+2)) (j:=j)
 have lN:(Hj J (O6 cs++MZ ss)).length=cs.length+ss.length:=by simp[Hj,O6,MZ]
 have U:=λi (hi:i<(Hj J (O6 cs++MZ ss)).length+13)=>zR (w:=(bT cs ss).length+2) (m:=cs.length) (by rw[lN]at hi;exact hi) Θ Θ
 refine mZ (λi j hi hj e=>by rw[<- U i hi,e,U j hj]) rfl rfl (O 7) (O 9) ?_ (O 0) (O 3) (O 6) (O 8) (O 1) (O 2) (O 4) (O 5) λi o hi=>?_
 .show(_::_::(bT cs ss++_))[2+2*cs.length+1]?=Z (.dK (IP _ (ai 13 (JH cs++Hk ss))));rw[j0];have r1:IP (VR ((bT cs ss).length+2) cs.length) (ai 13 (JH cs))=Ix 2 (cP cs):=fC λk W=>by show(if _ then _ else _)=_;rw[if_pos W];lia
  have r2:IP (VR ((bT cs ss).length+2) cs.length) (ai (13+(JH cs).length) (Hk ss))=Ix (mB cs) (sP ss):=fC λk W=>by rw[show k+(13+(JH cs).length)=k+cs.length+13 by simp[JH];lia];show(if _ then _ else _)=_;rw[if_neg Θ];show _=2*_+4+_;lia
  rwa[IP,KW]at r1 r2 ⊢;rw[r1,r2,KU,show 2+2*cs.length=2*cs.length+1+1 by lia,KU,NM,P0 (by simp[aG])];simp[aG]
 .have hi:(O6 cs++MZ ss)[i]?=Z o:=hi;have lC:(O6 cs).length=cs.length:=by simp[O6]
  have eT:∀L,bT cs ss++L=KD 2 (cP cs)++.e (JP 3 cs.length)::.dK (Ix 2 (cP cs)++Ix (mB cs) (sP ss))::(KD (mB cs) (sP ss)++([.e (JP (mB cs+1) ss.length),.dK (Ix (mB cs) (sP ss))]++L)):=λL=>by simp
  show(_::_::(bT cs ss++_))[if i<cs.length then 2*i+2 else 2*i+4]?=_;rw[eT];rcases MM i cs.length with q|q
  .rw[gL Θ]at hi;rwa[O6,HZ]at hi;have⟨h,e,rfl⟩:=mS hi;have hb:=(iT (n:=2) (ps:=cP cs) (k:=i) (p:=(h.1,[.int h.2.1])) (by rw[HZ,e];rfl)).1;rw[jW,if_pos q,KU,KU,gL (af hb)];exact hb
  .rw[gR Θ,lC]at hi;rwa[MZ,HZ]at hi;have⟨h,e,rfl⟩:=mS hi;have hb:=(iT (n:=mB cs) (ps:=sP ss) (k:=i-cs.length) (p:=(h.1,I0 h.2.1.toNat (.int 0))) (by rw[HZ,e];rfl)).1;rw[jW,if_neg Θ,KU,KU,P0 (by simp[aG];lia),show 2*i+2-(KD 2 (cP cs)).length=2*(i-cs.length)+1+1 by simp[aG];lia,KU,KU,RZ (af hb)];exact hb
end
def RwP(cs ss:B Hd):Rw->Prop
 |.op _ _ a b=>bK a/\bK b
 |.load _ n=>n∈cs.map (·.1)
 |.store n a=>n∈cs.map (·.1)/\bK a
 |.take _ n a=>n∈ss.map (·.1)/\bK a
 |.lay n a b=>n∈ss.map (·.1)/\bK a/\bK b
 |.copy _ a|.say a|.fin a=>bK a
 |.IZ _|.K8 _ _|.go _=>True
structure Pr(cs ss:List Hd)(R:List Rw)(bg:List Str)(ks:List Ja)(inc:List Dt)(nm:List Str):Prop where
 c0:cs≠[]
 s0:ss≠[]
 len:cs.length+ss.length<=100
 nd:((cs++ss).map (·.1)).Nodup
 cv:∀h∈cs,Vi (.int h.2.1)
 sv:∀h∈ss,0<h.2.1/\h.2.1<=1000
 rl:0<R.length/\R.length<=1000
 row:∀r∈R,RwP cs ss r
 lead:∀(i:Nat) r p,R[i]?=Z r->jV i r p->∃j:Nat,p=j/\j<R.length
 bn:bg.Nodup/\bg.length<=6
 kn:(ks.map (·.1)).Nodup
 kb:∀k∈ks,k.2.Nodup/\k.2.length<=6/\∀s∈k.2,s∈nm
 inc:∀d∈inc,Vi d
section
variable{cs ss:B Hd}{R:B Rw}{bg:B Str}{ks:B Ja}{inc:B Dt}{nm:B Str}
def iU{α:Type}{l:B α}{a:α}(h:a∈l):∃k:Nat,l[k]?=Z a:=R1.mp h
def VS{n:Str}(h:n∈cs.map (·.1)):Vp (JH cs++Hk ss) n 0:=by
 have⟨a,U,rfl⟩:=HG.mp h;have⟨k,O⟩:=iU U;refine⟨k,1,?_,Θ⟩;have:(JH cs)[k]?=Z (a.1,1):=by simp[JH,O]
 rw[gL (af this)];exact this
theorem oN:∀{ss:B Hd}{k:Nat}{a:Hd},(ss.map (·.1)).Nodup->ss[k]?=Z a->ah (ss.map λh=>(JM h.1:rb)) (ss.map λh=>.int h.2.1) (JM a.1)=Z (.int a.2.1)
 |[],_,_,_,h=>by simp at h
 |b::ss,0,a,_,h=>by cases h;simp[ah]
 |b::ss,k+1,a,W,h=>by
  have O:=Jr.mp W;have hm:a.1∈ss.map (·.1):=HG.mpr ⟨a,Il h,rfl⟩;have:¬ b.1=a.1:=λe=>O.1 (by show b.1∈_;rw[e];exact hm)
  have U:=oN (ss:=ss) (k:=k) O.2 ‹h›;rwa[Hz,ah,OI,this,if_false];exact U
def VT(P:Pr cs ss R bg ks inc nm){n:Str}(h:n∈ss.map (·.1)):oA (fx cs ss R ks inc) (JH cs++Hk ss) n:=by
 have⟨a,O,rfl⟩:=HG.mp h;have⟨k,U⟩:=iU O;have W:=P.sv a O;refine⟨(JH cs).length+k,a.2.1.toNat,?_,Θ,?_⟩
 .rw[gR Θ,P8];simp[Hk,U]
 .have:=oN (by have:=P.nd;rw[KW,Le]at this;exact this.2.1) U;rw[show((a.2.1.toNat:Nat):Int)=a.2.1 by lia];exact this
def Pr.xr(P:Pr cs ss R bg ks inc nm):XR (fx cs ss R ks inc) R (JH cs++Hk ss) nm:=by
 refine⟨⟨?_,λd O=>?_,P.inc⟩,rfl,λi r h=>?_,λr hr=>?_,P.lead,λk d h=>?_⟩
 .have:(JH cs++Hk ss).map (·.1)=(cs++ss).map (·.1):=by simp[JH,Hk,IJ]
  rw[this];exact P.nd
 .rwa[fx,HG]at O;have⟨h,_,rfl⟩:=O;exact⟨_,rfl⟩
 .have:=qu (k:=0) h;rw[Tg]at this;exact this
 .have:=P.row r hr;cases r with
  |op x sg a b=>exact this
  |load x n=>exact VS this
  |store n a=>exact⟨VS this.1,this.2⟩
  |take x n a=>exact⟨VT P this.1,this.2⟩
  |lay n a b=>exact⟨VT P this.1,this.2⟩
  |copy x a=>exact this
  |say a=>exact this
  |fin a=>exact this
  |IZ x=>trivial
  |K8 x t=>trivial
  |go t=>trivial
 .have:∀{ks:B Ja},ah (ks.map λk=>(JT k.1:rb)) (ks.map λk=>.t (k.2.map .str)) k=Z d->∃q∈ks,d=.t (q.2.map .str):=λ{ks}=>by
   induction ks with
   |nil=>intro h;cases h
   |cons q ks U=>
    intro h;rwa[Hz,ah]at h;split at h
    .cases h;exact⟨q,.head _,rfl⟩
    .have⟨W,h1,h2⟩:=U h;exact⟨W,.tail _ h1,h2⟩
  have⟨q,hq,rfl⟩:=this h;exact⟨q.2,rfl,(P.kb q hq)⟩
def f0(cs:B Hd):Vf:=λn p=>match cs.find? λh=>decide (h.1=n)with
 |some h=>if p=0 then h.2.1 else 0
 |none=>0
def D8{h:Hd}(hn:(cs.map (·.1)).Nodup)(U:h∈cs):f0 cs h.1 0=h.2.1:=by
 have:cs.find? (λq=>decide (q.1=h.1))=Z h:=by
  induction cs with
  |nil=>cases U
  |cons q cs ih=>
   have O:=Jr.mp hn;rcases IE.mp U with rfl|U
   .simp[P7]
   .have W:¬ q.1=h.1:=λe=>O.1 (HG.mpr ⟨h,U,e.symm⟩)
    rwa[P7,W,decide_false];exact ih O.2 U
 unfold f0;rw[this];rfl
def VU{n:Str}{p:Nat}(h:n∉cs.map (·.1)):f0 cs n p=0:=by
 have:cs.find? (λq=>decide (q.1=n))=J:=by rw[List.find?_eq_none];intro q O e;exact h (HG.mpr ⟨q,O,of_decide_eq_true e⟩)
 unfold f0;rw[this]
omit x in
def VV(O:∀h∈cs,Vi (.int h.2.1))(n:Str)(p:Nat):Vn (f0 cs n p):=by
 unfold f0;split
 .rename_i h e;split
  .exact(O h (List.mem_of_find?_eq_some e)).n
  .exact RH
 .exact RH
def bX(P:Pr cs ss R bg ks inc nm):(cs.map (·.1)).Nodup/\(ss.map (·.1)).Nodup/\∀h∈ss,h.1∉cs.map (·.1):=by have:=P.nd;rw[KW,Le]at this;exact⟨this.1,this.2.1,λh O q=>this.2.2 _ q _ (HG.mpr ⟨h,O,rfl⟩) rfl⟩
def AW(P:Pr cs ss R bg ks inc nm):ab (Hk ss) (f0 cs)=MZ ss:=by
 unfold ab Hk MZ;rw[IV];refine M3 λh O=>?_
 show dl (row (f0 cs) (h.1,h.2.1.toNat))=_;congr 1;refine QG λi=>?_
 rcases MM i h.2.1.toNat with q|q
 .rw[iF q,VU ((bX P).2.2 h O),Zl,if_pos q]
 .rw[Oy (by rw[dC];exact q),Zl,if_neg Θ]
def Gw(P:Pr cs ss R bg ks inc nm):ab (JH cs++Hk ss) (f0 cs)=O6 cs++MZ ss:=by
 rw[<- (AW P)];unfold ab;rw[KW];congr 1;unfold JH O6;rw[IV];refine M3 λh O=>?_
 show dl [.int (f0 cs h.1 0)]=_;rw[D8 (bX P).1 O]
theorem qx:∀{ss:B Hd},(∀h∈ss,0<h.2.1/\h.2.1<=1000)->(Jn ss).length<=1000*ss.length
 |[],_=>by simp[Jn]
 |h::ss,O=>by
  have W:=qx (ss:=ss) λq U=>O q (.tail _ U)
  have:=O h (.head _);have e:Jn (h::ss)=((Ir h.2.1.toNat).map λp=>(h.1,p))++Jn ss:=rfl;rw[e,Kj,HN,V4,JK];lia
def qy{n:Str}{p:Nat}(h:((n,p):Hv)∈Jn ss):n∈ss.map (·.1):=by rwa[Jn,P3,HG]at h;have⟨a,O,q,_,e⟩:=h;exact HG.mpr ⟨a,O,congrArg NN e⟩
theorem xg:∀{ss:B Hd},(ss.map (·.1)).Nodup->(Jn ss).Nodup
 |[],_=>by simp[Jn]
 |h::ss,U=>by have O:=Jr.mp U;have e:Jn (h::ss)=((Ir h.2.1.toNat).map λp=>((h.1,p):Hv))++Jn ss:=rfl;rw[e,Le];refine⟨Pc _ (λa b h e=>h (congrArg Prod.snd e)) R5,xg O.2,λa W c hc e=>?_⟩;have⟨p,_,rfl⟩:=HG.mp W;subst e;exact O.1 (qy hc)
def AX(P:Pr cs ss R bg ks inc nm):Nm (JH cs++Hk ss) cs ss:=by
 refine⟨P.xr.X.nd,λh O=>?_,λh O=>⟨?_,by have:=P.sv h O;lia⟩,?_,λn p hv=>?_,?_⟩
 .have⟨k,U⟩:=iU O;have:(JH cs)[k]?=Z (h.1,1):=by simp[JH,U]
  exact⟨k,by rw[gL (af this)];exact this⟩
 .have⟨k,U⟩:=iU O;refine⟨(JH cs).length+k,?_⟩;rw[gR Θ,P8];simp[Hk,U]
 .unfold aw;rw[Le];refine⟨?_,xg (bX P).2.1,λa ha c hc e=>?_⟩
  .have:=(bX P).1;have e:cs.map (λh=>((h.1,0):Hv))=(cs.map (·.1)).map λn=>(n,0):=by simp
   rw[e];exact Pc _ (λa b h e=>h (congrArg NN e)) this
  .subst e;have⟨h,O,rfl⟩:=HG.mp ha;have⟨h',W,e⟩:=HG.mp (qy hc);exact(bX P).2.2 h' W (HG.mpr ⟨h,O,e.symm⟩)
 .have⟨k,m,h1,h2⟩:=hv;have:=Il h1;rcases JC.mp this with h|h
  .have⟨c,hc,e⟩:=HG.mp h;cases e;obtain rfl:p=0:=by lia
   exact JC.mpr (.inl (HG.mpr ⟨c,hc,rfl⟩))
  .have⟨c,hc,e⟩:=HG.mp h;cases e;exact JC.mpr (.inr (P3.mpr ⟨c,hc,HG.mpr ⟨p,KF.mpr h2,rfl⟩⟩))
 .have h1:=qx P.sv;have h2:=P.len;unfold aw;rw[Kj,HN];lia
abbrev VW(cs ss:B Hd)(R:B Rw)(bg:B Str)(ks:B Ja)(inc:B Dt):HS:=⟨fx cs ss R ks inc,[.wake],p0 bg,ξ,J,[],ξ,0⟩
def xh(P:Pr cs ss R bg ks inc nm):∃η Y,Qw [.ref 0,.g (JI cs ss R),.g (NK bg ks),.g (.e inc)] [.ins 3 []]=Z (.g .ek,η)/\At Y (hz (JH cs++Hk ss) (VW cs ss R bg ks inc) J (f0 cs)) η/\Y 0=0:=by unfold hz;rw[(Gw P)];exact xf P.c0 P.s0 P.len (by have:=P.bn.2;lia) P.rl.2 P.nd (λh O=>by have:=P.sv h O;lia) P.kn
def D9(P:Pr cs ss R bg ks inc nm):∃(L:CH)(M:Nat->Nat),(At M (hz (JH cs++Hk ss) (VW cs ss R bg ks inc) J (f0 cs)) L/\M 0=0)/\∀(fs:FM (B CV))(D:Sl),fs D []=Z ([.g (JI cs ss R),.g (NK bg ks),.g (.e inc)],[])->MB 3 4 Qw fs D []=Z (.ref 0,L):=by
 have⟨η,Y,W,k2,O⟩:=xh P;have U:0<η.length:=by have:=k2.lt (i:=0) oJ;lia
 refine⟨η.map (Ho (([]:CH).length + ·)),λi=>0+Y i,⟨At.comp (lw (ch:=[])) k2,by show 0+Y 0=0;rw[O]⟩,λfs D h=>?_⟩;exact gJ (F:=Qw) (c:=3) (n:=4) (ch:=[]) (ds:=[JI cs ss R,NK bg ks,.e inc]) (aj _) h rfl W U
end
noncomputable def JJ:Str:="abcdefghijklmnopqrstuvwxyz"
def zS:JJ.length=26:=χ
noncomputable def Nw(i:Int):Nat:=JJ.cps.toList.getD i.toNat 0
def zT:∀i<26,∀j<26,JJ.cps.toList.getD i 0=JJ.cps.toList.getD j 0->i=j:=χ
def xi{i:Int}(h0:0<=i)(h1:i<26):Iw (.str JJ) (.int i)=Z (.str ⟨#[Nw i]⟩):=by
 have hl:JJ.cps.toList.length=26:=by decide +kernel
 have:My (.str JJ) (.int i)=Z (.f (.str ⟨#[Nw i]⟩)):=by
  have e:My (.str JJ) (.int i)=(Ji JJ.cps.toList i).map λc=>.f (.str ⟨#[c]⟩):=by have O:JJ.length<=G6:=p7 (by rw[zS];decide);rwa[My,O,if_true]
  have U:Ji JJ.cps.toList i=Z (Nw i):=by unfold Ji KI;rw[if_pos h0,hl,if_pos Θ];rwa[G8];unfold Nw;rw[KS,gQ Θ];rfl
  rw[e,U];rfl
 show(match (J:ζ (ζ Dt))with|some r=>r|none=>match My (.str JJ) (.int i)with|some (.f y)=>Z y|_=>J)=_;rw[this]
def zU(x y:Str):(x++y).length=x.length+y.length:=by show(x.cps++y.cps).size=_;rw[Array.size_append];rfl
def zV(x y:Str):(x++y).cps.toList=x.cps.toList++y.cps.toList:=by show(x.cps++y.cps).toList=_;simp
def VX{x:Str}(h:x.length+y.length<=1000000):Hs.g (.str x) (.str y)=Z (.f (.str (x++y))):=by show Jh c5 ig _ _=_;unfold Jh;rw[DI (p7 h)]
def nc{x:Str}{lo hi:ζ Int}(h:x.length<=1000):∃y,Ng (.str x) lo hi=Z (.f (.str y))/\y.length<=x.length:=⟨_,if_pos (p7 Θ),Txt.slice_le x lo hi⟩
section
variable{ch:CH}
theorem nm_0(c x:Int)(h0:0<=x)(h1:x<10):∃g:Nat,HR (eV 2) (e2 .v HU.g (e2 .v Hs.g (e2 .v JF.g (eV 1) (eK (.int 37))) (e2 .v HY.g (e2 .v HY.g (eK (.int 11)) (eV 0)) (e2 .v HU.g (eV 1) (eK (.int 2))))) (eK (.int 26))) [Z (I x),Z (I c),Z (.g (.str JJ))] ch=Z (.g (.str ⟨#[g]⟩),ch):=by have W:cL 11 x=C:=eN Θ Θ;have O:cL (11*x) (c%2)=C:=eN Θ Θ;have U:=xi (i:=(c/37+11*x*(c%2))%26) (M1 _ Ω) (O8 _ Ω);refine⟨Nw ((c/37+11*x*(c%2))%26),?_⟩;simp! only[];dsimp! [HU,eO,JF,gp,HY,ia,W,O,U]
abbrev Za:Fg:=HR (eV 2) (e2 .v HU.g (e2 .v Hs.g (e2 .v JF.g (eV 1) (eK (.int 37))) (e2 .v HY.g (e2 .v HY.g (eK (.int 11)) (eV 0)) (e2 .v HU.g (eV 1) (eK (.int 2))))) (eK (.int 26)))
abbrev nE1:Fg:=e2 .v Hs.g (e2 .v Hs.g (KN .v (eV 3) J (Z (eV 1))) (HR (eV 4) (e2 .v HU.g (e2 .v Hs.g (e2 .v JF.g (eV 2) (eK (.int 42))) (e2 .v HY.g (eK (.int 5)) (eV 0))) (eK (.int 26))))) (KN .v (eV 3) (Z (eV 1)) J)
def nm_c(c:Int)(n:Nat)(hn6:n<6):∃gs:B Nat,gs.length=n/\aF (Hq (.one 0)) IN Za [J,Z (I c),Z (.g (.str JJ))] (au 0 n) ch=Z ((PM gs).map .g,ch):=by
 have⟨ds,W,O,e3⟩:=pV (pt:=.one 0) (ft:=IN) (fe:=Za) (D:=[J,Z (I c),Z (.g (.str JJ))]) (ch:=ch) (f:=λi:Nat=>.int (0+(i:Int))) (P:=λd=>∃g:Nat,d=.str ⟨#[g]⟩) (l:=Ir n) λi hi=>by have⟨g,hg⟩:=nm_0 (ch:=ch) c (0+(i:Int)) Θ (by have:=KF.mp hi;lia);exact⟨_,_,rfl,rfl,hg,g,rfl⟩
 obtain⟨gs,rfl,U⟩:∃gs:B Nat,ds=PM gs/\gs.length=ds.length:=by
  clear W e3;induction ds with
  |nil=>exact⟨[],rfl,rfl⟩
  |cons d ds ih=>
   have⟨g,rfl⟩:=O d (.head _);have⟨gs,rfl,h⟩:=ih λd hd=>O d (.tail _ hd)
   exact⟨g::gs,rfl,by simp[h]⟩
 exact⟨gs,by rw[U,e3];simp,W⟩
def nm_1(c p:Int){m y:Str}(hy:y.length<=6)(hz:z.length<=6)(ey:Ng (.str m) J (Z p)=Z (.f (.str y)))(ez:Ng (.str m) (Z p) J=Z (.f (.str z)))(x:Int)(h0:0<=x)(h1:x<12):nE1 [Z (I x),Z (I p),Z (I c),Z (.g (.str m)),Z (.g (.str JJ))] ch=Z (.g (.str (y++⟨#[Nw ((c/42+5*x)%26)]⟩++z)),ch):=by
 have m1:cL 5 x=C:=eN Θ Θ;have O:=xi (i:=(c/42+5*x)%26) Θ Θ;obtain⟨g,U⟩:∃g:Str,g=⟨#[Nw ((c/42+5*x)%26)]⟩:=⟨_,rfl⟩;have hgl:g.length=1:=by rw[U];rfl
 rw[<- U]at O ⊢;have W:=VX (x:=y) (y:=g) Θ;have a2:=VX (x:=y++g) (y:=z) (by rw[zU];lia);have x1:KN .v (eV 3) J (Z (eV 1)) [Z (I x),Z (I p),Z (I c),Z (.g (.str m)),Z (.g (.str JJ))] ch=Z (.g (.str y),ch):=by simp[KN,L8,eV,lent,cj,vw,ey,fin,T.d]
 have x3:KN .v (eV 3) (Z (eV 1)) J [Z (I x),Z (I p),Z (I c),Z (.g (.str m)),Z (.g (.str JJ))] ch=Z (.g (.str z),ch):=by simp[KN,L8,eV,lent,cj,vw,ez,fin,T.d]
 have x2:HR (eV 4) (e2 .v HU.g (e2 .v Hs.g (e2 .v JF.g (eV 2) (eK (.int 42))) (e2 .v HY.g (eK (.int 5)) (eV 0))) (eK (.int 26))) [Z (I x),Z (I p),Z (I c),Z (.g (.str m)),Z (.g (.str JJ))] ch=Z (.g (.str g),ch):=by simp! only[];dsimp! [HU,eO,JF,gp,HY,ia,m1,O]
 exact pW (pW x1 x2 rfl rfl W) x3 rfl rfl a2
def Gy{c:Int}:((Ir 12).map λi:Nat=>y++⟨#[Nw ((c/42+5*(i:Int))%26)]⟩++z).Nodup:=by
 rw[List.nodup_iff_pairwise_ne,List.pairwise_map];refine List.Pairwise.imp_of_mem ?_ R5;intro i j hi O U h;have hi:=KF.mp hi;have O:=KF.mp O;have e:=congrArg (λs:Str=>s.cps.toList) h;rwa[zV]at e;have e:=List.append_cancel_left (List.append_cancel_right e);have e:Nw ((c/42+5*(i:Int))%26)=Nw ((c/42+5*(j:Int))%26):=‹e›
 have:=zT _ Θ _ Θ e;omega
def nm_l{n:Nat}{g:Nat->Dt}(hi:fi D ch=Z (au 0 n,ch))(O:gC src D=MD)(U:n<=1000)(h:aF (Hq (.one 0)) IN fe MD (au 0 n) ch=Z ((Ir n).map λi=>.g (g i),ch)):Jj .v src fi (Hq (.one 0)) IN fe D ch=Z (.g (.e ((Ir n).map g)),ch):=by unfold Jj;rw[hi,G8,O];dsimp only;rw[h,G8];dsimp only;rw[if_pos (by rw[HN,V4,Ih];lia),dh];rfl
def Gz{c N:Int}(O:c%6=N):ja 3 (e2 .v HU.g (eV 0) (eK (.int 6))) [Z (I c),Z (I 12),Z (.g (.str JJ)),J,J,J] ch=Z (.nx [Z (I c),Z (I 12),Z (.g (.str JJ)),Z (I N),J,J] ch):=by simp! only[];simp! [HU,eO,O]
def GB{c N p:Int}(O:0<=N)(hp:p=c/6%(N+1)):ja 4 (e2 .v HU.g (e2 .v JF.g (eV 0) (eK (.int 6))) (e2 .v Hs.g (eV 3) (eK (.int 1)))) [Z (I c),Z (I 12),Z (.g (.str JJ)),Z (I N),J,J] ch=Z (.nx [Z (I c),Z (I 12),Z (.g (.str JJ)),Z (I N),Z (I p),J] ch):=by simp! only[];simp! [HU,eO,JF,gp,hp,show 0<N+1 by lia]
def GC{c p:Int}{n:Nat}{gs:B Nat}{m:Str}(O:n<6)(hgl:gs.length=n)(hm:m=⟨gs.toArray⟩)(U:aF (Hq (.one 0)) IN Za [J,Z (I c),Z (.g (.str JJ))] (au 0 n) ch=Z ((PM gs).map .g,ch)):Rq .v Om.g (eK (.str "")) (G3 (Jj .v [J,Z 0,Z 2] (iR 1 (G3 (eV 3) He)) (Hq (.one 0)) IN Za) He) [Z (I c),Z (I 12),Z (.g (.str JJ)),Z (I n),Z (I p),J] ch=Z (.g (.str m),ch):=by
 have W:Om.g (.str "") [.e (PM gs)]=Z (.f (.str m)):=by rw[hm];exact v0 (cs:=gs) Θ
 exact Dw rfl (cw (bh (di rfl (aH Θ)) rfl U (by rw[PM,HN,Ih];lia))) W
def ni(c:Int):∃xs:B Str,F0 [I c,I 12] ch=Z (.g (.e (xs.map .str)),ch)/\xs.length=12/\xs.Nodup:=by
 have b0:=M1 c (show(6:Int)≠0 by decide);have b1:=O8 c (show(0:Int)<6 by decide);have⟨n,hn⟩:=QC b0;have O:n<6:=by lia
 obtain⟨p,hp⟩:∃p,p=c/6%((n:Int)+1):=⟨_,rfl⟩;have⟨gs,U,e1⟩:=nm_c (ch:=ch) c n O;obtain⟨m,W⟩:∃m:Str,m=⟨gs.toArray⟩:=⟨_,rfl⟩;have hml:m.length<=6:=by rw[W];show gs.toArray.size<=6;simp;lia
 have⟨y,ey,hy⟩:=nc (x:=m) (lo:=J) (hi:=Z p) Θ;have⟨z,ez,hz⟩:=nc (x:=m) (lo:=Z p) (hi:=J) Θ;have e4:=aM (pt:=.one 0) (ft:=IN) (fe:=nE1) (D:=[J,Z (I p),Z (I c),Z (.g (.str m)),Z (.g (.str JJ))]) (ch:=ch) (f:=λi:Nat=>.int (0+(i:Int))) (g:=λi:Nat=>.str (y++⟨#[Nw ((c/42+5*(i:Int))%26)]⟩++z)) (l:=Ir 12) λi hi=>⟨[Z (I (0+(i:Int))),Z (I p),Z (I c),Z (.g (.str m)),Z (.g (.str JJ))],rfl,rfl,by have h:=nm_1 (ch:=ch) c p Θ Θ ey ez (0+(i:Int)) Θ (by have:=KF.mp hi;lia);rw[MK]at h ⊢;exact h⟩
 have s1:=Gz (ch:=ch) hn;have s2:=GB (ch:=ch) (c:=c) (N:=n) Θ hp;have s3:=GC (p:=p) O U W e1;have s4:Jj .v [J,Z 4,Z 0,Z 5,Z 2] (iR 1 (G3 (eV 1) He)) (Hq (.one 0)) IN nE1 [Z (I c),Z (I 12),Z (.g (.str JJ)),Z (I n),Z (I p),Z (.g (.str m))] ch=Z (.g (.e ((Ir 12).map λi:Nat=>.str (y++⟨#[Nw ((c/42+5*(i:Int))%26)]⟩++z))),ch):=nm_l (di (j:=12) rfl (aH Θ)) rfl Θ e4;refine⟨(Ir 12).map λi:Nat=>y++⟨#[Nw ((c/42+5*(i:Int))%26)]⟩++z,?_,Ξ,Gy⟩;rw[IV,q0];exact f7 (bc (Hi:=[Z (I c),Z (I 12),Z (.g (.str JJ)),J,J,J]) (ch1:=ch) rfl (bc s1 (bc s2 (bc (dX s3 rfl) (jT (jS s4 rfl))))))
end
theorem oO(W:xs.Nodup):∀{is:B Nat},is.Nodup->(∀i∈is,i<xs.length)->(is.map λi=>xs.getD i Ov).Nodup
 |[],_,_=>by simp
 |i::is,h,hl=>by
  have h':=Jr.mp h;rw[Hz,Jr];refine⟨λhm=>?_,oO W h'.2 λj U=>hl j (.tail _ U)⟩;have⟨j,U,e⟩:=HG.mp hm;have hi:=hl i (.head _);have O:=hl j (.tail _ U);rwa[KS,qq9 hi,qq9 O,Option.getD_some]at e;have hp:=List.pairwise_iff_getElem.mp W;rcases Nat.lt_trichotomy i j with q|q|q
  .exact hp i j hi O q e.symm
  .exact h'.1 (by rw[q];exact U)
  .exact hp j i O hi q e
section
variable{ch:CH}
def ixS{k:Nat}(h:k<xs.length):Iw (.e (xs.map .str)) (.int k)=Z (.str (xs.getD k Ov)):=by rw[fw h,KS,gQ h];rfl
def PV{xs:B Int}{k:Nat}(h:k<xs.length):Iw (.e (xs.map .int)) (.int k)=Z (.int (xs.getD k 0)):=by rw[fw h,KS,gQ h];rfl
def AY{xs:B Int}(O:∀v∈xs,VQ v){k:Nat}(h:k<xs.length):VQ (xs.getD k 0):=by rw[KS,gQ h];exact O _ (P2 h)
structure Wd(bx:List Str)(cs ss:List Hd)(inc:List Int):Prop where
 b4:bx.length=4
 c0:0<cs.length/\cs.length<=3
 s0:0<ss.length/\ss.length<=2
 nd:((cs++ss).map (·.1)).Nodup
 cv:∀h∈cs,Vi (.int h.2.1)
 sv:∀h∈ss,0<h.2.1/\h.2.1<=8
 inc:∀i∈inc,Vi (.int i)
abbrev O7(bx:B Str)(cs ss:B Hd)(inc:B Int):Dt:=.t [.e (bx.map .str),.e (cs.map Hd.d),.e (ss.map Hd.d),.e (inc.map .int)]
abbrev cE:Fg:=Je (G3 (HR (eV 1) (eV 0)) (G3 (LP 1 F3 (G3 (HR (eV 2) (eV 0)) He)) (G3 (e2 .v KH.g (e2 .v HU.g (e2 .v JF.g (HR (eV 2) (eV 0)) (eK (.int 5))) (eK (.int 2))) (eK (.int 0))) He)))
abbrev sE:Fg:=Je (G3 (HR (eV 1) (e2 .v Hs.g (eK (.int 4)) (eV 0))) (G3 (e2 .v Hs.g (eK (.int 1)) (e2 .v HU.g (HR (eV 2) (e2 .v Hs.g (eK (.int 4)) (eV 0))) (eK (.int 8)))) (G3 (e2 .v KH.g (e2 .v HU.g (e2 .v JF.g (HR (eV 2) (e2 .v Hs.g (eK (.int 4)) (eV 0))) (eK (.int 8))) (eK (.int 2))) (eK (.int 0))) He)))
def GD{xs vs:Dt}{x v:Int}{s:Str}(h1:Iw xs (.int x)=Z (.str s))(h2:Iw vs (.int x)=Z (.int v))(t1:∃l,xs=.e l)(t2:∃l,vs=.e l):∃h:Hd,cE [Z (I x),Z (.g xs),Z (.g vs)] ch=Z (.g h.d,ch)/\Vi (.int h.2.1)/\h.1=s:=by have⟨a,rfl⟩:=t1;have⟨b,rfl⟩:=t2;have⟨w,U,O⟩:=iS (ch:=ch) v;refine⟨(s,w,decide (v/5%2=0)),?_,U,rfl⟩;simp! only[];dsimp! [h1,h2,O,HU,eO,JF,gp,Hd.d]
def GF{xs vs:Dt}{x v:Int}{s:Str}(h1:Iw xs (.int (4+x))=Z (.str s))(h2:Iw vs (.int (4+x))=Z (.int v))(t1:∃l,xs=.e l)(t2:∃l,vs=.e l):∃h:Hd,sE [Z (I x),Z (.g xs),Z (.g vs)] ch=Z (.g h.d,ch)/\(0<h.2.1/\h.2.1<=8)/\h.1=s:=by have⟨a,rfl⟩:=t1;have⟨b,rfl⟩:=t2;refine⟨(s,1+v%8,decide (v/8%2=0)),?_,by show 0<1+v%8/\1+v%8<=8;lia,rfl⟩;simp! only[];dsimp! [h1,h2,HU,eO,JF,gp,Hd.d]
def qz{α:Type}(f:α->Dt)(l:B α)(a b:Nat)(hb:b<=l.length)(O:a<=b):Ng (.e (l.map f)) (Z (a:Int)) (Z (b:Int))=Z (.e (((l.drop a).take (b-a)).map f)):=by show Z (T.e (nO (l.map f) (Z (a:Int)) (Z (b:Int))))=_;unfold nO;rw[HT.GX,HT.GX,HN,Zv hb,Zv (show a<=l.length by lia),V8,List.map_drop]
def iV{n:Nat}{F:Fd}{fs:FM (B CV)}{c:CV}{ch2:CH}(hs:fs D ch=Z (cs,ch))(O:cs.length=n/\cs.all CV.old=C)(U:F cs ch=Z (c,ch2)):LP n F fs D ch=Z (c,ch2):=by unfold LP Kc;rw[hs,G8];dsimp only;rw[if_pos O];exact U
def dv{f:Fg}{fs:FM (B CV)}{c:CV}(h:f D ch=Z (c,ch))(hs:fs D ch=Z (cs,ch)):G3 f fs D ch=Z (c::cs,ch):=by unfold G3;rw[h,G8];dsimp only;rw[hs];rfl
def GG{f:Fg}{d:Dt}(h:f D ch=Z (.g d,ch))(O:itD d=Z l):iE f D ch=Z (l,ch):=by unfold iE;rw[h,G8];dsimp only;rw[O];rfl
def xj(ns:B Int):∃bx cs ss inc,Wd bx cs ss inc/\F4 [.g (.e (ns.map .int))] ch=Z (.g (O7 bx cs ss inc),ch):=by
 have⟨c0,g0⟩:=dD (ch:=ch) ns 0;have⟨c1,g1⟩:=dD (ch:=ch) ns 1;have⟨c2,g2⟩:=dD (ch:=ch) ns 2;have⟨xs,W,SI,hx3⟩:=ni (ch:=ch) c0;have⟨vs,O5,PB,RM⟩:=dE (ch:=ch) c1 12 Θ;have sm:=λk (h:k<12)=>AY RM (k:=k) Θ
 obtain⟨a,ha⟩:∃a:Nat,(a:Int)=1+vs.getD 6 0%3:=⟨(1+vs.getD 6 0%3).toNat,Θ⟩;obtain⟨b,hb⟩:∃b:Nat,(b:Int)=1+vs.getD 7 0%2:=⟨(1+vs.getD 7 0%2).toNat,Θ⟩;obtain⟨d,hd⟩:∃d:Nat,(d:Int)=vs.getD 8 0%7:=⟨(vs.getD 8 0%7).toNat,Θ⟩;have⟨ls,Xm,Xn,hl3⟩:=dE (ch:=ch) c2 d Θ
 have⟨cs,e1,Lz,e3⟩:=dg (pt:=.one 0) (ft:=IN) (fe:=cE) (D:=[J,Z (.g (.e (xs.map .str))),Z (.g (.e (vs.map .int)))]) (ch:=ch) (f:=λi:Nat=>.int (0+(i:Int))) (g:=Hd.d) (h:=λh:Hd=>h.1) (h':=λi=>xs.getD i Ov) (Q:=λh:Hd=>Vi (.int h.2.1)) (l:=Ir a) λi hi=>by have hi:=KF.mp hi;have⟨h,k1,k2,k3⟩:=GD (ch:=ch) (xs:=.e (xs.map .str)) (vs:=.e (vs.map .int)) (x:=0+(i:Int)) (by rw[MK];exact ixS Θ) (by rw[MK];exact PV Θ) ⟨_,rfl⟩ ⟨_,rfl⟩;exact⟨_,h,rfl,rfl,k1,k2,k3⟩
 have⟨ss,e4,e5,e6⟩:=dg (pt:=.one 0) (ft:=IN) (fe:=sE) (D:=[J,Z (.g (.e (xs.map .str))),Z (.g (.e (vs.map .int)))]) (ch:=ch) (f:=λi:Nat=>.int (0+(i:Int))) (g:=Hd.d) (h:=λh:Hd=>h.1) (h':=λi=>xs.getD (4+i) Ov) (Q:=λh:Hd=>0<h.2.1/\h.2.1<=8) (l:=Ir b) λi hi=>by
  have hi:=KF.mp hi;have e:(4:Int)+(0+(i:Int))=((4+i:Nat):Int):=by push_cast;lia
  have⟨h,k1,k2,k3⟩:=GF (ch:=ch) (xs:=.e (xs.map .str)) (vs:=.e (vs.map .int)) (x:=0+(i:Int)) (by rw[e];exact ixS Θ) (by rw[e];exact PV Θ) ⟨_,rfl⟩ ⟨_,rfl⟩;exact⟨_,h,rfl,rfl,k1,k2,k3⟩
 have⟨inc,e7,e8,e9⟩:=dg (pt:=.one 0) (ft:=IN) (fe:=LP 1 F3 (G3 (eV 0) He)) (D:=[J]) (ch:=ch) (f:=Dt.int) (g:=Dt.int) (h:=λ_:Int=>()) (h':=λ_=>()) (Q:=λi=>Vi (.int i)) (l:=ls) λi hi=>by have⟨w,hw,h3⟩:=iS (ch:=ch) i;exact⟨[Z (I i)],w,rfl,rfl,iV (cs:=[I i]) rfl ⟨rfl,rfl⟩ h3,hw,rfl⟩
 have Sw:cs.length=a:=by have:=congrArg ML e3;simpa using this
 have hsl:ss.length=b:=by have:=congrArg ML e6;simpa using this
 have SF:inc.length=d:=by have:=congrArg ML e9;simpa[Xn] using this
 refine⟨(xs.drop 6).take 4,cs,ss,inc,⟨by simp[SI],Θ,Θ,?_,Lz,e5,e8⟩,?_⟩
 .rw[KW,e3,e6];have:(Ir a).map (λi=>xs.getD i Ov)++(Ir b).map (λi=>xs.getD (4+i) Ov)=(Ir a++(Ir b).map (4 + ·)).map λi=>xs.getD i Ov:=by simp[IJ]
  rw[this];refine oO hx3 ?_ λi hi=>?_
  .rw[Le];refine⟨R5,?_,λi hi j hj e=>?_⟩
   .exact Pc _ (λa b h q=>h Θ) R5
   .have⟨k,_,rfl⟩:=HG.mp hj;have:=KF.mp hi;lia
  .rcases JC.mp hi with hi|hi
   .have:=KF.mp hi;lia
   .have⟨k,hk,rfl⟩:=HG.mp hi;have:=KF.mp hk;lia
 .obtain⟨X,hX⟩:∃X:Dt,X=.e (xs.map .str):=⟨_,rfl⟩;obtain⟨V,hV⟩:∃V:Dt,V=.e (vs.map .int):=⟨_,rfl⟩;have x6:Iw V (.int 6)=Z (.int (vs.getD 6 0)):=by rw[hV];exact PV (k:=6) Θ
  have x7:Iw V (.int 7)=Z (.int (vs.getD 7 0)):=by rw[hV];exact PV (k:=7) Θ
  have x8:Iw V (.int 8)=Z (.int (vs.getD 8 0)):=by rw[hV];exact PV (k:=8) Θ
  have vV:∀d,ixV ch (.g V) d=(Iw V d).map .g:=λd=>rfl
  have cutX:Ng X (Z 6) (Z 10)=Z (.e (((xs.drop 6).take 4).map .str)):=by rw[hX];exact qz Dt.str xs 6 10 Θ Θ
  rw[<- hX]at W e1 e4;rw[<- hV]at O5 e1 e4;obtain⟨θ,hC⟩:∃θ:Dt,θ=.e (cs.map Hd.d):=⟨_,rfl⟩;obtain⟨δ,hD⟩:∃δ:Dt,δ=.e (ss.map Hd.d):=⟨_,rfl⟩;obtain⟨U,hE⟩:∃U:Dt,U=.e (inc.map .int):=⟨_,rfl⟩;obtain⟨σ,hY⟩:∃σ:Dt,σ=.e (ns.map .int):=⟨_,rfl⟩;rw[<- hY]at g0 g1 g2 ⊢;have s1:=dX (i:=1) (D:=[Z (.g σ),J,J,J,J,J]) (iV (n:=2) (F:=F0) (fs:=G3 (LP 2 F1 (G3 (eV 0) (G3 (eK (.int 0)) He))) (G3 (eK (.int 12)) He)) (dv (iV (cs:=[.g σ,I 0]) rfl ⟨rfl,rfl⟩ g0) (dv (c:=I 12) rfl rfl)) ⟨rfl,rfl⟩ W) rfl;have s2:=dX (i:=2) (D:=[Z (.g σ),Z (.g X),J,J,J,J]) (iV (n:=2) (F:=F2) (fs:=G3 (LP 2 F1 (G3 (eV 0) (G3 (eK (.int 1)) He))) (G3 (eK (.int 12)) He)) (dv (iV (cs:=[.g σ,I 1]) rfl ⟨rfl,rfl⟩ g1) (dv (c:=I 12) rfl rfl)) ⟨rfl,rfl⟩ O5) rfl
  have i3:e2 .v Hs.g (eK (.int 1)) (e2 .v HU.g (HR (eV 2) (eK (.int 6))) (eK (.int 3))) [Z (.g σ),Z (.g X),Z (.g V),J,J,J] ch=Z (I a,ch):=by rw[ha];simp! only[];dsimp! [vV,x6,HU,eO]
  have s3:=dX (i:=3) (D:=[Z (.g σ),Z (.g X),Z (.g V),J,J,J]) (bh (src:=[J,Z 1,Z 2]) (di (cw i3) (aH Θ)) rfl e1 (by rw[HN,Ih];lia)) rfl
  have i4:e2 .v Hs.g (eK (.int 1)) (e2 .v HU.g (HR (eV 2) (eK (.int 7))) (eK (.int 2))) [Z (.g σ),Z (.g X),Z (.g V),Z (.g θ),J,J] ch=Z (I b,ch):=by rw[hb];simp! only[];dsimp! [vV,x7,HU,eO]
  have s4:=dX (i:=4) (D:=[Z (.g σ),Z (.g X),Z (.g V),Z (.g θ),J,J]) (bh (src:=[J,Z 1,Z 2]) (di (cw i4) (aH Θ)) rfl e4 (by rw[HN,Ih];lia)) rfl
  have i5:e2 .v HU.g (HR (eV 2) (eK (.int 8))) (eK (.int 7)) [Z (.g σ),Z (.g X),Z (.g V),Z (.g θ),Z (.g δ),J] ch=Z (I d,ch):=by rw[hd];simp! only[];dsimp! [vV,x8,HU,eO]
  have j5:iE (LP 2 F2 (G3 (LP 2 F1 (G3 (eV 0) (G3 (eK (.int 2)) He))) (G3 (e2 .v HU.g (HR (eV 2) (eK (.int 8))) (eK (.int 7))) He))) [Z (.g σ),Z (.g X),Z (.g V),Z (.g θ),Z (.g δ),J] ch=Z (ls.map .int,ch):=by exact GG (iV (F:=F2) (cs:=[I c2,I d]) (dv (iV (cs:=[.g σ,I 2]) rfl ⟨rfl,rfl⟩ g2) (cw i5)) ⟨rfl,rfl⟩ Xm) rfl
  have s5:=dX (i:=5) (D:=[Z (.g σ),Z (.g X),Z (.g V),Z (.g θ),Z (.g δ),J]) (bh (src:=[J]) j5 rfl e7 (by rw[HN,Ih];lia)) rfl
  have s6:KN .v (eV 1) (Z (eK (.int 6))) (Z (eK (.int 10))) [Z (.g σ),Z (.g X),Z (.g V),Z (.g θ),Z (.g δ),Z (.g U)] ch=Z (.g (.e (((xs.drop 6).take 4).map .str)),ch):=by simp[KN,L8,eV,eK,lent,cj,vw,cutX,fin,T.d]
  rw[q4];rw[<- hC]at s3;rw[<- hD]at s4;rw[<- hE]at s5
  have s7:Je (G3 (KN .v (eV 1) (Z (eK (.int 6))) (Z (eK (.int 10)))) (G3 (eV 3) (G3 (eV 4) (G3 (eV 5) He)))) [Z (.g σ),Z (.g X),Z (.g V),Z (.g θ),Z (.g δ),Z (.g U)] ch=Z (.g (.t [.e (((xs.drop 6).take 4).map .str),θ,δ,U]),ch):=by unfold Je;rw[dv s6 (dv (c:=.g θ) rfl (dv (c:=.g δ) rfl (dv (c:=.g U) rfl rfl)))];simp[dats,Ih]
  rw[hC,hD,hE]at s7;have O:=jT (g2:=mr) (jS s7 rfl);rw[<- hC,<- hD,<- hE]at O;have:=f7 (n:=6) (cs:=[.g σ]) (bc s1 (bc s2 (bc s3 (bc s4 (bc s5 O)))));rw[this,hC,hD,hE]
end
variable{bx:B Str}{inc:B Int}
section
variable{ch:CH}
def Ea{V:Dt}{U O w n:Int}(h4:ixV ch (.g V) (.int 4)=Z (I U))(W:ixV ch (.g V) (.int 5)=Z (I O))(hw:0<=w)(hn:w+1<n):∃t,0<=t/\t<n/\F6 [.g V,I w,I n] ch=Z (I t,ch):=by
 by_cases h:U%6=0
 .exact⟨O%n,M1 _ Θ,O8 _ Θ,xR (.c 0 h4 (.t 1 (Mb (decide_eq_true h)) (.c 0 W (.t 0 (KC (v:=O) rfl (show 0<n by lia)) .nil))))⟩
 .have b0:=M1 O (show n-1-w≠0 by lia);have b1:=O8 O (show 0<n-1-w by lia);exact⟨w+1+O%(n-1-w),Θ,Θ,xR (.c 0 h4 (.t 1 (Mb (decide_eq_false h)) (.c 0 W (.t 2 (KC (v:=O) rfl (show 0<n-1-w by lia)) .nil))))⟩
def zW{i:Int}(h0:0<=i)(h1:i<8):∃s,Iw (.str "+-*<=&|^") (.int i)=Z (.str s):=by
 have U:(Jv "+-*<=&|^").length=8:=by decide +kernel
 have⟨g,W,_⟩:=zy (x:="+-*<=&|^") (i:=i) (by rw[U];decide) h0 (by rw[U];exact h1);have O:My (.str "+-*<=&|^") (.int i)=Z (.f (.str ⟨#[g]⟩)):=W;refine⟨⟨#[g]⟩,?_⟩;show(match (J:ζ (ζ Dt))with|some r=>r|none=>match My (.str "+-*<=&|^") (.int i)with|some (.f y)=>Z y|_=>J)=_;rw[O]
def RwD(cs ss:B Hd)(w n:Int)(r:Rw):Prop:=RwP cs ss r/\∀p,(match r with
 |.go t=>p=t
 |.K8 _ t=>p=t\/p=w+1
 |.fin _=>False
 |_=>p=w+1)->0<=p/\p<n
def oP{α:Type}{f:α->Dt}{l:B α}(hl:0<l.length)(v:Int):∃a∈l,ixV ch (.g (.e (l.map f))) (.int (v%(l.length:Int)))=Z (.g (f a)):=by
 have U:=M1 v (show(l.length:Int)≠0 by lia);have b1:=O8 v (show(0:Int)<l.length by lia);have⟨k,W⟩:=QC U;have O:k<l.length:=by lia
 refine⟨l[k],P2 O,?_⟩;show(Iw (.e (l.map f)) (.int (v%(l.length:Int)))).map CV.g=_;rw[W,fw O];rfl
def zX{cs:B Hd}(W:Wd bx cs ss inc)(cell w n:Int)(hw:0<=w)(hn:w+1<n):∃r,RwD cs ss w n r/\F7 [I cell,I w,I n,.g (O7 bx cs ss inc)] ch=Z (.g r.d,ch):=by
 have⟨vs,O5,PB,RM⟩:=dE (ch:=ch) cell 8 Θ;obtain⟨V,hV⟩:∃V:Dt,V=.e (vs.map .int):=⟨_,rfl⟩
 have xv:∀k:Nat,k<8->ixV ch (.g V) (.int k)=Z (I (vs.getD k 0)):=λk hk=>by rw[hV];show(Iw _ _).map CV.g=_;rw[PV Θ];rfl
 rw[<- hV]at O5;have sm:=λk (h:k<8)=>AY RM (k:=k) Θ
 have x0:ixV ch (.g V) (.int 0)=Z (I (vs.getD 0 0)):=xv 0 Θ;have x1:ixV ch (.g V) (.int 1)=Z (I (vs.getD 1 0)):=xv 1 Θ;have x2:ixV ch (.g V) (.int 2)=Z (I (vs.getD 2 0)):=xv 2 Θ;have x3:ixV ch (.g V) (.int 3)=Z (I (vs.getD 3 0)):=xv 3 Θ;have x6:ixV ch (.g V) (.int 6)=Z (I (vs.getD 6 0)):=xv 6 Θ;have x4:ixV ch (.g V) (.int 4)=Z (I (vs.getD 4 0)):=xv 4 Θ;have x5:ixV ch (.g V) (.int 5)=Z (I (vs.getD 5 0)):=xv 5 Θ;have x7:ixV ch (.g V) (.int 7)=Z (I (vs.getD 7 0)):=xv 7 Θ;have sm0:=(sm 0 Θ).1;clear xv sm;generalize vs.getD 0 0=y0 at*
 generalize vs.getD 1 0=y1 at*
 generalize vs.getD 2 0=y2 at*
 generalize vs.getD 3 0=y3 at*
 generalize vs.getD 4 0=y4 at*
 generalize vs.getD 5 0=y5 at*
 generalize vs.getD 6 0=y6 at*
 generalize vs.getD 7 0=y7 at*
 have⟨x,_,hx⟩:=oP (ch:=ch) (f:=Dt.str) (l:=bx) (by have:=W.b4;lia) y1;have⟨c,hcm,hc⟩:=oP (ch:=ch) (f:=Hd.d) (l:=cs) W.c0.1 y6;have⟨s,hsm,hs⟩:=oP (ch:=ch) (f:=Hd.d) (l:=ss) W.s0.1 y6;have⟨a,ha,fa⟩:=lW (ch:=ch) y2 (xs:=bx) (by intro e;have:=W.b4;rw[e]at this;cases this);have⟨b,hb,fb⟩:=lW (ch:=ch) y3 (xs:=bx) (by intro e;have:=W.b4;rw[e]at this;cases this);have lB:HE.g [.e (bx.map .str)]=Z (.f (.int bx.length)):=by simp[HE,ic]
 have lC:HE.g [.e (cs.map Hd.d)]=Z (.f (.int cs.length)):=by simp[HE,ic]
 have lD:HE.g [.e (ss.map Hd.d)]=Z (.f (.int ss.length)):=by simp[HE,ic]
 have pB:(0:Int)<bx.length:=by have:=W.b4;lia
 have pC:(0:Int)<cs.length:=by have:=W.c0.1;lia
 have pD:(0:Int)<ss.length:=by have:=W.s0.1;lia
 have⟨t,ht0,ht1,ht⟩:=Ea x4 x5 hw hn;have nx:∀p,p=w+1->0<=p/\p<n:=λp e=>by lia
 have XC:c.1∈cs.map (·.1):=HG.mpr ⟨c,hcm,rfl⟩;have hsf:s.1∈ss.map (·.1):=HG.mpr ⟨s,hsm,rfl⟩;have P:=λ{g:B An}{L:B Prop}(z:Oa g L)=>Oa.v 0 O5 (.c 0 x1 (.t 0 lB (.t 0 (KC (v:=y1) rfl pB) (.c 0 hx (.c 0 x6 (.t 0 lC (.t 0 (KC (v:=y6) rfl pC) (.c 0 hc (.c 1 x6 (.t 0 lD (.t 0 (KC (v:=y6) rfl pD) (.c 0 hs (.c 1 x2 (.v 0 fa (.c 0 x3 (.v 0 fb (.c 0 x0 z)))))))))))))))))
 by_cases k5:y0%23<5
 .have⟨sg,hsg⟩:=zW (i:=y7%8) Θ Θ
  have hsg':ixV ch (.g (.str "+-*<=&|^")) (.int (y7%8))=Z (.g (.str sg)):=by show(Iw (.str "+-*<=&|^") (.int (y7%8))).map CV.g=_;rw[hsg];rfl
  exact⟨.op x sg a b,⟨⟨ha,hb⟩,nx⟩,xR (P (.t 1 (Me (decide_eq_true k5)) (.c 0 x7 (.c 0 hsg' .nil))))⟩
 have Ot:=Me (decide_eq_false k5);by_cases k17:y0%23<17
 .have Ki:=Me (decide_eq_true k17);rcases(show y0%23%4=0\/y0%23%4=1\/y0%23%4=2\/y0%23%4=3 by lia)with q|q|q|q
  .exact⟨.load x c.1,⟨XC,nx⟩,xR (P (.t 1 Ot (.t 0 Ki (.t 0 (KC q Ω) .nil))))⟩
  .exact⟨.store c.1 a,⟨⟨XC,ha⟩,nx⟩,xR (P (.t 1 Ot (.t 0 Ki (.t 0 (KC q Ω) .nil))))⟩
  .exact⟨.take x s.1 a,⟨⟨hsf,ha⟩,nx⟩,xR (P (.t 1 Ot (.t 0 Ki (.t 0 (KC q Ω) .nil))))⟩
  .exact⟨.lay s.1 a b,⟨⟨hsf,ha,hb⟩,nx⟩,xR (P (.t 1 Ot (.t 0 Ki (.t 0 (KC q Ω) .nil))))⟩
 have Ki:=Me (decide_eq_false k17);by_cases k20:y0%23<20
 .have LX:=Me (decide_eq_true k20);rcases(show y0%23%3=0\/y0%23%3=1\/y0%23%3=2 by lia)with q|q|q
  .exact⟨.copy x a,⟨ha,nx⟩,xR (P (.t 1 Ot (.t 0 Ki (.t 0 LX (.t 0 (KC q Ω) .nil)))))⟩
  .exact⟨.IZ x,⟨trivial,nx⟩,xR (P (.t 1 Ot (.t 0 Ki (.t 0 LX (.t 0 (KC q Ω) .nil)))))⟩
  .exact⟨.say a,⟨ha,nx⟩,xR (P (.t 1 Ot (.t 0 Ki (.t 0 LX (.t 0 (KC q Ω) .nil)))))⟩
 have LX:=Me (decide_eq_false k20);by_cases k22:y0%23<22
 .exact⟨.K8 x t,⟨trivial,λp hp=>by rcases hp with rfl|rfl;exact⟨ht0,ht1⟩;lia⟩,xR (P (.t 1 Ot (.t 0 Ki (.t 0 LX (.t 0 (Me (decide_eq_true k22)) (.v 0 ht .nil))))))⟩
 have RT:=Me (decide_eq_false k22);rcases(show y5/64%3=0\/y5/64%3=1\/y5/64%3=2 by lia)with q|q|q
 .exact⟨.fin a,⟨ha,λp hp=>hp.elim⟩,xR (P (.t 1 Ot (.t 0 Ki (.t 0 LX (.t 0 RT (.v 0 ht (.c 0 x5 (.t 1 (KC q Ω) .nil))))))))⟩
 .exact⟨.say b,⟨hb,nx⟩,xR (P (.t 1 Ot (.t 0 Ki (.t 0 LX (.t 0 RT (.v 0 ht (.c 0 x5 (.t 1 (KC q Ω) .nil))))))))⟩
 .exact⟨.go t,⟨trivial,λp hp=>by subst hp;exact⟨ht0,ht1⟩⟩,xR (P (.t 1 Ot (.t 0 Ki (.t 0 LX (.t 0 RT (.v 0 ht (.c 0 x5 (.t 1 (KC q Ω) .nil))))))))⟩
end
section
variable{ch:CH}
def GH{d:Dt}(hl:l.length<=1000):Hs.g (.t l) (.t [d])=Z (.f (.t (l++[d]))):=by
 cases l with
 |nil=>rfl
 |cons a l=>
  show Jh c5 ig _ _=_;unfold Jh c5;have:(a::l).length+[d].length<=G6:=by rw[Ih];simp at hl ⊢;lia
  rwa[this,true_and];simp
abbrev pE:Fg:=LP 4 F7 (G3 (HR (eV 1) (eV 0)) (G3 (eV 0) (G3 (e2 .v Hs.g (eB .v HE.g (G3 (eV 1) He)) (eK (.int 1))) (G3 (eV 2) He))))
def GJ{S W:Dt}{x O n:Int}(h1:ixV ch (.g S) (.int x)=Z (I O))(h2:HE.g [S]=Z (.f (.int n)))(U:F7 [I O,I x,I (n+1),.g W] ch=Z (.g r.d,ch)):pE [Z (I x),Z (.g S),Z (.g W)] ch=Z (.g r.d,ch):=by simp! only[];simp[lent,vw,vws,fin,T.d,CV.old,h1,h2,Hs,Jh,c5,U]
def GK{fs:FM (B CV)}(hs:fs D ch=Z (ds.map .g,ch))(hl:ds.length<=G6):Je fs D ch=Z (.g (.t ds),ch):=by unfold Je;rw[hs,G8];dsimp only;rw[if_pos (by rw[HN];exact hl),cg]
theorem qA:∀ds:B Dt,vws ch (ds.map .g)=Z ds
 |[]=>rfl
 |d::ds=>by show(vws ch (ds.map .g)).map (d::·)=_;rw[qA ds];rfl
def xk{m:Md}{g:B Dt->ζ T}{fs:FM (B CV)}{t:T}(hs:fs D ch=Z (ds.map .g,ch))(O:g ds=Z t):eB m g fs D ch=fin m ch t:=by unfold eB kB;rw[hs,G8];dsimp only;rw[qA,G8,O];rfl
def xl{cs:B Hd}{i:Nat}{n p:Int}(h:RwD cs ss i n r)(hp:jV i r p):0<=p/\p<n:=h.2 p (by cases r<;>exact hp)
def zY{cs:B Hd}(W:Wd bx cs ss inc)(sm:B Int)(hm:sm.length<=100)(O:rb)(hla:bK O):∃R:B Rw,(0<R.length/\R.length<=1000)/\(∀r∈R,RwP cs ss r)/\(∀(i:Nat) r p,R[i]?=Z r->jV i r p->∃j:Nat,p=j/\j<R.length)/\R.length=sm.length+1/\F8 [.g (.e (sm.map .int)),.g (O7 bx cs ss inc),.g (av O)] ch=Z (.g (JI cs ss R),ch):=by
 obtain⟨S,hS⟩:∃S:Dt,S=.e (sm.map .int):=⟨_,rfl⟩;have lS:HE.g [S]=Z (.f (.int sm.length)):=by rw[hS];simp[HE,ic]
 have⟨ys,e1,Lz,e3⟩:=dg (pt:=.one 0) (ft:=IN) (fe:=pE) (D:=[J,Z (.g S),Z (.g (O7 bx cs ss inc))]) (ch:=ch) (f:=λi:Nat=>.int (0+(i:Int))) (g:=λp:Nat×Rw=>p.2.d) (h:=λp:Nat×Rw=>p.1) (h':=λi=>i) (Q:=λp:Nat×Rw=>RwD cs ss p.1 (sm.length+1) p.2) (l:=Ir sm.length) λi hi=>by have hi:=KF.mp hi;have⟨r,U,h⟩:=zX (ch:=ch) W (sm.getD i 0) (i:Int) (sm.length+1) Θ Θ;refine⟨[Z (I (0+(i:Int))),Z (.g S),Z (.g (O7 bx cs ss inc))],(i,r),rfl,rfl,?_,U,rfl⟩;rw[MK];refine GJ ?_ lS h;rw[hS];show(Iw _ _).map CV.g=_;rw[PV hi];rfl
 have hl:ys.length=sm.length:=by have:=congrArg ML e3;simpa using this
 refine⟨ys.map (·.2)++[.fin O],by simp;lia,λr U=>?_,λi r p U hp=>?_,by simp[hl],?_⟩
 .rcases JC.mp U with U|U
  .have⟨y,hy,rfl⟩:=HG.mp U;exact(Lz y hy).1
  .simp at U;subst U;exact hla
 .rcases MM i ys.length with hi|hi
  .rw[RZ ‹hi›,HZ]at U;have⟨y,hy,rfl⟩:=mS U;have h1:(ys.map λp=>p.1)[i]?=Z y.1:=by rw[HZ,hy];rfl
   have h2:(ys.map λp=>p.1)[i]?=Z i:=by rw[e3];simp[show i<sm.length by lia]
   have hfi:y.1=i:=by rw[h1]at h2;exact JU h2
   have hq:=Lz y (Il hy);rw[hfi]at hq;have:=xl hq hp;exact⟨p.toNat,Θ,by simp;lia⟩
  .have hi2:i=ys.length:=by have:=af U;simp at this;lia
   subst hi2;simp at U;subst U;exact hp.elim
 .have s1:=dX (i:=3) (D:=[Z (.g S),Z (.g (O7 bx cs ss inc)),Z (.g (av O)),J]) (ch:=ch) (bh (src:=[J,Z 0,Z 1]) (fi:=iR 1 (G3 (eB .v HE.g (G3 (eV 0) He)) He)) (di (cw (by simp! only[];simp[lent,vw,vws,lS,fin,T.d])) (aH Θ)) rfl e1 (by rw[HN,Ih];lia)) rfl;have ad:=GH (l:=ys.map λp=>p.2.d) (d:=.t [.str "end",av O]) (by simp;lia);have ra:e2 .v Hs.g (eB .v Lv.g (G3 (eV 3) He)) (Je (G3 (Je (G3 (eK (.str "end")) (G3 (eV 2) He))) He)) [Z (.g S),Z (.g (O7 bx cs ss inc)),Z (.g (av O)),Z (.g (.e (ys.map λp=>p.2.d)))] ch=Z (.g (.t ((ys.map λp=>p.2.d)++[.t [.str "end",av O]])),ch):=pW (x:=.g (.t (ys.map λp=>p.2.d))) (y:=.g (.t [.t [.str "end",av O]])) rfl rfl rfl rfl ad;have hp:JI cs ss (ys.map (·.2)++[.fin O])=.t [.t (cs.map Hd.d),.t (ss.map Hd.d),.t ((ys.map λp=>p.2.d)++[.t [.str "end",av O]])]:=by simp[Rw.d,IJ]
  rw[hp,<- hS,q8];refine f7 (bc s1 (jT (jS ?_ rfl)));have r1:eB .v Lv.g (G3 (HR (eV 1) (eK (.int 1))) He) [Z (.g S),Z (.g (O7 bx cs ss inc)),Z (.g (av O)),Z (.g (.e (ys.map λp=>p.2.d)))] ch=Z (.g (.t (cs.map Hd.d)),ch):=rfl;have r2:eB .v Lv.g (G3 (HR (eV 1) (eK (.int 2))) He) [Z (.g S),Z (.g (O7 bx cs ss inc)),Z (.g (av O)),Z (.g (.e (ys.map λp=>p.2.d)))] ch=Z (.g (.t (ss.map Hd.d)),ch):=rfl;exact GK (ds:=[.t (cs.map Hd.d),.t (ss.map Hd.d),.t ((ys.map λp=>p.2.d)++[.t [.str "end",av O]])]) (dv r1 (dv r2 (cw ra))) (by rw[Ih];simp)
def qD(n:Int)(hn:xs.Nodup)(hl:xs.length<=6):∃bs:B Str,(bs.Nodup/\bs.length<=6/\∀s∈bs,s∈xs)/\F9 [I n,.g (.e (xs.map .str))] ch=Z (.g (.t (bs.map .str)),ch):=by
 obtain⟨X,hX⟩:∃X:Dt,X=.e (xs.map .str):=⟨_,rfl⟩;have lX:HE.g [X]=Z (.f (.int xs.length)):=by rw[hX];simp[HE,ic]
 have xX:∀k:Nat,k<xs.length->ixV ch (.g X) (.int k)=Z (.g (.str (xs.getD k Ov))):=λk hk=>by rw[hX];show(Iw _ _).map CV.g=_;rw[ixS hk];rfl
 obtain⟨q,hq⟩:∃q:Nat->Bool,q=λi:Nat=>decide (WC (n/2^((0+(i:Int)).toNat)) 1=1):=⟨_,rfl⟩
 have e1:=cb (pt:=.one 0) (ft:=gw (e2 .v KH.g (e2 .v Nq.g (e2 .v PF.g (eV 2) (eV 0)) (eK (.int 1))) (eK (.int 1)))) (fe:=HR (eV 1) (eV 0)) (D:=[J,Z (.g X),Z (I n)]) (ch:=ch) (f:=λi:Nat=>.int (0+(i:Int))) (g:=λi:Nat=>.str (xs.getD i Ov)) (p:=q) (l:=Ir xs.length) λi hi=>by
  refine⟨[Z (I (0+(i:Int))),Z (.g X),Z (I n)],rfl,?_,λ_=>?_⟩
  .rw[hq];show _=Z (decide (WC (n/2^((0+(i:Int)).toNat)) 1=1),ch);have h0:(0:Int)<=0+(i:Int):=by lia
   generalize (0:Int)+(i:Int)=z at h0 ⊢;simp! only[];simp[lent,vw,fin,T.d,eQ,PF,zo,h0,Nq,rJ,KH,MR,QV]
  .rw[MK];simp! only[];simp[lent,vw,xX i (KF.mp hi)]
 obtain⟨ys,O⟩:∃ys:B Str,ys=((Ir xs.length).filter q).map λi=>xs.getD i Ov:=⟨_,rfl⟩
 have U:ys.Nodup:=by rw[O];exact oO hn (List.Pairwise.filter _ R5) λi hi=>KF.mp (Nx.mp hi).1
 have hyl:ys.length<=6:=by rw[O,HN];have:=zd3 q (Ir xs.length);rw[V4]at this;lia
 have W:aF (Hq (.one 0)) (gw (e2 .v KH.g (e2 .v Nq.g (e2 .v PF.g (eV 2) (eV 0)) (eK (.int 1))) (eK (.int 1)))) (HR (eV 1) (eV 0)) [J,Z (.g X),Z (I n)] (au 0 xs.length) ch=Z ((ys.map .str).map .g,ch):=by rw[O,IV,IV];exact e1
 have hco:=bh (src:=[J,Z 1,Z 0]) (D:=[Z (I n),Z (.g X)]) (fi:=iR 1 (G3 (eB .v HE.g (G3 (eV 1) He)) He)) (di (cw (by simp! only[];simp[lent,vw,vws,lX,fin,T.d])) (aH Θ)) rfl W (by rw[HN,Ih];lia)
 have hsr:PJ.g [.e (ys.map .str)]=Z (.e ((dH ys).map .str)):=by rwa[PJ,gH,eh,G8,show ys.length<64 by lia,if_true]
 refine⟨dH ys,⟨(bV ys).nodup_iff.mpr U,by rw[(bV ys).length_eq];exact hyl,λs hs=>?_⟩,?_⟩
 .have:=(bV ys).mem_iff.mp hs;rw[O]at this;have⟨i,hi,rfl⟩:=HG.mp this;have hl:=KF.mp (Nx.mp hi).1;rw[KS,gQ hl];exact P2 hl
 rw[<- hX,q9];refine f7 (jT (jS ?_ rfl));have h1:=xk (m:=.v) (g:=PJ.g) (ds:=[.e (ys.map .str)]) (cw hco) hsr;exact xk (m:=.v) (g:=Lv.g) (ds:=[.e ((dH ys).map .str)]) (cw h1) rfl
end
variable{s0 s1:ζ CV}{st:Int}
section
variable{ch:CH}
def GL(r:Rw):∃k l,r.d=.t (.str k::l):=by cases r<;>exact⟨_,_,rfl⟩
abbrev Zb:Fs:=HL (aq gc Vr) (foB XE.b)
abbrev kE(s0 s1:ζ CV)(X RR V:Dt)(st:Int)(l:B Dt)(a:ζ CV):Sl:=[s0,s1,Z (.g X),Z (.g RR),Z (.g V),Z (I st),Z (.own C (.e l)),a]
theorem GM{O V X:Dt}{x v:Int}{l:B Dt}{k:Str}{HF:B Dt}{bs:B Str}(h3:ixV ch (.g O) (.int x)=Z (.g (.t (.str k::HF))))(h4:ixV ch (.g V) (.int (x+1))=Z (I v))(U:0<st)(hb:F9 [I (v/30),.g X] ch=Z (.g (.t (bs.map .str)),ch))(hl:l.length<=1000):(k≠Jv "end"/\Zb (kE s0 s1 X O V st l (Z (I x))) ch=Z (.nx (kE s0 s1 X O V st l (Z (I x))) ch))\/Zb (kE s0 s1 X O V st l (Z (I x))) ch=Z (.nx (kE s0 s1 X O V st (l++[.t [.int x,.t (bs.map .str)]]) (Z (I x))) ch):=by
 have W:=ix0 (ch:=ch) (d:=.str k) (l:=HF);have ap:=Gg (ch:=ch) (D:=kE s0 s1 X O V st l (Z (I x))) (i:=6) (l:=l) (d:=.t [.int x,.t (bs.map .str)]) rfl (by rw[Ih];lia);have e:KH.g (.str k) (.str "end")=Z (.f (.bl (decide (k=Jv "end")))):=rfl;by_cases h1:k=Jv "end"
 .rw[decide_eq_true h1]at e;exact .inr (K6 (.c 0 h3 (.c 0 W (.t 0 e (.c 0 h4 (.v 0 hb (.o 0 ap .nil)))))))
 .rw[decide_eq_false h1]at e;by_cases h2:v%st=0
  .exact .inr (K6 (.c 0 h3 (.c 0 W (.t 0 e (.c 0 h4 (.t 0 (KC h2 U) (.c 0 h4 (.v 0 hb (.o 0 ap .nil)))))))))
  .exact .inl ⟨h1,K6 (.c 0 h3 (.c 0 W (.t 0 e (.c 0 h4 (.t 0 (KC (v:=v) rfl U) (.t 0 (Mb (decide_eq_false h2)) .nil))))))⟩
theorem iW{s0 s1:ζ CV}{R:B Rw}{vs:B Int}(Rr:0<st)(hv:R.length+2<=vs.length)(hn:xs.Nodup)(hx:xs.length<=6)(hR:R.length<=101):∀{js:B Nat}{ks:B Ja}{a7:ζ CV},(∀j∈js,j<R.length)->(ks.map (·.1)++js.map λj:Nat=>(j:Int)).Nodup->(∀k∈ks,k.2.Nodup/\k.2.length<=6/\∀s∈k.2,s∈xs)->ks.length+js.length<=101->∃(O:B Ja)(W:ζ CV),bJ (Hq (.one 7)) Zb (js.map λj:Nat=>.int (0+(j:Int))) (kE s0 s1 (.e (xs.map .str)) (.t (R.map Rw.d)) (.e (vs.map .int)) st (ks.map Ja.d) a7) ch=Z (.nx (kE s0 s1 (.e (xs.map .str)) (.t (R.map Rw.d)) (.e (vs.map .int)) st (O.map Ja.d) W) ch)/\(O.map (·.1)).Nodup/\(∀k∈O,k.2.Nodup/\k.2.length<=6/\∀s∈k.2,s∈xs)/\(∀k∈ks,k∈O)/\∀j∈js,∀q,R[j]?=Z (.fin q)->(j:Int)∈O.map (·.1)
 |[],ks,a7,_,hd,hk,_=>⟨ks,a7,rfl,‹hd›,hk,λ_ h=>h,λ_ h=>nomatch h⟩
 |j::js,ks,a7,hj,hd,hk,hl=>by
  rwa[JK]at hl;have U8:=hj j (.head _);have⟨k,HF,hr⟩:=GL R[j]
  have h3:ixV ch (.g (.t (R.map Rw.d))) (.int (0+(j:Int)))=Z (.g (.t (.str k::HF))):=by rw[MK];show(Iw _ _).map CV.g=_;rw[(gU (L:=R.map Rw.d) (i:=j) (d:=R[j].d) (by rw[HZ,gQ U8];rfl)).2,hr];rfl
  have h4:ixV ch (.g (.e (vs.map .int))) (.int (0+(j:Int)+1))=Z (I (vs.getD (j+1) 0)):=by rw[show(0:Int)+(j:Int)+1=((j+1:Nat):Int)by push_cast;lia];show(Iw _ _).map CV.g=_;rw[PV Θ];rfl
  have⟨bs,hbs,hb⟩:=qD (ch:=ch) (vs.getD (j+1) 0/30) hn hx;rcases GM (s0:=s0) (s1:=s1) (l:=ks.map Ja.d) h3 h4 Rr hb (by simp;lia)with ⟨ne,e⟩|e
  .have⟨O,W,i1,i2,i3,i4,i5⟩:=iW (s0:=s0) (s1:=s1) Rr hv hn hx hR (js:=js) (ks:=ks) (a7:=Z (I (0+(j:Int)))) (λi hi=>hj i (.tail _ hi)) (by rw[Le]at hd ⊢;refine⟨hd.1,?_,λa ha b hb=>hd.2.2 a ha b (by simp at hb ⊢;exact .inr hb)⟩;have:=hd.2.1;rw[Hz,Jr]at this;exact this.2) hk Θ
   refine⟨O,W,M0 (aY rfl e) i1,i2,i3,i4,λm hm q U=>?_⟩;rcases IE.mp hm with rfl|hm
   .rw[gQ U8]at U;rw[JU U]at hr;cases hr;exact absurd rfl ne
   .exact i5 m hm q U
  .have hks:ks.map Ja.d++[.t [.int (0+(j:Int)),.t (bs.map .str)]]=(ks++[((0+(j:Int),bs):Ja)]).map Ja.d:=by simp[Ja.d]
   rw[hks]at e
   have⟨O,W,i1,i2,i3,i4,i5⟩:=iW (s0:=s0) (s1:=s1) Rr hv hn hx hR (js:=js) (ks:=ks++[((0+(j:Int),bs):Ja)]) (a7:=Z (I (0+(j:Int)))) (λi hi=>hj i (.tail _ hi)) (by rw[MK];simpa[NM] using hd) (λq U=>by rcases JC.mp U with U|U;exact hk q U;simp at U;subst U;exact hbs) (by simp;lia)
   refine⟨O,W,M0 (aY rfl e) i1,i2,i3,λk hk=>i4 k (JC.mpr (.inl hk)),λm hm q U=>?_⟩;rcases IE.mp hm with rfl|hm
   .exact HG.mpr ⟨_,i4 _ (JC.mpr (.inr (.head _))),MK _⟩
   .exact i5 m hm q U
def zZ{l:B Int}(h:0<l.length):∃v,ixV ch (.g (.e (l.map .int))) (.int (-1))=Z (I v):=by
 have:Ji (l.map Dt.int) (-1)=Z (.int (l.getD (l.length-1) 0)):=by unfold Ji KI;rw[if_neg Ω,HN,if_pos Θ,G8,show((-1:Int)+(l.length:Int)).toNat=l.length-1 by lia,HZ,gQ Θ,KS,gQ Θ];rfl
 refine⟨l.getD (l.length-1) 0,?_⟩;show(Iw _ _).map CV.g=_;simp[Iw,bG,My,this]
def Eb{cs:B Hd}{R:B Rw}{xs:B Str}(c:Int)(hn:xs.Nodup)(hx:xs.length<=6)(hR:0<R.length/\R.length<=98):∃bg ks,(bg.Nodup/\bg.length<=6)/\(ks.map (·.1)).Nodup/\(∀k∈ks,k.2.Nodup/\k.2.length<=6/\∀s∈k.2,s∈xs)/\(∀(i:Nat) q,R[i]?=Z (.fin q)->(i:Int)∈ks.map (·.1))/\F10 [.g (JI cs ss R),I c,.g (.e (xs.map .str))] ch=Z (.g (NK bg ks),ch):=by
 have⟨vs,O5,PB,RM⟩:=dE (ch:=ch) c (R.length+2) Θ
 have h0:ixV ch (.g (.e (vs.map .int))) (.int 0)=Z (I (vs.getD 0 0)):=by show(Iw _ (.int ((0:Nat):Int))).map CV.g=_;rw[PV Θ];rfl
 obtain⟨st,j,U,hq,W⟩:∃st j:Int,0<st/\vs.getD 0 0%3=j/\ixV ch (.g (.e [.int 2,.int 3,.int 5])) (.int j)=Z (I st):=by
  rcases(show vs.getD 0 0%3=0\/vs.getD 0 0%3=1\/vs.getD 0 0%3=2 by lia)with q|q|q
  .exact⟨2,0,Ω,q,rfl⟩
  .exact⟨3,1,Ω,q,rfl⟩
  .exact⟨5,2,Ω,q,rfl⟩
 have⟨ks,a7,k1,k2,k3,_,k5⟩:=iW (ch:=ch) (s0:=Z (.g (JI cs ss R))) (s1:=Z (I c)) (R:=R) (vs:=vs) (xs:=xs) U Θ hn hx Θ (js:=Ir R.length) (ks:=[]) (a7:=J) (λj W=>KF.mp W) (by rwa[Mi,V7];exact Pc _ (λa b h q=>h Θ) R5) Ξ (by simp;lia)
 have⟨v,hv⟩:=zZ (ch:=ch) (l:=vs) Θ;have⟨bg,O,hb⟩:=qD (ch:=ch) v hn hx;have lR:HE.g [.t (R.map Rw.d)]=Z (.f (.int R.length)):=by simp[HE,ic]
 have s5:=ay (fi:=iR 1 (G3 (eB .v HE.g (G3 (eV 3) He)) He)) (pt:=.one 7) (g:=Zb) (ds:=au 0 R.length) (di (cw (xk (m:=.v) (D:=kE (Z (.g (JI cs ss R))) (Z (I c)) (.e (xs.map .str)) (.t (R.map Rw.d)) (.e (vs.map .int)) st [] J) (ds:=[.t (R.map Rw.d)]) (cw rfl) lR)) (aH Θ)) k1;exact⟨bg,ks,⟨O.1,O.2.1⟩,k2,k3,λi q h=>k5 i (KF.mpr (af h)) q h,xR (.t 0 lR (.v 0 O5 (.c 0 h0 (.t 0 (KC hq Ω) (.c 0 W (.o 0 s5 (.c 0 hv (.v 0 hb .nil))))))))⟩
end
section
variable{cs ss:B Hd}{R:B Rw}{bg:B Str}{ks:B Ja}{inc:B Dt}{nm:B Str}
def AZ(P:Pr cs ss R bg ks inc nm):((Hk ss).map (·.1)).Nodup:=by
 have e:(Hk ss).map (·.1)=ss.map (·.1):=by simp[Hk,IJ]
 rw[e];exact(bX P).2.1
def iX(P:Pr cs ss R bg ks inc nm){h:Hd}(hh:h∈cs++ss):aU (fx cs ss R ks inc) h.1=h.2.2:=by
 have inj:∀{l:B Hd}{q:Hd},(l.map (·.1)).Nodup->h∈l->q∈l->q.1=h.1->q=h:=λ{l}=>by
  induction l with
  |nil=>intro q _ h1;cases h1
  |cons r l ih=>
   intro q hn h1 h2 e;have O:=Jr.mp hn;rcases IE.mp h1 with e1|U<;>rcases IE.mp h2 with e2|W
   .rw[e1,e2]
   .exact(O.1 (HG.mpr ⟨q,W,by rw[e,e1]⟩)).elim
   .exact(O.1 (HG.mpr ⟨h,U,by rw[<- e,e2]⟩)).elim
   .exact ih O.2 U W e
 have e:aU (fx cs ss R ks inc) h.1=((cs++ss).filter λh=>h.2.2).any λq=>decide (q.1=h.1):=by show List.any (((cs++ss).filter λh=>h.2.2).map λh=>Dt.str h.1) (λy=>Rh y (.str h.1))=_;rw[List.any_map];rfl
 rw[e];cases t:h.2.2 with
 |true=>exact List.any_eq_true.mpr ⟨h,Nx.mpr ⟨hh,t⟩,Ξ⟩
 |false=>rw[List.any_eq_false];intro q hq w;have⟨h1,h2⟩:=Nx.mp hq;have:=inj P.nd hh h1 (of_decide_eq_true w);rw[this,t]at h2;cases h2
def GN(P:Pr cs ss R bg ks inc nm):XQ (fx cs ss R ks inc) R (cs.map (·.1)) (Hk ss):=by
 have X:=P.xr
 have O:∀{n:Str},n∈ss.map (·.1)->oA (fx cs ss R ks inc) (Hk ss) n:=λ{n} h=>by have⟨a,W,rfl⟩:=HG.mp h;have⟨k,hk⟩:=iU W;have hv:=P.sv a W;refine⟨k,a.2.1.toNat,by simp[Hk,hk],Θ,?_⟩;rw[show((a.2.1.toNat:Nat):Int)=a.2.1 by lia];exact oN (bX P).2.1 hk
 refine⟨(AZ P),λn hn U=>?_,P.inc,rfl,X.Nu,λr hr=>?_⟩
 .have e:(Hk ss).map (·.1)=ss.map (·.1):=by simp[Hk,IJ]
  rw[e]at U;have⟨h,hh,rfl⟩:=HG.mp U;exact(bX P).2.2 h hh hn
 .have:=P.row r hr;cases r with
  |take x n a=>exact⟨O this.1,this.2⟩
  |lay n a b=>exact⟨O this.1,this.2⟩
  |IZ x=>trivial
  |K8 x t=>trivial
  |go t=>trivial
  |_=>exact this
def a0(cs:B Hd):AM:=⟨0,0,0,[],λ_=>0,f0 cs⟩
def l0(bg:B Str):LS:=⟨0,0,0,0,0,JG (bg.map λs=>(s,0)),[]⟩
def bv0{s:Str}:bv (JG (bg.map λs=>(s,0))) 0 s=0:=by
 show iv 0 _=0;cases q:ah ((JG (bg.map λs=>((s,0):Bx))).map (·.1)) ((JG (bg.map λs=>((s,0):Bx))).map (·.2)) (JM s)with
 |none=>rfl
 |some d=>have:=aA q;rwa[JG,IV,HG]at this;have⟨t,_,e⟩:=this;cases e;rfl
abbrev slP(cs ss:B Hd)(R:B Rw)(inc:B Dt):Sl:=[Z (.ref 0),Z (.g (JI cs ss R)),Z (.g (.e inc))]
def GO(P:Pr cs ss R bg ks inc nm):∃η Y,Qx [.ref 0,.g (JI cs ss R),.g (.e inc)] [.ins 4 []]=Z (.g .ek,η)/\At Y (pn (Hk ss) ⟨fx cs ss R ks inc,[],[],JG (cs.map λh=>(h.1,h.2.1)),0,0,0,.ek⟩ (MZ ss)) η/\Y 0=0:=by
 have hnc:=(bX P).1;have W:=(bX P).2.1;have hl:=P.len;let f:B CV:=[.g (.t (R.map Rw.d)),.g (.e (jf 0 R)),.g (.e inc),.ref 1,.ref 2];obtain⟨K,hK⟩:∃K:CO,K=.dK (dp (JG (cs.map λh=>(h.1,h.2.1)))):=⟨_,rfl⟩;have w:=qw (cs:=cs) (ss:=ss) (ch:=[.ins 4 (f.take 1)]) P.rl.2
 have c:L9 .o (Jj .v [J] (iE (HR (eV 1) (eK (.int 0)))) (Hq (.one 0)) IN (Je (G3 h0 (G3 h1 He)))) (slP cs ss R inc) [.ins 4 f,.e [],.dK []]=Z (.ref 3,[.ins 4 f,.e [],.dK [],K]):=by
  have O:(cs.map λh=>((h.1,h.2.1):Bx)).map (·.1) |>.Nodup:=by simpa[IJ] using hnc
  rw[AV (w9 (D:=slP cs ss R inc) rfl Θ) O,vR (lx O),hK];rfl
 have s:=wY (D:=slP cs ss R inc) (ch:=[.ins 4 (f++[.ref 3]),.e [],.dK [],K]) rfl P.s0 Θ W (λh hh=>by have:=P.sv h hh;lia);have U:Qx [.ref 0,.g (JI cs ss R),.g (.e inc)] [.ins 4 []]=Z (.g .ek,.ins 4 (f++[.ref 3,.ref (4+2*ss.length+1),I 0,I 0,I 0,.g .ek])::.e []::.dK []::K::(KD 4 (sP ss)++[.e (JP 5 ss.length)]++[.dK (Ix 4 (sP ss))])):=xR (.v 0 w (.v 1 c (.v 0 s .nil)));obtain⟨H,hH⟩:∃H:CH,H=KD 4 (sP ss)++[.e (JP 5 ss.length)]++[.dK (Ix 4 (sP ss))]:=⟨_,rfl⟩;rw[<- hH]at U;refine⟨_,λi=>if i<4 then i else if i=4 then 4+2*ss.length+1 else 4+2*(i-5),U,?_,rfl⟩;refine⟨λi j hi hj e=>?_,λ{i o} hi=>?_⟩
 .rw[ej]at hi hj;have:(MZ ss).length=ss.length:=by simp[MZ]
  split at e<;>split at e<;>(try split at e)<;>(try split at e)<;>lia
 .rcases i with _|_|_|_|_|i
  .cases hi;rfl
  .cases hi;rfl
  .cases hi;rfl
  .cases hi;show Z K=_;rw[hK];rwa[Ho,ee]
  .cases hi;show(_::_::_::_::H)[4+2*ss.length+1]?=_;rw[show 4+2*ss.length+1=2*ss.length+1+1+1+1+1 by lia];rwa[KU];rw[hH,P0 (by simp[aG])];rwa[Kj,aG,HN,V2,Nat.sub_self,R0,Ho];unfold Hk;rw[fC (vl:=λh:Hd=>I0 h.2.1.toNat (.int 0)) (n:=4)];intro k hk;rw[if_neg Θ,if_neg Θ];lia
  .have hi:(MZ ss)[i]?=Z o:=hi;rwa[MZ,HZ]at hi;have⟨h,h1,rfl⟩:=mS hi;have hb:=(iT (n:=4) (ps:=sP ss) (k:=i) (p:=(h.1,I0 h.2.1.toNat (.int 0))) (by rw[HZ,h1];rfl)).1;rw[if_neg Θ,if_neg Θ,jW,show 4+2*(i+1+1+1+1+1-5)=2*i+1+1+1+1 by lia];rwa[KU];rw[hH,NM,gL (af hb)];exact hb
abbrev RU(cs ss:B Hd)(R:B Rw)(ks:B Ja)(inc:B Dt):PN:=⟨fx cs ss R ks inc,[],[],JG (cs.map λh=>(h.1,h.2.1)),0,0,0,.ek⟩
def xm(P:Pr cs ss R bg ks inc nm):∃η Y,Qx [.ref 0,.g (JI cs ss R),.g (.e inc)] [.ins 4 []]=Z (.g .ek,η)/\At Y (pn (Hk ss) (RU cs ss R ks inc) (ab (Hk ss) (f0 cs))) η/\Y 0=0:=by rw[AW P];exact GO P
theorem xn:∀{cs:B Hd}{h:Hd},(cs.map (·.1)).Nodup->h∈cs->ah ((JG (cs.map λh=>((h.1,h.2.1):Bx))).map (·.1)) ((JG (cs.map λh=>((h.1,h.2.1):Bx))).map (·.2)) (JM h.1)=Z (.int h.2.1)
 |[],_,_,h=>by cases h
 |b::cs,a,U,h=>by
  have O:=Jr.mp U;rwa[JG,Hz,ah,OI];rcases IE.mp h with e|m
  .rw[if_pos (by rw[e]),e]
  .rw[if_neg (λe=>O.1 (HG.mpr ⟨a,m,e.symm⟩))];exact xn O.2 m
def GQ(P:Pr cs ss R bg ks inc nm):PA (fx cs ss R ks inc) (cs.map (·.1)) 310 (RU cs ss R ks inc) (a0 cs):=⟨rfl,rfl,by simp[a0],rfl,Ξ,Ξ,λn U=>by have⟨h,O,rfl⟩:=HG.mp U;show _=Z (Dt.int (f0 cs h.1 0));rw[D8 (bX P).1 O];exact xn (bX P).1 O,by have:=P.len;simp[JG];lia,rfl,rfl,Int.le_refl 0,rfl,VV P.cv⟩
def Ec(P:Pr cs ss R bg ks inc nm)(ch:CH):∃(L:CH)(M:Nat->Nat),M 0=ch.length/\(∀i,ch.length<=M i)/\At M (pn (Hk ss) (RU cs ss R ks inc) (ab (Hk ss) (f0 cs))) (ch++L)/\∀(fs:FM (B CV))(D:Sl),fs D ch=Z ([.g (JI cs ss R),.g (.e inc)],ch)->MB 4 3 Qx fs D ch=Z (.ref ch.length,ch++L):=by
 have⟨η,Y,O,k2,U⟩:=xm P;have W:0<η.length:=by have:=k2.lt (i:=0) (by rw[ej];lia);lia
 refine⟨η.map (Ho (ch.length + ·)),λi=>ch.length+Y i,by show ch.length+Y 0=_;rw[U];rfl,λi=>Nat.le_add_right _ _,At.comp lw k2,λfs D h=>?_⟩;exact gJ (F:=Qx) (c:=4) (n:=3) (ds:=[JI cs ss R,.e inc]) (aj _) h rfl O W
def Ed:∀q∈Ig cs ss,q∈aw cs ss:=λq O=>by
 rcases JC.mp O with h|h
 .have⟨c,hc,rfl⟩:=HG.mp h;exact JC.mpr (.inl (HG.mpr ⟨c,(Nx.mp hc).1,rfl⟩))
 .have⟨c,hc,h⟩:=P3.mp h;exact JC.mpr (.inr (P3.mpr ⟨c,(Nx.mp hc).1,h⟩))
theorem A0{n:Str}{m:Int}:∀{ss:B Hd},(ss.map (·.1)).Nodup->ah (ss.map λh=>(JM h.1:rb)) (ss.map λh=>.int h.2.1) (JM n)=Z (.int m)->∃t,(ss.filter λq=>decide (q.1=n))=[(n,m,t)]
 |[],_,h=>by cases h
 |c::ss,W,h=>by
  have O:=Jr.mp W;rwa[Hz,ah,OI]at h;by_cases e:c.1=n
  .rw[if_pos e]at h;have h3:c.2.1=m:=by injection (JU h)
   refine⟨c.2.2,?_⟩
   rw[za1 ‹e›,zb7.mpr λd U=>by intro z;exact O.1 (by show c.1∈_;rw[e,<- of_decide_eq_true z];exact HG.mpr ⟨d,U,rfl⟩)]
   rw[<- e,<- h3]
  .rw[if_neg e]at h;have⟨t,ht⟩:=A0 O.2 h;exact⟨t,by rw[za2 ‹e›];exact ht⟩
def A6(P:Pr cs ss R bg ks inc nm):Tk (fx cs ss R ks inc) cs ss:=by
 have w:=AX P;have tn:=DW w.pn;refine⟨tn,Ed,λn p h=>?_,λn m h=>?_,AZ P,by have:=P.len;lia,?_⟩
 .have key:∀c∈cs++ss,c.1=n->(((n,p):Hv)∈Ig cs ss↔c.2.2=C):=λc hc e=>by
   constructor
   .intro U
    obtain⟨d,O,e2,t⟩:∃d∈cs++ss,d.1=n/\d.2.2=C:=by
     rcases JC.mp U with h|h
     .have⟨d,O,e⟩:=HG.mp h;have⟨d1,d2⟩:=Nx.mp O;exact⟨d,JC.mpr (.inl d1),congrArg NN e,d2⟩
     .have⟨d,O,h⟩:=P3.mp h;have⟨d1,d2⟩:=Nx.mp O;have⟨_,_,e⟩:=HG.mp h;exact⟨d,JC.mpr (.inr d1),congrArg NN e,d2⟩
    rw[<- iX P hc,e,<- e2,iX P O];exact t
   .intro t;rcases JC.mp h with h|h
    .have⟨d,O,e2⟩:=HG.mp h;have t':d.2.2=C:=by rw[<- iX P (JC.mpr (.inl O)),congrArg NN e2,<- e,iX P hc];exact t
     exact JC.mpr (.inl (HG.mpr ⟨d,Nx.mpr ⟨O,t'⟩,e2⟩))
    .have⟨d,O,h⟩:=P3.mp h;have⟨i,hi,e2⟩:=HG.mp h;have t':d.2.2=C:=by rw[<- iX P (JC.mpr (.inr O)),congrArg NN e2,<- e,iX P hc];exact t
     exact JC.mpr (.inr (P3.mpr ⟨d,Nx.mpr ⟨O,t'⟩,HG.mpr ⟨i,hi,e2⟩⟩))
  obtain⟨c,hc,e⟩:∃c∈cs++ss,c.1=n:=by
   rcases JC.mp h with h|h
   .have⟨d,O,e2⟩:=HG.mp h;exact⟨d,JC.mpr (.inl O),congrArg NN e2⟩
   .have⟨d,O,h⟩:=P3.mp h;have⟨_,_,e2⟩:=HG.mp h;exact⟨d,JC.mpr (.inr O),congrArg NN e2⟩
  rw[key c hc e,<- e,iX P hc]
 .exact A0 (bX P).2.1 h
 .exact P9 Os.length_le (wK w)
omit x in
theorem xo:∀{ks:B Ja}{i:Int},i∈ks.map (·.1)->(ah (ks.map λk=>(JT k.1:rb)) (ks.map λk=>.t (k.2.map .str)) (JT i)).isSome=C
 |[],_,h=>by cases h
 |k::ks,i,h=>by
  rwa[Hz,ah,TC];split
  .rfl
  .rename_i O;exact xo ((IE.mp h).resolve_left λe=>O e.symm)
def GR(P:Pr cs ss R bg ks inc nm)(O:∀(i:Nat) q,R[i]?=Z (.fin q)->(i:Int)∈ks.map (·.1)):Kn (fx cs ss R ks inc) R (JH cs++Hk ss) nm cs ss:=⟨P.xr,GN P,AX P,A6 P,λi q h=>xo (O i q h)⟩
abbrev MC(cs ss:B Hd)(R:B Rw)(bg:B Str)(ks:B Ja)(inc:B Dt):HS:={VW cs ss R bg ks inc with mu:=[]}
def z0(P:Pr cs ss R bg ks inc nm):HA (JH cs++Hk ss) 10 (MC cs ss R bg ks inc) (l0 bg) (f0 cs) (a0 cs):=by refine⟨rfl,rfl,rfl,Int.le_refl 0,rfl,rfl,funext λs=>bv0,λp hp=>?_,by have:=P.bn.2;simp[l0,JG];lia,by simp[l0],by simp[l0],by simp[l0],rfl,VV P.cv,rfl,by simp[a0]⟩;rwa[l0,JG,IV,HG]at hp;have⟨t,_,rfl⟩:=hp;exact RH.i
def z6 (P:Pr cs ss R bg ks inc nm):∃ (L ρ b:CH) (p:Nat),
  (∀(fs:FM (B CV))(D:Sl),fs D []=Z ([.g (JI cs ss R),.g (NK bg ks),.g (.e inc)],[])->MB 3 4 Qw fs D []=Z (.ref 0,L))∧
  (∀(fs:FM (B CV))(D:Sl),fs D L=Z ([.g (JI cs ss R),.g (.e inc)],L)->MB 4 3 Qx fs D L=Z (.ref p,ρ))∧
  (∃q,ρ[0]?=Z (.ins 3 q))/\O0 [.ref 0] ρ=Z (.g .ek,b)∧
  Wm (JH cs++Hk ss) (Hk ss) 0 p (MC cs ss R bg ks inc) (Z (l0 bg)) (f0 cs) (RU cs ss R ks inc) (f0 cs) [] [] b:=by
 have⟨L,M,⟨A1,z1⟩,m1⟩:=D9 P;have⟨ρ,Y,z2,l2,A2,m2⟩:=Ec P L
 have U:Wm (JH cs++Hk ss) (Hk ss) 0 L.length (VW cs ss R bg ks inc) J (f0 cs) (RU cs ss R ks inc) (f0 cs) [] [] (L++ρ):=⟨M,Y,iM A1 ρ,A2,λi j hi hj e=>by have h1:M i<L.length:=A1.lt hi;have:=l2 j;lia,(λz hz=>by cases hz),(λz hz=>by cases hz),Tc,rfl,(λk z o q=>by cases q),z1,z2⟩
 have⟨S',Jg,g',b,⟨e1,O,e3⟩,c,W⟩:=U.MY (ds:=[]) (aj _) (Gd (sh:=JH cs++Hk ss) (S:=VW cs ss R bg ks inc) (g:=f0 cs) rfl rfl (by show((bg.map λs=>((s,0):Bx)).map (·.1)).Nodup;simpa[IJ] using P.bn.1))
 subst e1;subst O;subst e3;exact⟨L,L++ρ,b,L.length,m1,m2,U.h1,c,W⟩
theorem GU(P:Pr cs ss R bg ks inc nm){p:Nat}{b:CH}(W:Wm (JH cs++Hk ss) (Hk ss) 0 p (MC cs ss R bg ks inc) (Z (l0 bg)) (f0 cs) (RU cs ss R ks inc) (f0 cs) [] [] b):F51 [.g (JI cs ss R)] b=Z (.ref b.length,b++[.dT (dp (lz (Ig cs ss) (f0 cs)))])/\Go (fx cs ss R ks inc) R (JH cs++Hk ss) cs ss 0 p b.length (b++[CO.dT (dp (lz (Ig cs ss) (f0 cs)))]).length 10 (MC cs ss R bg ks inc) (l0 bg) (f0 cs) (RU cs ss R ks inc) (a0 cs) (b++[.dT (dp (lz (Ig cs ss) (f0 cs)))]++[.dT []]):=by have K:=A6 P;refine⟨wH (rw:=.t (R.map Rw.d)) K.tn K.tl (λc hc=>D8 (bX P).1 hc) (λc hc=>⟨λp=>VU ((bX P).2.2 c hc),by have:=P.sv c hc;lia,by have:=P.sv c hc;lia⟩),z0 P,⟨rfl,rfl⟩,rfl,GQ P,rfl,P.rl.1,λ_=>rfl,?_⟩;exact(W.new (.dT (dp (lz (Ig cs ss) (f0 cs))))).new (.dT [])
end
def Ee{α:Type}(f:α->Dt)(l:B α)(a c:Nat):∃m:B α,Ng (.e (l.map f)) (Z (a:Int)) (Z (c:Int))=Z (.e (m.map f))/\m.length<=c-a:=by
 refine⟨(l.drop (min a (l.map f).length)).take (min c (l.map f).length-min a (l.map f).length),?_,?_⟩
 .show Z (T.e (((l.map f).drop (HT.Jx (l.map f).length 0 (Z (a:Int)))).take (HT.Jx (l.map f).length (l.map f).length (Z (c:Int))-HT.Jx (l.map f).length 0 (Z (a:Int)))))=_;rw[HT.GX,HT.GX,V8,List.map_drop]
 .refine JS (List.length_take_le _ _) ?_;rcases Nat.le_total a (l.map f).length with h|h
  .rw[Zv h];exact Nat.sub_le_sub_right (Nat.min_le_left _ _) _
  .rw[Nat.min_eq_right h,zc7 (Nat.min_le_right _ _)];exact Ml _
def main(ns:B Int)(hns:ns.length<=63):∃G0,FF gc t83 [.g (.e (ns.map .int))] []=Z (.g (.bl C),G0):=by
 have⟨bx,cs,ss,inc,W,hw⟩:=xj (ch:=[]) ns;have⟨c0,g0⟩:=dD (ch:=[]) ns 0;have⟨c3,g3⟩:=dD (ch:=[]) ns 3;have⟨c4,g4⟩:=dD (ch:=[]) ns 4;have⟨xs,Qq,SI,hx3⟩:=ni (ch:=[]) c0;have⟨sm,MC,hs2⟩:=Ee Dt.int ns 5 30;have⟨la,hla,fla⟩:=lW (ch:=[]) (c3%2147483629) (xs:=bx) (by intro e;have:=W.b4;rw[e]at this;cases this);have⟨R,hR1,hR2,hR3,hR4,hR⟩:=zY (ch:=[]) W sm Θ la hla;have QB:Ng (.e (xs.map .str)) (Z 5) (Z 11)=Z (.e (((xs.drop 5).take (11-5)).map .str)):=qz Dt.str xs 5 11 Θ Θ;have hN6:((xs.drop 5).take (11-5)).Nodup:=(S8 _ _).nodup ((List.drop_sublist _ _).nodup hx3);have hN7:∀s∈(xs.drop 5).take (11-5),s∈xs:=λs hs=>List.mem_of_mem_drop (List.mem_of_mem_take hs)
 have⟨bg,ks,hbg,hk1,SG,hk3,hC⟩:=Eb (ch:=[]) (cs:=cs) (ss:=ss) (R:=R) c4 hN6 (by simp[SI]) ⟨hR1.1,Θ⟩;have P:Pr cs ss R bg ks (inc.map .int) xs:=⟨(by intro e;have:=W.c0.1;rw[e]at this;cases this),(by intro e;have:=W.s0.1;rw[e]at this;cases this),(by have:=W.c0.2;have:=W.s0.2;lia),W.nd,W.cv,λh hh=>(by have:=W.sv h hh;lia),hR1,hR2,hR3,hbg,hk1,λk hk=>⟨(SG k hk).1,(SG k hk).2.1,λs hs=>hN7 s ((SG k hk).2.2 s hs)⟩,λd hd=>by have⟨i,hi,rfl⟩:=HG.mp hd;exact W.inc i hi⟩;have⟨L,ρ,b,p,m1,m2,⟨hf0,h0⟩,sp0,W0⟩:=z6 P;have⟨JO,G⟩:=GU P W0;obtain⟨σ,hY⟩:∃σ:Dt,σ=.e (ns.map .int):=⟨_,rfl⟩;show ∃G0,F82 [.g (.e (ns.map .int))] []=Z (.g (.bl C),G0);rw[<- hY]at hw g0 g3 g4 MC ⊢;obtain⟨PX,Zc⟩:∃PX:Dt,PX=O7 bx cs ss inc:=⟨_,rfl⟩;have w0:∀ch,ixV ch (.g PX) (.int 0)=Z (.g (.e (bx.map .str))):=λch=>by rw[Zc];rfl
 rw[<- Zc]at hw hR
 have sl1:KN .v (eV 0) (Z (eK (.int 5))) (Z (eK (.int 30))) [Z (.g σ),Z (.g PX),Z (.g (.e (xs.map .str))),J,J,J,J,J,J,J,J] []=Z (.g (.e (sm.map .int)),[]):=by have h:Ng σ (Z 5) (Z 30)=Z (.e (sm.map .int)):=MC;rwa[KN,L8,eV,KU,R0,lent,eK,cj,vw,h,fin,T.d,G8,Iy]
 have sN:KN .v (eV 2) (Z (eK (.int 5))) (Z (eK (.int 11))) [Z (.g σ),Z (.g PX),Z (.g (.e (xs.map .str))),Z (.g (JI cs ss R)),J,J,J,J,J,J,J] []=Z (.g (.e (((xs.drop 5).take (11-5)).map .str)),[]):=by generalize Dt.e (xs.map .str)=Q at QB ⊢;rwa[KN,L8,eV,KU,R0,lent,eK,cj,vw,QB,fin,T.d,G8,Iy]
 have kp:=na (ch:=[]) (cs:=cs) (ss:=ss) (R:=R) (bg:=bg) (inc:=inc.map .int) hk1;have kp:L9 .v (HR (eV 4) (eK (.int 1))) [Z (.g σ),Z (.g PX),Z (.g (.e (xs.map .str))),Z (.g (JI cs ss R)),Z (.g (NK bg ks)),J,J,J,J,J,J] []=Z (.g (.HC (ks.map λk=>.inl k.1) (ks.map λk=>.t (k.2.map .str))),[]):=kp;have kH:=m1 (G3 (eV 3) (G3 (eV 4) (G3 (HR (eV 1) (eK (.int 3))) He))) [Z (.g σ),Z (.g PX),Z (.g (.e (xs.map .str))),Z (.g (JI cs ss R)),Z (.g (NK bg ks)),Z (.g (.HC (ks.map λk=>.inl k.1) (ks.map λk=>.t (k.2.map .str)))),J,J,J,J,J] (by rw[Zc];rfl);have kP:=m2 (G3 (eV 3) (G3 (HR (eV 1) (eK (.int 3))) He)) [Z (.g σ),Z (.g PX),Z (.g (.e (xs.map .str))),Z (.g (JI cs ss R)),Z (.g (NK bg ks)),Z (.g (.HC (ks.map λk=>.inl k.1) (ks.map λk=>.t (k.2.map .str)))),Z (.ref 0),J,J,J,J] (by rw[Zc];rfl);have pre:=λ{g':B An}{L':B Prop}(z:Oa g' L')=>Oa.v 0 hw (.v 0 g0 (.v 0 Qq (.v 0 sl1 (.v 0 g3 (.c 0 (w0 []) (.v 0 fla (.v 0 hR (.v 0 g4 (.v 0 sN (.v 0 hC (.v 0 kp (.v 0 kH (.v 0 kP (.h 0 h0 (.v 0 sp0 (.v 0 JO z))))))))))))))))
 have lp:=qo (s0:=Z (.g σ)) (s1:=Z (.g PX)) (s4:=Z (.g (NK bg ks))) (ns:=xs) (a10:=J) (GR P hk3) Θ (ds:=au 0 30) G (by rw[sI];lia);rcases lp with ⟨b',e⟩|⟨Hi,b',e⟩
 .exact⟨b',xR (pre (.o 0 (ay (fi:=iR 1 (G3 (eK (.int 30)) He)) (pt:=.one 10) (g:=S5) (ds:=au 0 30) (di (j:=30) rfl (aH Θ)) e) .nil))⟩
 .exact⟨b',xR (pre (.o 0 (ay (fi:=iR 1 (G3 (eK (.int 30)) He)) (pt:=.one 10) (g:=S5) (ds:=au 0 30) (di (j:=30) rfl (aH Θ)) e) .nil))⟩
end L2
open PySem PySem.W PyProof.Rows in
set_option maxRecDepth 100000 in
set_option maxHeartbeats 0 in
theorem PySem.Challenge.cw_dimhouse_k74_writing_down_holds : PySem.Challenge.rw_dimhouse_k74_writing_down.Holds := by
 w_on; refine holds_law P74H.ws λsaid => ?_
 refine holds_open (q := P74H.seen) (loose := []) (Xt := λs => xlAt P74H.seen [] s && recOk (RowW.records (OpenRow.toRowW PySem.Challenge.rw_dimhouse_k74_writing_down.row)) s) (XP := XL P74H.seen []) (Yf := Hook.obs P74H.hook) (Ya := Hook.val P74H.hook) (YP := Hook.says P74H.hook) (N := 8500) ?hl (Hook.of P74H.hook) (Hook.keeps P74H.hook) (λs e => xl_of s (Bool.and_eq_true_iff.mp e).1) XL.keeps (by rfl) (by rfl) (by rfl) (λs e => recFacts_of (Bool.and_eq_true_iff.mp e).2) (by rfl) (by first | assumption | decide +kernel) (by decide +kernel) ⟨rfl, rfl, rfl, rfl, rfl, by decide +kernel⟩ ?hw ?hc
 case hl => exact LeftO.of_split "special-get-raises" λw => P74H.map_two (ZH.tp3 (P74H.ra_false w) (P74H.rb_false w) (P74H.rc_false w)) (ZH.tp3 (P74H.ra_true w) (P74H.rb_true w) (P74H.rc_true w))
 case hw => w_witness2
 delta P74H.hook
 k_fill
 refine L2.Vm (l:=PySem.Challenge.rw_dimhouse_k74_writing_down) (x:="_law_script") L2.L L2.gc L2.main ⟨rfl,rfl,rfl⟩ ?R rfl rfl (λw h σ=>PySem.W.kIn_of σ) (λw=>by kernel_rfl) ?θ
 case R=>exact ⟨rfl,by decide +kernel,by decide +kernel⟩
 case θ=>intro w;kernel_rfl
