import PyProof.Rows.All
import KE.KNest
import Wide.All
import OpenK.AllK
import Wide.FinOn
import Lean
import PyProof.EqAt
import PyProof.EqKinds
import PyProof.TupleCall
import PySem.Challenge.RW_dimhouse_k76_driven
open Array renaming length_toList→qq2,getElem?_eq_getElem→qx5,getElem?_toList→zb7,toList→zf2
open BEq renaming comm→qz1
open Bool renaming and_eq_true→qa1,false_ne_true→qb5,and_eq_true_iff→qc0,or_eq_true→qf2,false_eq_true→qg3,not_eq_true'→qi7,and_true→qj9,eq_iff_iff→qr5,true_and→qr9,and_eq_false_imp→qt0,or_eq_false_iff→qt9,and_assoc→qx1,false_and→zd1,and_false→zd2,false_or→ze4,not_true→ze7
open Eq renaming trans→qz2
open False renaming elim→qk4
open ForInStep renaming yield→qo4
open Function renaming comp_def→qb2
open Inhabited renaming default→qz3
open Int renaming emod_lt_of_pos→qf5,eq_ofNat_of_zero_le→qg1,emod_nonneg→qi1,toNat_natCast→qi6,zero_add→qr3,fdiv_eq_ediv_of_nonneg→qv3
open LawfulMonad renaming pure_bind→qy4
open Lean renaming maxHeartbeats→zd6
open List renaming map_cons→qa2,length_map→qa3,mem_of_getElem?→qa5,getElem?_map→qa6,replicate→qa9,size_toArray→qb4,length_cons→qb6,all_eq_true→qb9,getD_eq_getElem?_getD→qc3,mem_cons→qc4,length_append→qc5,all_cons→qc7,mem_map→qc8,map_append→qd1,getElem?_cons_succ→qd3,map_map→qd5,nodup_cons→qd7,range→qd8,append_assoc→qd9,getElem?_append_right→qe0,nodup_append→qe1,mem_append_right→qe2,map_nil→qe3,getElem?_set_self→qe5,mem_cons_of_mem→qe6,mem_range→qf0,mem_append→qf7,replicate_succ→qf9,getElem?_append_left→qg5,length_nil→qg6,isEmpty_iff→qh0,lookup→qh1,getElem?_eq_none→qh4,contains_iff_mem→qh5,append_nil→qh8,nil_append→qh9,getElem?_cons_zero→qi0,length_singleton→qj1,mem_cons_self→qj3,lookup_cons→qj7,flatten_cons→qk6,find?_cons→qk8,length_take→ql2,cons_append→ql3,getElem_mem→ql4,any_cons→ql7,pairwise_cons→qm0,length→qm1,map_congr_left→qn2,nodup_range→qn4,zip_cons_cons→qo1,dropLast_concat_getLast→qo2,zip_append→qo6,all_nil→qo7,take_sublist→qp0,mem_of_mem_take→qp2,mem_or_eq_of_mem_set→qp6,not_mem_nil→qq0,filterMap_cons→qq1,getElem?_eq_getElem→qq6,getElem?_take_of_lt→qq8,map_set→qr2,foldl_cons→qr7,mem_iff_getElem?→qt1,zipWith→qt2,length_drop→qt4,eq_nil_of_length_eq_zero→qt5,drop_length→qt6,map_fst_zip→qt7,getElem?_set_ne→qt8,length_set→qu8,mem_filterMap→qv6,mem_singleton→qw0,mem_replicate→qw2,lookup_append→qw3,set_cons_zero→qw5,nodup_nil→qw9,getElem?_zip_eq_some→qx0,drop_eq_getElem_cons→qx2,forIn_nil→qx6,length_range→qy0,find?→qy5,ext_getElem?→qy6,filter_eq_nil_iff→za4,take_of_length_le→za5,mem_filter→za8,of_mem_zip→zb4,getElem?_zipWith→zc5,length_filter_le→zc7,foldl→zc9,map_take→ze8,all_map→zf7,map→zg2
open List.Pairwise renaming map→qm8,nil→qx8
open List.cons renaming injEq→zc1
open Nat renaming ne_of_lt→qc2,lt_of_lt_of_le→qc6,le_trans→qd2,le_succ_of_le→qd6,lt_of_le_of_lt→qe4,add_sub_cancel_left→qg0,zero_le→qh2,le_succ→qi5,ne_of_gt→qj0,lt_or_ge→qk1,lt_trans→ql8,lt_irrefl→qm9,succ_le_succ→qn3,not_lt→qn7,lt_succ_self→qp8,le_of_lt→qq7,le_refl→qu4,zero_add→qw4,add_comm→zb8,reduceLT→zc6,sub_zero→zf8,add_zero→zf9,sub_self→zg0
open Ne renaming symm→qk7
open Option renaming bind_some→qa0,map_some→qb0,map_eq_some_iff→qd4,isSome_iff_exists→qe9,isNone_iff_eq_none→qg7,bind_eq_some_iff→qk0,join_some→qp9,isSome_map→qx7,getD_none→qz6,getD_some→qz7,map→zd0
open Option.some renaming inj→qc9,injEq→qx9
open PyProof.Rows renaming slot_tuple_getitem→qm6,callWith_type1→qo3,subscriptTail_builtinR→za1,AllBare→za9,subscriptTail→ze2,IntsAre→zf0,envOfC→zg4
open PySem renaming sizeLine→qa4,wpAny_pure→qa7,Shared→qa8,starEach→qb1,sizeLine_eq→qb7,Program→qe7,mainGlobals→qe8,compareOp→qf1,wpAny_newObj_type→qf4,bootBuiltins→qf6,foldedSetIterable→qh3,backTo→qh6,binaryOp→qh7,assignEach→qi3,keywordEach→qi4,attributeBase→qi8,swapsWith→qi9,wpAny_typeNameOfWhole_itemiter→qj2,Builtin→qj4,wpAny_field→qj5,wpAny_call_entry→qj6,wpAny_callSpecial?_slot→qj8,wpAny_bind→qk2,sysModules→qk3,Around→ql5,wpAny_Call_Name_kw→ql6,wpAny_setField_rec→ql9,wpAny_typeNameOf_itemiter→qm4,wpAny_passesOwn→qm5,wpAny_holding→qn0,FuncData→qn1,wpAny_mono→qn5,tupleKind_room_in1→qn9,backToKw→qo9,holding→qp1,Operator→qp7,wpAny_pyIter_tuple→qr4,getattributeRaised→qr8,wpAny_isOneOf_itemiter→qs2,wpAny_truthy_bool→qs4,sliceBounds→qs5,wpAny_dictEntries→qs6,wpAny_notOrdered_dict→qs8,noFill_tuple_add→qt3,swapsWithSole→qu0,plainId_quiet→qu2,call_meets→qu3,letOwnedTupleGo→qu5,getMethod→qu6,codeAny→qu7,codeAny_builtin→qv0,wpAny_updateSeq→qv1,rawInt→qv5,NameKind→qv8,concat_meets→qv9,standAt→qw6,Keyword→qw8,wpAny_seqItems→qx3,firstArgMember→qx4,wpAny_pyNext_tuple_item→qy7,behindInMarks→qy8,seq_tuple_add→qy9,assign→qz4,pyNext→qz5,wpAny_pyNext_list_item→qz9,wpAny_pyNext_tuple_end→za0,tupleKind→za7,wpAny_execs_nil→zb0,PassesOwn→zb1,wpAny_pyNext_list_end→zb2,codeAny_mono→zb3,wpAny_typeOf→zb5,call_meetsIn→zb9,wpAny_dictEpoch→zc3,builtinLookup_eq_fast→zc4,callWith→zc8,wpAny_setField→zd3,callerA→zd5,wpAny_standAt→zd9,swappedStores→ze0,bindArgs→ze1,seqIndex?→ze3,compPost→ze5,comprehension→ze6,builtinsNs→ze9,valueAt→zf1,IsPart→zf5,seqIndex_neg→zf6,BindsTo→zg3,getItem→zg5,updateSeq→zg6
open PySem.Around renaming under_plainId→qp3,under→zf3
open PySem.AutoSeq1 renaming wpAny_loadPart'→qr0
open PySem.Builtin renaming bitAnd→qw7
open PySem.Builtin.Dict renaming updateFrom→qz0,showsAll→zc2
open PySem.Builtin.Dict_items renaming ownsTuple→qo0,ownedTupleFields→qq4,ownedTupleIsFree→qq5,pairFromOwner→qs0
open PySem.Builtin.List renaming listExtendWith→qo5,listTooLong→qq9,listSameRef→qy3,listItems→za3
open PySem.Builtin.Slice renaming slicePlaces→qm2,sliceAdjust→qp4,sliceApplied→qv4
open PySem.Builtin.SmallTypes renaming nextOf→qm3
open PySem.Builtin.Str renaming occurrences→qr6
open PySem.Builtin.Tuple renaming tupleExact→qm7
open PySem.Calls renaming callWith_builtin→qs1,Name_function_global→qv2,spliced_cons→qv7
open PySem.Code renaming isFrame→zf4
open PySem.F renaming slot_dict_itemiterator_next→qg9,slot_tuple_iterator_next→ql0,slot_tuple_getattribute→qp5,slot_list_getattribute→qr1,args_dict_itemiterator_next_1→qs7,entry_dict_itemiterator_next→qs9,args_tuple_iterator_next_1→qu1,entry_tuple_iterator_next→qu9,slot_dict_items_iter→za2
open PySem.Heap renaming lt_size→qb3,get?_push_size→qb8,get?_update_self→qf8,SameBut→qg2,get?_update_other→qi2,size_push→qn6,get?_push_of_some→qz8
open PySem.Heap.SameBut renaming update→qq3
open PySem.NameKind renaming free→qg8
open PySem.Obj renaming mapSeq→qk5
open PySem.SeqAt renaming EqAt→qf3,RcAt→qy1,RcNeAt→zc0
open PySem.SeqAt.EqAt renaming of_refs→qw1,same→zb6
open PySem.SeqAt.RcAt renaming lists_lengths→qy2
open PySem.Str renaming ofString→qd0,ofString_eq_toList→za6
open PySem.Txt renaming join→zg1
open PySem.Value renaming ref→qc1,none→qg4,type→qo8,bool→qs3,int→zd7,str→zd8
open Sum renaming inr→qk9,inl→qn8
open Sum.inr renaming inj→zd4
open True renaming intro→ql1
set_option Elab.async false
set_option linter.all false
set_option compiler.extract_closed false
local macro_rules|`(tactic|rcases $h:ident)=>`(tactic|split at $h:ident<;>first|(cases $h:ident;done)|skip)
local macro_rules|`(command|omit x)=>`(command|set_option tactic.hygienic true)
local macro_rules|`(‹$t›)=>`(by simpa using $t)
local macro_rules|`(tactic|rwa[$r,*]$(l)?)=>do
 let a:=r.getElems.map λx=>Lean.mkNode ``Lean.Parser.Tactic.simpLemma #[Lean.mkNullNode,x.raw[0],x.raw[1]]
 `(tactic|simp only[$a,*]$(l)?)
open Lean Parser Tactic in
local macro_rules|`(tactic|have⟨$p,*⟩:=$e)=>do
 let w k a:=mkNode ``rcasesPatLo #[mkNode ``rcasesPatMed #[mkNullNode #[mkNode (`Lean.Parser.Tactic.rcasesPat++k) a]],mkNullNode]
 `(tactic|obtain $(⟨((←`(⟨$p,*⟩)).raw.rewriteBottomUp λx=>if x.isIdent then w `one #[x] else if x.isOfKind ``Term.hole then w `ignore x.getArgs else if x.isOfKind ``Term.anonymousCtor then w `tuple x.getArgs else x)[0]⟩):rcasesPatMed:=$e)
open Lean in
def mL0(s:String):=(s.splitOn " ").toArray.map λs=>mkNode ``Parser.Tactic.simpLemma #[mkNullNode,mkNullNode,mkIdent (`L2++s.toName)]
def mD0:="lent vw vwO bO ixV ixO asI dH bY iP vws sR bList hZ bLen oAdd oSub orO eG sO oEq oNe gEq wx eqds eqdb eqdn eqdx eqdy eqdz eqdw oLt oGt qe oIs oIsN gIs fin T.d al dats CV.sol CV.kp CV.old cP gk cO cK ie getV cY iAdd finL B0 hb_1 hb_2 hb_3 hb_4 hb_5 hb_6 hb_7 hb_8 hb_9 Ea Eb Ec ofS"
namespace ZH
open PySem PySem.W PyProof.Rows
def trees:List Obj→BT→Nat→Option (BT×Nat)
  | [],t,n=>some (t,n)
  | o::r,t,n=>match ((t.ins n o).get n).isSome with
    | true=>trees r (t.ins n o) (n+1)
    | false=>none
def topRunT (tb:String→Option Builtin) (p:Program) (w:World) (n₀:Nat) (ann:Option Value):Nat→SharedT→Thread→Option SharedT
  | 0,_,_=>none
  | n+1,s,t=>match through t with
    | true=>some s
    | false=>match stepOk n₀ ann t with
      | false=>none
      | true=>match stepT (denote tb) p w s t with
        | some (s',t')=>topRunT tb p w n₀ ann n s' t'
        | none=>none
def toT (s:Shared):Option SharedT:=(trees s.heap.objs.toList .nil 0).map fun q=>⟨q.1,q.2,s.heap.life,s.gens,s.drawn,s.toks,s.os⟩
section
variable {tb:String→Option Builtin} {p:Program} {w:World} {n₀:Nat} {ann:Option Value}
theorem topRun_of:∀ {n:Nat} {s s':SharedT} {t:Thread},topRunT tb p w n₀ ann n s t=some s'→topRun tb p w n₀ ann n s.abs t=some s'.abs
  | 0,_,_,_,h=>by cases h
  | n+1,s,s',t,h=>by
    unfold topRunT at h
    unfold topRun
    cases he:through t with
    | true=>rw [he] at h;cases h;rfl
    | false =>
      rw [he] at h
      cases hk:stepOk n₀ ann t with
      | false=>rw [hk] at h;cases h
      | true =>
        rw [hk] at h
        cases hs:stepT (denote tb) p w s t with
        | none=>rw [hs] at h;cases h
        | some r=>obtain ⟨s₂,t₂⟩:=r;rw [hs] at h;rw [stepT_spec hs];exact topRun_of h
theorem trees_abs {life:Life}:∀ {l:List Obj} {t t':BT} {n n':Nat},trees l t n=some (t',n')→(absHeap t' n' life).objs.toList=(absHeap t n life).objs.toList++l
  | [],t,t',n,n',h=>by cases h;simp
  | o::r,t,t',n,n',h=>by
    unfold trees at h
    cases q:((t.ins n o).get n).isSome with
    | false=>rw [q] at h;cases h
    | true =>
      rw [q] at h
      rw [trees_abs h,absHeap_ins q]
      show ((absHeap t n life).objs.push o).toList++r=_
      rw [Array.toList_push,List.append_assoc];rfl
theorem toT_abs {s:Shared} {sT:SharedT} (h:toT s=some sT):sT.abs=s:=by
  obtain ⟨⟨heap,life⟩,gens,drawn,toks,os⟩:=s
  unfold toT at h
  obtain ⟨⟨t,n⟩,h1,rfl⟩:=Option.map_eq_some_iff.mp h
  have e:=trees_abs (life:=life) h1
  have e0:(absHeap BT.nil 0 life).objs.toList=[]:=rfl
  rw [e0,List.nil_append] at e
  have e1:(absHeap t n life).objs=heap:=Array.toList_inj.mp e
  show Shared.mk (absHeap t n life) gens drawn toks os=_
  have e2:absHeap t n life=⟨heap,life⟩:=by
    have:absHeap t n life=⟨(absHeap t n life).objs,life⟩:=rfl
    rw [this,e1]
  rw [e2]
def tp {γ:Type} (p:Program) (w w':World) (N:Nat) (A:Shared→Shared→γ):Option γ:=(fencedOpening treeTable p w N).bind fun s=>(toT s).bind fun sT=>(topRunT treeTable p w' s.heap.objs.size (s.heap.nsMap mainGlobals "__annotations__") N sT (topStub p)).map fun z=>A s z.abs
def ckT (p:Program) (s₀ s₁:Shared):Bool:=(s₀.heap.isNs mainGlobals&&s₀.gens.size==0)&&(staticsOk (importedModules p.main.body) s₀.heap s₁.heap&&namesBound p s₁.heap&&gensDone s₁&&laidKept s₀.heap s₁.heap)
theorem tp3 {w':World} {N:Nat} {α β γ:Type} {A:Shared→α×β} {C:Shared→γ} {a:α} {b:β} {c:γ} (h1:tp p w w' N (fun s z=>(ckT p s z,(A z).1))=some (true,a)) (h2:tp p w w' N (fun _ z=>(A z).2)=some b) (h3:tp p w w' N (fun _ z=>C z)=some c):(fencedOpening treeTable p w N).map (fun s₀=>(topFrom treeTable p w' N s₀).map fun z=>(A z,C z))=some (some ((a,b),c)):=by
  unfold tp at h1 h2 h3
  obtain ⟨s,q1,h1⟩:=Option.bind_eq_some_iff.mp h1
  obtain ⟨sT,q2,h1⟩:=Option.bind_eq_some_iff.mp h1
  obtain ⟨z,q3,h1⟩:=Option.map_eq_some_iff.mp h1
  rw [q1,Option.bind_some,q2,Option.bind_some,q3] at h2 h3
  have e2:(A z.abs).2=b:=Option.some.inj h2
  have e3:C z.abs=c:=Option.some.inj h3
  obtain ⟨k1,k2⟩:=Prod.mk.inj h1
  have hr:=topRun_of q3
  rw [toT_abs q2] at hr
  obtain ⟨k3,k4⟩:=Bool.and_eq_true_iff.mp k1
  rw [q1]
  show some ((topFrom treeTable p w' N s).map _)=_
  unfold topFrom
  rw [k3]
  dsimp only
  rw [hr,Option.bind_some,k4]
  show some (some (A z.abs,C z.abs))=_
  rw [e3,← k2,← e2]
end
end ZH
namespace P76H
open PySem PySem.W PyProof.Rows
section
local macro_rules | `(tactic| o_head $_) => `(tactic| exact (by assumption : ∀ p : Prop, p) _)
set_option maxRecDepth 100000 in
set_option maxHeartbeats 0 in
theorem pre (h0:∀ p:Prop,p):PySem.Challenge.rw_dimhouse_k76_driven.row.Holds:=by
  k_head
end
def seen:Program:={PySem.Challenge.pw_dimhouse_k76_driven with main:={PySem.Challenge.pw_dimhouse_k76_driven.main with body:=[0,2,3,4,5,7,9,10,11,12,13,15,17,18,21,23,24,25,26,27,28,29,30,31,32,33,34,35,36,37,38,39].filterMap fun i=>PySem.Challenge.pw_dimhouse_k76_driven.main.body[i]?}}
noncomputable abbrev hook:Hook:=kHook P76H.pre.heap_1 [2,3,15,17,18,20,21,22,25,26,27,29,30,32,33,34,36,37,39,40,48,50,51,53,54,55,57,58,60,61,62,64,65,67,68,69,71,72,74,75,76,77,78,79,80,90,92,93,95,96,97,99,100,102,103,104,105,106,107,108,111,114,115,116,118,119,121,122,123,126,127,128,130,131,133,134,142,145,146,147,149,150,152,153,154,156,157,159,160,161,163,164,166,167,168,170,171,173,174,175,177,178,180,181,182,184,185,187,188,189,191,192,194,195,196,198,199,201,202,203,205,206,208,209,210,212,213,215,216,217,219,220,222,223,224,226,227,229,230,231,233,234,236,237,238,239,240,241,242,252,255,256,257,259,260,262,263,264,266,267,269,270,271,273,274,276,277,278,280,281,283,284,285,287,288,290,291,292,294,295,297,298,299,301,302,304,305,306,308,309,311,312,313,315,316,318,319,320,322,323,325,326,327,329,330,332,333,334,336,337,339,340,341,343,344,346,347,348,350,351,353,354,355,357,358,360,361,362,364,365,367,368,369,371,372,374,375,376,378,379,381,382,383,385,386,388,389,390,392,393,395,396,397,399,400,402,403,404,406,407,409,410,411,412,413,414,415,418,420,421,423,424,425,426,428,429,431,432,440,443,444,445,447,448,450,451,452,454,455,457,458,459,461,462,464,465,466,468,469,471,472,473,475,476,478,479,480,482,483,485,486,487,489,490,492,493,494,496,497,499,500,501,503,504,506,507,508,510,511,513,514,515,517,518,520,521,522,524,525,527,528,529,531,532,534,535,536,538,539,541,542,543,545,546,548,549,550,551,552,553,554,557,559,560,562,563,564,566,567,569,570,571,574,575,576,578,579,581,582,583,585,586,588,589,590,593,594,595,597,598,600,601,602,604,605,607,608,609,612,613,614,617,618,619,621,622,624,625,626,628,629,631,632,633,635,636,638,639,640,643,644,645,647,648,650,651,652,654,655,657,658,659,662,663] (fun _=>by kernel_rfl)
abbrev pg:=PySem.Challenge.rw_dimhouse_k76_driven.row.prog
abbrev oA (s:Shared):=openSeen seen [PySem.Str.ofString "drive"] (importedModules pg.main.body) (fun s=>xlAt seen [] s&&recOk (RowW.records (OpenRow.toRowW PySem.Challenge.rw_dimhouse_k76_driven.row)) s) true s
theorem map_two {α β γ:Type} {x:Option α} {f:α→β} {g:α→γ} {a:β} {b:γ} (h:x.map f=some a) (h':x.map g=some b):x.map (fun s=>(f s,g s))=some (a,b):=by
  cases x with
  | none=>cases h
  | some s=>simp only [Option.map_some,Option.some.injEq] at h h' ⊢;rw [h,h']
set_option maxRecDepth 100000
set_option maxHeartbeats 0
abbrev tq {γ:Type} (b:Bool) (w:World) (A:Shared→Shared→γ):Option γ:=ZH.tp pg w (w.withFollow "special-get-raises" b) 7626 A
abbrev gd:=openGood seen [PySem.Str.ofString "drive"]
theorem ra_false (w:World):tq false w (fun s z=>(ZH.ckT pg s z,(oA z).1))=some (true,gd.1):=by
  kernel_rfl
theorem rb_false (w:World):tq false w (fun _ z=>(oA z).2)=some gd.2:=by
  kernel_rfl
theorem rc_false (w:World):tq false w (fun _ z=>Hook.obs hook z)=some (Hook.val hook (w.withFollow "special-get-raises" false)):=by
  kernel_rfl
theorem ra_true (w:World):tq true w (fun s z=>(ZH.ckT pg s z,(oA z).1))=some (true,gd.1):=by
  kernel_rfl
theorem rb_true (w:World):tq true w (fun _ z=>(oA z).2)=some gd.2:=by
  kernel_rfl
theorem rc_true (w:World):tq true w (fun _ z=>Hook.obs hook z)=some (Hook.val hook (w.withFollow "special-get-raises" true)):=by
  kernel_rfl
theorem ws:PySem.Challenge.rw_dimhouse_k76_driven.wellSaid=true:=by
  kernel_rfl
end P76H
set_option maxRecDepth 100000
set_option maxHeartbeats 4000000
set_option genSizeOf false
set_option genInjectivity false
set_option bootstrap.genMatcherCode false
set_option tactic.hygienic false
open PySem.W renaming Frag->xA9,findIn->xB9,kia_one->xC9,keepIn->xD9,nsIn->xE9,emptyDict->xF9,instObj->xG9,isFn->xH9,kitOne->xI9,plainGet->xJ9,mg_of->xK9,lookIn->xL9,hasDictIn->xM9,kitx_dict->xN9,methodObj->xO9,plainGet_of->xP9,plainOver->xQ9,takerIn->xR9,makesIn->xS9,methodCall_KW->xT9,kitx_list->xU9,callWith_K->xV9,callWith_K0->xW9
open PySem renaming Addr->J4,World->J5,Stmt->J6,Expr->J8,Scope->J9
noncomputable section
def χ{p:Prop}(h:p:=by decide +kernel):p:=h
def Ψ{p:Prop}(h:p:=by walk_at "x"):p:=h
def Θ{p:Prop}(h:p:=by lia):p:=h
def Ξ{p:Prop}(h:p:=by simp):p:=h
def Ω{p:Prop}(h:p:=by decide):p:=h
open Option renaming some->ς,none->ψ
open Bool renaming true->θ,false->ξ
abbrev η:=@List
abbrev ζ:=@Option
def gX{α:Type _}{l:η α}{i:Nat}{a:α}(h:l[i]?=ς a):∃z:i<l.length,l[i]=a:=List.getElem?_eq_some_iff.mp h
open PySem PySem.Spec PyProof.Rows in abbrev gN := @List.getElem?_set_ne
open PySem PySem.Spec PyProof.Rows in abbrev gP := @Heap.get?_push_of_some
open PySem PySem.Spec PyProof.Rows in abbrev wB := @wpAny_bind
open PySem PySem.Spec PyProof.Rows in abbrev gL := @List.getElem?_append_left
open PySem PySem.Spec PyProof.Rows in abbrev gR := @List.getElem?_append_right
open PySem PySem.Spec PyProof.Rows in abbrev gQ := @List.getElem?_eq_getElem
open PySem PySem.Spec PyProof.Rows in abbrev nL := @Nat.le_refl
set_option maxRecDepth 100000
set_option maxHeartbeats 4000000
namespace L2
open PySem PySem.Spec PyProof.Rows
abbrev Key:=Sum Int Str
noncomputable def iX:Key->Value->Bool
 |.inl k,v=>Value.isInt k v
 |.inr x,v=>Value.isStrOf x v
noncomputable def keyH(w:J5):Key->Int
 |.inl k=>hashInt k
 |.inr x=>hashStr w x
def aG:∀{k:Key}{v:Value},iX k v=θ->(∃i t,k=qn8 i/\v=zd7 i t)\/(∃x t,k=qk9 x/\v=zd8 x t)
 |.inl i,v,h=>by have⟨t,e⟩:=Value.isInt_shape (k:=i) (v:=v) h;exact .inl ⟨i,t,rfl,e⟩
 |.inr x,v,h=>by have⟨t,e⟩:=Value.isStrOf_shape (x:=x) (v:=v) h;exact .inr ⟨x,t,rfl,e⟩
def pK(i:Int)(t:Tok):iX (.inl i) (.int i t)=θ:=by simp[iX,Value.isInt]
def pL(x:Str)(t:Tok):iX (.inr x) (.str x t)=θ:=by simp[iX,Value.isStrOf]
def zw(a b:Int):decide ((qn8 a:Key)=qn8 b)=(a==b):=by
 by_cases e:a=b
 .subst e;simp
 .have h:¬ (qn8 a:Key)=qn8 b:=λq=>e (qn8.inj q)
  rw[decide_eq_false h];exact(beq_eq_false_iff_ne.mpr e).symm
def zx(a b:Str):decide ((qk9 a:Key)=qk9 b)=decide (a=b):=by
 by_cases e:a=b
 .subst e;simp
 .have h:¬ (qk9 a:Key)=qk9 b:=λq=>e (zd4 q)
  rw[decide_eq_false h,decide_eq_false e]
def zy(a:Int)(b:Str):decide ((qn8 a:Key)=qk9 b)=ξ:=decide_eq_false (λq=>nomatch q)
def zz(a:Str)(b:Int):decide ((qk9 a:Key)=qn8 b)=ξ:=decide_eq_false (λq=>nomatch q)
def aq(prog:qe7)(w:J5):PySem.KeyKind prog w Key where
 is:=iX
 hash:=keyH w
 inj:=λv a b W hb=>by
  rcases aG W with ⟨i,t,rfl,rfl⟩|⟨x,t,rfl,rfl⟩
  .rcases aG hb with ⟨j,u,rfl,e⟩|⟨y,u,rfl,e⟩
   .injection e with O _;rw[O]
   .exact nomatch e
  .rcases aG hb with ⟨j,u,rfl,e⟩|⟨y,u,rfl,e⟩
   .exact nomatch e
   .injection e with O _;rw[O]
 byValue:=λk v h=>by rcases aG h with ⟨i,t,rfl,rfl⟩|⟨x,t,rfl,rfl⟩<;>rfl
 pyHash:=λU h=>by
  rcases aG U with ⟨i,t,rfl,rfl⟩|⟨x,t,rfl,rfl⟩
  .exact wpAny_pyHash_int h
  .exact wpAny_pyHash_str h
 eqBool:=λZ U h=>by
  rcases aG Z with ⟨i,t,rfl,rfl⟩|⟨x,t,rfl,rfl⟩
  .rcases aG U with ⟨j,u,rfl,rfl⟩|⟨y,u,rfl,rfl⟩
   .rw[zw]at h;exact wpAny_eqBool_int h
   .rw[zy]at h;exact qf3.int_str i t y u _ _ _ _ h
  .rcases aG U with ⟨j,u,rfl,rfl⟩|⟨y,u,rfl,rfl⟩
   .rw[zz]at h;exact qf3.str_int x t j u _ _ _ _ h
   .rw[zx]at h;exact wpAny_eqBool_str h
 «strs»:=λk x t v h=>by
  rcases aG h with ⟨i,u,rfl,e⟩|⟨y,u,rfl,e⟩
  .exact nomatch e
  .injection e with O _;subst O;cases v<;>rfl
def k9(prog:qe7)(w:J5)(i:Int)(t:Tok):(aq prog w).is (.inl i) (.int i t)=θ:=pK i t
def lb(prog:qe7)(w:J5)(x:Str)(t:Tok):(aq prog w).is (.inr x) (.str x t)=θ:=pL x t
set_option genInjectivity true in
inductive V where
 |non|bl (b:Bool)|int (i:Int)|str (x:Str)|byt (b:Array UInt8)|flt (b:UInt64)|ref (a:J4)|ty (n:String)
 deriving DecidableEq
def RelV:V->Value->Prop
 |.non,u=>u=qg4
 |.bl b,u=>u=qs3 b
 |.int i,u=>∃t,u=zd7 i t
 |.str x,u=>∃t,u=zd8 x t
 |.byt b,u=>∃t,u=Value.bytes b t
 |.flt b,u=>∃t,u=Value.float b t
 |.ref a,u=>u=qc1 a
 |.ty n,u=>u=qo8 n
abbrev Vals:η V->η Value->Prop:=Paired RelV
variable{xs:η V}{us:η Value}
def Vals.length(r:Vals xs us):xs.length=us.length:=Paired.length r
theorem Vals.get:∀{xs:η V}{us:η Value}{i:Nat}{x:V},Vals xs us->xs[i]?=ς x->∃u,us[i]?=ς u/\RelV x u
 |_,_,_,_,.nil,e=>by simp at e
 |_,_,0,_,.cons r _,e=>by simp at e;subst e;exact⟨_,rfl,r⟩
 |_,_,i+1,x,.cons _ t,e=>by have⟨u,h1,h2⟩:=Vals.get (i:=i) (x:=x) t ‹e›;exact⟨u,‹h1›,h2⟩
variable{u:Value}
theorem Vals.set{x:V}(r:RelV x u):∀{xs:η V}{us:η Value}(i:Nat),Vals xs us->Vals (xs.set i x) (us.set i u)
 |_,_,_,.nil=>.nil
 |_,_,0,.cons _ t=>.cons r t
 |_,_,i+1,.cons q t=>.cons q (Vals.set r i t)
theorem Vals.append:∀{xs ys:η V}{us ws:η Value},Vals xs us->Vals ys ws->Vals (xs++ys) (us++ws)
 |_,_,_,_,.nil,s=>s
 |_,_,_,_,.cons r t,s=>.cons r (Vals.append t s)
theorem Vals.take:∀{xs:η V}{us:η Value}(n:Nat),Vals xs us->Vals (xs.take n) (us.take n)
 |_,_,0,_=>.nil
 |_,_,_+1,.nil=>.nil
 |_,_,n+1,.cons r t=>.cons r (Vals.take n t)
theorem Vals.drop:∀{xs:η V}{us:η Value}(n:Nat),Vals xs us->Vals (xs.drop n) (us.drop n)
 |_,_,0,r=>r
 |_,_,_+1,.nil=>.nil
 |_,_,n+1,.cons _ t=>Vals.drop n t
def RelO:ζ V->ζ Value->Prop
 |some v,ς u=>RelV v u
 |none,ψ=>True
 |_,_=>False
def KV{κ:Type}:η (κ×V)->η (κ×Value)->Prop:=Paired λ(p:κ×V)(q:κ×Value)=>p.1=q.1/\RelV p.2 q.2
noncomputable def kV:Key->V
 |.inl i=>.int i
 |.inr x=>.str x
inductive HO where
 |e (xs:List V)
 |t (xs:List V)
 |dK (J1:List (Key×V))|dT (J1:List (List Key×V))
 |set (S:Int->Bool) (n:Nat)
 |ins (C dx:J4) (fs:List (Str×V))
 |own (x:J4)
 |xd (fs:List (Str×V))
 |met (f x:J4)
 |rng (lo hi:Int)
 |frz (o:Obj) (u:HO)
 |tbl (ps:Array Value)
 |code (q:Str)
 |ctab (qs:List ((Nat×Nat)×Str))
 |ext (φ:Heap->Prop)
abbrev Hp:=J4->ζ HO
noncomputable def upd(H:Hp)(a:J4)(o:HO):Hp:=λb=>if b=a then ς o else H b
variable{H:Hp}{a:J4}
def af{o:HO}:upd H a o a=ς o:=by unfold upd;rw[if_pos rfl]
def ai{b:J4}{o:HO}(h:b≠a):upd H a o b=H b:=by unfold upd;rw[if_neg h]
def vH{b:J4}{o u:HO}(h:H a=ς o)(h':H b=ς u)(d:o≠u):a≠b:=by intro e;subst e;rw[h]at h';exact d (qc9 h')
def aI{b:J4}{o:HO}(h:H a=ς o)(h':H b=ψ):a≠b:=by intro e;subst e;rw[h]at h';cases h'
def IsTu(h:Heap)(a:J4)(items:Array Value):Prop:=IsTup h a items/\∀o,h.get? a=ς o->o.dict=ψ
variable{items:Array Value}{n:Nat}
theorem IsTu.of{h:Heap}{o:Obj}(e:h.get? a=ς o)(hc:o.cls=.type "tuple")(U:o.data=.seq items n)(O:o.dict=ψ):IsTu h a items:=⟨⟨o,e,hc,n,U⟩,λu q=>by rw[e]at q;cases q;exact O⟩
theorem IsTu.new(h:Heap)(items:Array Value):IsTu (h.push {cls:=.type "tuple",data:=.seq items}) h.objs.size items:=.of (qb8 _ rfl) rfl rfl rfl
theorem IsTu.kept{h h':Heap}(x:IsTu h a items)(k:∀u,h.get? a=ς u->h'.get? a=ς u):IsTu h' a items:=by have⟨⟨o,e,hc,n,U⟩,O⟩:=x;exact .of (k o e) hc U (O o e)
section
variable(P:qe7)(w:J5)
def ObjOk(H:Hp)(h:Heap)(a:J4):HO->Prop
 |.e xs=>xs.length<=qa4/\∃(J3:η Value)(n:Nat),Vals xs J3/\h.get? a=ς {cls:=.type "list",data:=.seq J3.toArray n}
 |.t xs=>xs.length<=qa4/\∃J3:η Value,Vals xs J3/\IsTu h a J3.toArray
 |.dK J1=>J1.length<=qa4/\(a==qk3)=ξ/\∃vs,KV J1 vs/\h.DictOf (aq P w) a vs
 | .dT J1=>J1.length<=qa4/\(a==qk3)=ξ/\∃xs:η (η Key×J4×Value),
     Paired (λ(p:η Key×V)(q:η Key×J4×Value)=>p.1=q.1/\H q.2.1=ς (.t (p.1.map kV))/\RelV p.2 q.2.2) J1 xs∧
     ∃o es ep,h.get? a=ς o/\o.ExactDict/\o.data=.dict es ep/\es.toList=xs.map (entryOfKey (za7 (aq P w)))/\(xs.map (·.1)).Nodup
 |.set S n=>h.SetOf (intKind P w) a S n
 |.ins C dx fs=>H dx=ς (.own a)/\fs.length<=1000/\dx≠a/\h.get? a=ς (xG9 C dx)∧∃mA,h.Ns1 dx mA/\(∀f,RelO (fs.lookup f) (mA f))/\PySem.Within mA (fs.map (·.1))
 |.own _=>∃o,h.get? a=ς o
 |.xd fs=>∃mA,h.Ns1 a mA/\∀f,RelO (fs.lookup f) (mA f)
 |.rng lo hi=>∃t u v,h.get? a=ς {cls:=.type "range",data:=.fields #[.int lo t,.int hi u,.int 1 v]}
 |.frz o u=>h.get? a=ς o/\ObjOk H h a u
 |.tbl ps=>h.get? a=ς {cls:=.none,data:=.fields ps}
 |.code q=>h.CodeRec (.ref a) q
 |.ctab O=>∃ps:Array Value,h.get? a=ς {cls:=.none,data:=.fields ps}/\TriplesOk ps.toList/\∀(pos:Pos)(q:Str)(v:Value),((pos.line,pos.col),q)∈O->codeAmong pos ps.toList=ς v->∃c o,v=.ref c/\H c=ς (.frz o (.code q))
 |.met f x=>h.get? a=ς (xO9 (.ref f) (.ref x))
 |.ext φ=>φ h/\(∃o,h.get? a=ς o)/\∀h1 h2:Heap,φ h1->(∀o,h1.get? a=ς o->h2.get? a=ς o)->φ h2
def HOk(H:Hp)(h:Heap):Prop:=∀a o,H a=ς o->ObjOk P w H h a o
end
section
variable{P:qe7}{w:J5}{H H':Hp}{h h':Heap}{a:J4}{o:HO}
def ObjOk.lt(x:ObjOk P w H h a o):a<h.objs.size:=by
 cases o with
 |e xs=>have⟨_,_,_,_,e⟩:=x;exact qb3 e
 |t xs=>have⟨_,_,_,p⟩:=x;exact p.1.lt
 |dK J1=>have⟨_,_,_,_,o,_,_,e,_⟩:=x;exact qb3 e
 |dT J1=>have⟨_,_,_,_,o,_,_,e,_⟩:=x;exact qb3 e
 |set S n=>have⟨o,_,_,_,e,_⟩:=x;exact qb3 e
 |ins C dx fs=>have⟨_,_,_,e,_⟩:=x;exact qb3 e
 |own y=>have⟨_,e⟩:=x;exact qb3 e
 |xd fs=>have⟨_,⟨_,_,_,e,_⟩,_⟩:=x;exact qb3 e
 |rng lo hi=>have⟨_,_,_,e⟩:=x;exact qb3 e
 |frz ob u=>have⟨e,_⟩:=x;exact qb3 e
 |tbl ps=>exact qb3 (show h.get? a=ς _ from x)
 |code q=>have⟨c,o,vs,t,e,g,_⟩:=x;cases e;exact qb3 g
 |ctab O=>have⟨ps,g,_⟩:=x;exact qb3 g
 |met f y=>exact qb3 (show h.get? a=ς _ from x)
 |ext φ=>have⟨_,⟨_,e⟩,_⟩:=x;exact qb3 e
theorem Paired.mapP{α β:Type}{F G:α->β->Prop}:∀{l₁:η α}{l₂:η β},Paired F l₁ l₂->(∀a b,F a b->G a b)->Paired G l₁ l₂
 |_,_,.nil,_=>.nil
 |_,_,.cons r t,f=>.cons (f _ _ r) (Paired.mapP t f)
def ObjOk.stay (x:ObjOk P w H h a o) (k:∀ b u,(b=a\/H b=ς (.own a))->h.get? b=ς u->h'.get? b=ς u)
  (ho:∀b,H b=ς (.own a)->H' b=ς (.own a)) (ht:∀b xs,H b=ς (.t xs)->H' b=ς (.t xs)) (O:∀b ob q,H b=ς (.frz ob (.code q))->H' b=ς (.frz ob (.code q))):ObjOk P w H' h' a o:=by
 induction o with
 |e xs=>have⟨z,J3,n,r,e⟩:=x;exact⟨z,J3,n,r,k _ _ (.inl rfl) e⟩
 |t xs=>have⟨z,J3,r,t⟩:=x;exact⟨z,J3,r,t.kept λu e=>k _ _ (.inl rfl) e⟩
 |dK J1=>have⟨z,y,vs,r,ob,es,ep,e,c⟩:=x;exact⟨z,y,vs,r,ob,es,ep,k _ _ (.inl rfl) e,c⟩
 |dT J1=>have⟨z,y,xs,r,ob,es,ep,e,c⟩:=x;exact⟨z,y,xs,Paired.mapP r λp q z=>⟨z.1,ht _ _ z.2.1,z.2.2⟩,ob,es,ep,k _ _ (.inl rfl) e,c⟩
 |set S n=>have⟨ob,es,ep,t,e,c⟩:=x;exact⟨ob,es,ep,t,k _ _ (.inl rfl) e,c⟩
 |ins C dx fs=>have⟨d,z,ne,e,mA,⟨U,es,ep,e2,c⟩,r⟩:=x;exact⟨ho _ d,z,ne,k _ _ (.inl rfl) e,mA,⟨U,es,ep,k _ _ (.inr d) e2,c⟩,r⟩
 |own y=>have⟨ob,e⟩:=x;exact⟨ob,k _ _ (.inl rfl) e⟩
 |xd fs=>have⟨mA,⟨U,es,ep,e,c⟩,r⟩:=x;exact⟨mA,⟨U,es,ep,k _ _ (.inl rfl) e,c⟩,r⟩
 |rng lo hi=>have⟨t,u,v,e⟩:=x;exact⟨t,u,v,k _ _ (.inl rfl) e⟩
 |frz ob u ih=>have⟨e,q⟩:=x;exact⟨k _ _ (.inl rfl) e,ih q⟩
 |tbl ps=>have e:h.get? a=ς {cls:=.none,data:=.fields ps}:=x;show h'.get? a=ς {cls:=.none,data:=.fields ps};exact k a _ (.inl rfl) e
 |code q=>have⟨c,o,vs,t,e,g,r⟩:=x;cases e;exact⟨a,o,vs,t,rfl,k a _ (.inl rfl) g,r⟩
 |ctab qs=>have⟨ps,g,Z,r2⟩:=x;exact⟨ps,k a _ (.inl rfl) g,Z,λpos q v h1 h2=>let ⟨c,ob,e,g⟩:=r2 pos q v h1 h2;⟨c,ob,e,O c ob q g⟩⟩
 |met f y=>have e:h.get? a=ς (xO9 (.ref f) (.ref y)):=x;show h'.get? a=ς (xO9 (.ref f) (.ref y));exact k a _ (.inl rfl) e
 |ext φ=>have⟨p,⟨o,e⟩,st⟩:=x;exact⟨st _ _ p λo q=>k _ _ (.inl rfl) q,⟨o,k _ _ (.inl rfl) e⟩,st⟩
def HOk.lt(x:HOk P w H h)(e:H a=ς o):a<h.objs.size:=(x a o e).lt
def HOk.fresh(x:HOk P w H h)(e:h.objs.size<=a):H a=ψ:=by
 cases q:H a with
 |none=>rfl
 |some u=>exact absurd (qc6 (x.lt q) e) (qm9 _)
theorem HOk.kept(x:HOk P w H h)(k:∀b u,h.get? b=ς u->h'.get? b=ς u):HOk P w H h':=λa o e=>(x a o e).stay (λb u _ q=>k b u q) (λ_ q=>q) (λ_ _ q=>q) λ_ _ _ q=>q
theorem HOk.laid(x:HOk P w H h)(k:∀b u,h.get? b=ς u->h'.get? b=ς u)(hp:h.objs.size<=a)(new:ObjOk P w (upd H a o) h' a o):HOk P w (upd H a o) h':=λb u e=>by
 have O:=x.fresh hp;by_cases hb:b=a
 .subst hb;rw[af]at e;cases e;exact new
 .rw[ai hb]at e;exact(x b u e).stay (λc v _ q=>k c v q) (λc q=>by rw[ai (aI q O)];exact q) (λc xs q=>by rw[ai (aI q O)];exact q) λc ob xs q=>by rw[ai (aI q O)];exact q
end
def Rd(H:Hp)(a:J4)(u:HO):Prop:=H a=ς u\/∃o,H a=ς (.frz o u)
def Rd.of{u:HO}(h:H a=ς u):Rd H a u:=.inl h
variable{P:qe7}
def Rd.ok{w:J5}{h:Heap}{u:HO}(r:Rd H a u)(x:HOk P w H h):ObjOk P w H h a u:=by
 rcases r with r|⟨o,r⟩
 .exact x a u r
 .have⟨_,q⟩:=x a _ r;exact q
def Mut:ζ HO->Prop
 |some (.e _)=>True
 |some (.dK _)=>True
 |some (.dT _)=>True
 |some (.set _ _)=>True
 |some (.ins _ _ _)=>True
 |some (.ext _)=>True
 |_=>False
section
variable{P:qe7}{w:J5}{H:Hp}{h h':Heap}{x e:J4}{o':HO}
theorem HOk.write (ok:HOk P w H h) (W:Mut (H x)) (he:e=x\/H e=ς (.own x)) (k:∀ b u,b≠e->h.get? b=ς u->h'.get? b=ς u) (heo:∃ u,h'.get? e=ς u)
  (new:ObjOk P w (upd H x o') h' x o'):HOk P w (upd H x o') h':=λb u q=>by
 have U:∀c y,H c=ς (.own y)->c≠x:=λc y r z=>by subst z;rw[r]at W;exact W
 have Z:∀c xs,H c=ς (.t xs)->c≠x:=λc xs r z=>by subst z;rw[r]at W;exact W
 have ncod:∀c ob xs,H c=ς (.frz ob (.code xs))->c≠x:=λc ob xs r z=>by subst z;rw[r]at W;exact W
 by_cases hb:b=x
 .subst hb;rw[af]at q;cases q;exact new
 .rw[ai hb]at q;by_cases O:b=e
  .have q':H b=ς (.own x):=by
    rcases he with z|z
    .exact absurd (O.trans z) hb
    .rw[O];exact z
   rw[q]at q';cases q'
   have⟨v,hv⟩:=heo;exact⟨v,by rw[O];exact hv⟩
  .refine(ok b u q).stay (λc v hc r=>k c v ?_ r) (λc r=>by rw[ai (U c b r)];exact r) (λc xs r=>by rw[ai (Z c xs r)];exact r) λc ob xs r=>by rw[ai (ncod c ob xs r)];exact r
   rcases hc with rfl|hc
   .exact O
   .rintro rfl;rcases he with z|z
    .exact U c b hc z
    .rw[hc]at z;cases z;exact hb rfl
end
structure Un(fs ex:List J4)(H H':Hp)(h h':Heap):Prop where
 keep:∀b o,h.get? b=ς o->H b=ψ->b∉fs->b∉ex->h'.get? b=ς o
 slot:∀b o,h.get? b=ς o->H b=ψ->b∈fs->b∉ex->∃sl,h'.get? b=ς {o with slots:=sl}
 free:∀b o,h.get? b=ς o->H b=ψ->b∉ex->H' b=ψ
 there:∀b o,h.get? b=ς o->b∉ex->∃o',h'.get? b=ς o'
 tups:∀b xs,H b=ς (.t xs)->H' b=ς (.t xs)
 frzs:∀b o u,H b=ς (.frz o u)->H' b=ς (.frz o u)
 tbls:∀b ps,H b=ς (.tbl ps)->∃more,H' b=ς (.tbl (ps++more))
 cts:∀b qs,H b=ς (.ctab qs)->H' b=ς (.ctab qs)
section
variable{fs fs' ex ex':η J4}{H H1 H2:Hp}{h h1 h2 h':Heap}{a x e:J4}{o:HO}
theorem Un.any(u:Un fs ex H H1 h h1){b:J4}{ob:Obj}(q:h.get? b=ς ob)(n:H b=ψ)(O:b∉ex):∃sl,h1.get? b=ς {ob with slots:=sl}:=by
 by_cases hb:b∈fs
 .exact u.slot b ob q n hb O
 .exact⟨ob.slots,u.keep b ob q n hb O⟩
theorem Un.kept(k:∀b u,h.get? b=ς u->h'.get? b=ς u):Un fs ex H H h h':=⟨λb ob q _ _ _=>k b ob q,λb ob q _ _ _=>⟨ob.slots,k b ob q⟩,λ_ _ _ n _=>n,λb ob q _=>⟨ob,k b ob q⟩,λ_ _ q=>q,λ_ _ _ q=>q,λ_ ps q=>⟨#[],by rw[q];simp⟩,λ_ _ q=>q⟩
def Un.refl:Un fs ex H H h h:=Un.kept λ_ _ q=>q
def Un.laid(k:∀b u,h.get? b=ς u->h'.get? b=ς u)(hp:h.objs.size<=a)(O:H a=ψ):Un fs ex H (upd H a o) h h' where
 keep:=λb u q _ _ _=>k b u q
 slot:=λb u q _ _ _=>⟨u.slots,k b u q⟩
 free:=λb u q n _=>by rw[ai (qc2 (qc6 (qb3 q) hp))];exact n
 there:=λb u q _=>⟨u,k b u q⟩
 tups:=λb xs q=>by rw[ai (aI q O)];exact q
 frzs:=λb u xs q=>by rw[ai (aI q O)];exact q
 tbls:=λb ps q=>⟨#[],by rw[ai (aI q O),q];simp⟩
 cts:=λb U q=>by rw[ai (aI q O)];exact q
theorem Un.write(W:Mut (H x))(he:e=x\/H e=ς (.own x))(k:∀b u,b≠e->h.get? b=ς u->h'.get? b=ς u)(Z:∃u,h'.get? e=ς u):Un fs ex H (upd H x o) h h':=by
 have hx:∀b,H b=ψ->b≠x:=λb n z=>by subst z;rw[n]at W;exact W
 have hb:∀b,H b=ψ->b≠e:=λb n z=>by
  subst z;rcases he with r|r
  .exact hx b n r
  .rw[n]at r;cases r
 have U:∀b u,H b=ς u->¬ Mut (ς u)->b≠x:=λb u q nm z=>by subst z;rw[q]at W;exact nm W
 refine⟨λb u q n _ _=>k b u (hb b n) q,λb u q n _ _=>⟨u.slots,k b u (hb b n) q⟩,λb u q n _=>by rw[ai (hx b n)];exact n,λb u q _=>?_,λb xs q=>by rw[ai (U b _ q λz=>z)];exact q,λb u xs q=>by rw[ai (U b _ q λz=>z)];exact q,λb ps q=>⟨#[],by rw[ai (U b _ q λz=>z),q];simp⟩,λb xs q=>by rw[ai (U b _ q λz=>z)];exact q⟩
 by_cases O:b=e
 .subst O;exact Z
 .exact⟨u,k b u O q⟩
end
noncomputable def trk(h:Heap)(H:Hp):η J4:=(qd8 h.objs.size).filter λa=>(H a).isSome
def jL(h:Heap)(H:Hp):Heap:=PySem.W.hideAll h (trk h H)
def pM(h:Heap)(H:Hp):(jL h H).objs.size=h.objs.size:=PySem.W.hideAll_size _ _
theorem qS{h:Heap}{b:J4}{o:Obj}(e:h.get? b=ς o)(n:H b=ψ):(jL h H).get? b=ς o:=PySem.W.hideAll_get _ e λO=>by have q:(H b).isSome=θ:=(za8.mp O).2;rw[n]at q;simp at q
def vI{h:Heap}{b:J4}{o:Obj}(e:(jL h H).get? b=ς o):h.get? b=ς o/\H b=ψ:=by
 have O:h.get? b=ς o:=PySem.W.of_hideAll (trk h H) e;refine⟨O,?_⟩;cases q:H b with
 |none=>rfl
 |some x=>have U:b∈trk h H:=za8.mpr ⟨qf0.mpr (qb3 O),by simp[q]⟩;have z:(jL h H).get? b=ψ:=PySem.W.hideAll_none (trk h H) U;rw[z]at e;cases e
noncomputable def vJ(g h:Heap)(L:J4):η (J4×Obj):=(qd8 h.objs.size).filterMap λa=>if a=L\/(g.get? a).isSome=θ then ψ else(h.get? a).map λo=>(a,o)
def rest(g h:Heap)(L d:J4):η (J4×Obj):=(vJ g h L).filter λp=>decide (p.1≠d)
noncomputable def nestNames:η Str:=["way_to_reading","spoilt"]
noncomputable def Cu(x:Str)(ss:η J6):η ((Nat×Nat)×Str):=ss.filterMap λst=>match st with
 |.FunctionDef name _ _ _ _ _ _ _ _ pos=>ς ((pos.line,pos.col),x++".<locals>."++name)
 |_=>ψ
def zA(K:xA9)(x:Str):ζ (J4×η ((Nat×Nat)×Str)):=match PySem.W.tabIn K x with
 |some (_,P)=>(match xE9 K qe8 x with
  |some (ς (.ref f))=>(match K.lookup f with
   |some o=>(match o.data with
    |.func fd=>(match fd.body with
     |.stmts b=>ς (P,Cu x b)
     |_=>ψ)
    |_=>ψ)
   |none=>ψ)
  |_=>ψ)
 |none=>ψ
def lc(K:xA9):η (J4×η ((Nat×Nat)×Str)):=nestNames.filterMap (zA K)
structure Mod(K:xA9)(mg:Str->Option Value)(base:Heap):Prop where
 kin:K.In base
 glob:base.Ns qe8 mg
 blt:∃mb,base.Ns ze9 mb/\∀x:Str,x≠"__name__"->mb x=qf6 x
 nolimit:base.NoLimit
structure Cx where
 prog:qe7
 w:J5
 K:xA9
 mg:Str->Option Value
 base:Heap
 A:ql5
 N:List Str
 s₀:qa8
 H₀:Hp
 env:Env
 outer:List Env
 stack:List Env
 ex:List J4
 fn:Str->Bool
 calm:Bool
 pn:List (J4×Obj)
 xe:Value->qa8->Prop
noncomputable def frs(l:η Env):η J4:=l.filterMap (·.frame)
abbrev Cx.fs(X:Cx):η J4:=frs X.outer
def Vis(sc:J9)(x:Str):Prop:=sc.names.lookup x=ς .local\/sc.names.lookup x=ς .cell\/sc.names.lookup x=ς .free
def Loc(sc:J9)(x:Str):Prop:=sc.names.lookup x=ς .local\/sc.names.lookup x=ς .cell
def Look(env:Env)(h:Heap)(m:Str->ζ Value)(x:Str)(u:Value):Prop:=(env.kindOf x=ς .local/\m x=ς u)\/((env.kindOf x=ς .cell\/env.kindOf x=ς .free)/\∃c,env.cells.lookup x=ς c/\h.IsCell c (ς u))
structure Cx.Ok(X:Cx):Prop where
 mod:Mod X.K X.mg X.base
 kind:X.env.scope.kind=.function
 glob:X.env.globals=qe8
 blt:X.env.builtins=ze9
 above:X.s₀.heap.objs.size<=X.env.locals
 inj:∀x y c,X.env.cells.lookup x=ς c->X.env.cells.lookup y=ς c->x=y
 has:∀x,(X.env.kindOf x=ς .cell\/X.env.kindOf x=ς .free)->∃c,X.env.cells.lookup x=ς c
 cab:∀x c,X.fn x=θ->X.env.cells.lookup x=ς c->X.s₀.heap.objs.size<=c
 hd:X.calm=θ->X.A.handled=ψ
 frames:X.A.frames=ς X.stack
 stk:X.stack=X.outer\/(X.stack=X.env::X.outer/\X.env.frame=ς X.env.locals)
 exf:∀b∈X.ex,b≠X.env.locals/\∀x c,X.env.cells.lookup x=ς c->c≠b
 bs:∀b o,X.base.get? b=ς o->X.s₀.heap.get? b=ς o/\X.H₀ b=ψ
 bsz:X.base.objs.size<=X.s₀.heap.objs.size
 noex:∀b o,X.base.get? b=ς o->b∉X.ex
 exfs:∀b∈X.ex,b∉X.fs
 funs:X.s₀.heap.FunFrames X.base X.outer
 frf:∀b∈X.fs,X.H₀ b=ψ
 tb:∀p∈lc X.K,X.H₀ p.1=ς (.ctab p.2)
structure Inv(X:Cx)(J0:List (J4×Obj))(σ:List (Option V))(H:Hp)(s:qa8):Prop where
 ok:X.Ok
 os:s.os=X.s₀.os
 bare:za9 s.gens
 base:Un X.fs X.ex X.H₀ H X.s₀.heap s.heap
 loc:∃m,s.heap.Ns X.env.locals m/\∀(i:Nat)(x:Str)(v:V),X.N[i]?=ς x->σ[i]?=ς (ς v)->Vis X.env.scope x->∃u,RelV v u/\Look X.env s.heap m x u
 cell:∀x c,X.env.cells.lookup x=ς c->∃v,s.heap.IsCell c v
 free:H X.env.locals=ψ
 freeC:∀x c,X.env.cells.lookup x=ς c->H c=ψ
 pin:∀p∈X.pn++J0,s.heap.get? p.1=ς p.2/\H p.1=ψ/\p.1≠X.env.locals/\p.1∉X.fs/\∀v,p.2.data≠.cell v
 hok:HOk X.prog X.w H s.heap
 len:σ.length=X.N.length
variable{g':Array GenState}{t' j:Nat}{d':Drawn}{ch:η J4}{N:η Str}{x:Str}{M:Model}{A:ql5}{s':qa8}
section
variable{X:Cx}{J0:η (J4×Obj)}{σ:η (ζ V)}{H H':Hp}{s:qa8}{h':Heap}
theorem Cx.Ok.nofr(ok:X.Ok){b:J4}{o:Obj}(e:X.base.get? b=ς o):b∉X.fs:=λhb=>by have:=(ok.funs.mem hb).1;rw[e]at this;cases this
theorem Inv.bs(I:Inv X J0 σ H s):∀b o,X.base.get? b=ς o->s.heap.get? b=ς o/\H b=ψ:=λb o e=>⟨I.base.keep b o (I.ok.bs b o e).1 (I.ok.bs b o e).2 (I.ok.nofr e) (I.ok.noex b o e),I.base.free b o (I.ok.bs b o e).1 (I.ok.bs b o e).2 (I.ok.noex b o e)⟩
def Inv.bk(I:Inv X J0 σ H s):∀b o,X.base.get? b=ς o->s.heap.get? b=ς o:=λb o e=>(I.bs b o e).1
def Inv.mod(I:Inv X J0 σ H s):Mod X.K X.mg X.base:=I.ok.mod
def Inv.kIn(I:Inv X J0 σ H s):X.K.In s.heap:=I.ok.mod.kin.keeps I.bk
def Inv.fr(I:Inv X J0 σ H s):∃m,Fr X.base X.env.locals s.heap m:=
 let ⟨m,hn,_⟩:=I.loc
 ⟨m,hn,I.bk,qd2 I.ok.bsz I.ok.above⟩
def Inv.lt(I:Inv X J0 σ H s):X.env.locals<s.heap.objs.size:=let ⟨_,hn,_⟩:=I.loc;hn.lt
def Inv.sz(I:Inv X J0 σ H s):X.s₀.heap.objs.size<=s.heap.objs.size:=qd2 I.ok.above (qq7 I.lt)
theorem Inv.nofs(I:Inv X J0 σ H s)(h:s.heap.objs.size<=a):a∉X.fs:=λhb=>by have⟨_,o,O,_⟩:=I.ok.funs.mem hb;exact absurd (qc6 (qb3 O) (qd2 I.sz h)) (qm9 _)
theorem Inv.cne(I:Inv X J0 σ H s):∀x c,X.env.cells.lookup x=ς c->c≠X.env.locals:=λx c e z=>by have⟨v,o,W,Z⟩:=I.cell x c e;have⟨m,⟨o',es,ep,U,O,_⟩,_⟩:=I.loc;rw[z,U]at W;cases W;rw[O]at Z;cases Z
def Inv.funs(I:Inv X J0 σ H s):s.heap.FunFrames X.base X.outer:=by
 have all:∀(l:η Env),(∀b∈frs l,b∈X.fs)->X.s₀.heap.FunFrames X.base l->s.heap.FunFrames X.base l:=by
  intro l;induction l with
  |nil=>intro _ _;trivial
  |cons env r ih=>
   intro W hl;have⟨Z,⟨L,o,O,hn,ho,hd⟩,hr⟩:=hl;have U:L∈X.fs:=W L (by unfold frs;rw[qq1,O];exact qj3);have⟨sl,e⟩:=I.base.slot L o ho (I.ok.frf L U) U λz=>I.ok.exfs L z U
   exact⟨Z,⟨L,_,O,hn,e,hd⟩,ih (λb hb=>W b (by unfold frs;rw[qq1,O];exact qe6 _ hb)) hr⟩
 exact all X.outer (λ_ hb=>hb) I.ok.funs
def Inv.stack(I:Inv X J0 σ H s):s.heap.FunFrames X.base X.stack:=by
 rcases I.ok.stk with e|⟨e,U⟩
 .rw[e];exact I.funs
 .rw[e];have⟨m,O,_⟩:=I.loc;refine .cons (by rw[I.ok.kind];decide) U O ?_ I.funs;exact Heap.get?_none_of_le (qd2 I.ok.bsz I.ok.above)
def Inv.stkSub(I:Inv X J0 σ H s):∀b∈frs X.stack,b∈X.env.locals::X.fs:=λb hb=>by
 rcases I.ok.stk with e|⟨e,O⟩
 .rw[e]at hb;exact qe6 _ hb
 .rw[e]at hb;unfold frs at hb;rw[qq1,O]at hb;exact hb
def Inv.stkFree(I:Inv X J0 σ H s):∀b∈frs X.stack,H b=ψ:=λb hb=>by
 rcases qc4.mp (I.stkSub b hb)with e|hb
 .rw[e];exact I.free
 .have⟨_,o,O,_⟩:=I.ok.funs.mem hb;exact I.base.free b o O (I.ok.frf b hb) λz=>I.ok.exfs b z hb
def Inv.step(I:Inv X J0 σ H s)
 (Z:∀b∈ch,(b∈X.ex\/X.s₀.heap.objs.size<=b)/\b≠X.env.locals/\(∀x c,X.env.cells.lookup x=ς c->c≠b)/\∀p∈X.pn++J0,p.1≠b)
 (keep:∀b o,b≠X.env.locals->b∉X.fs->b∉ch->s.heap.get? b=ς o->H b=ψ->h'.get? b=ς o)
 (slot:∀b o,b≠X.env.locals->b∈X.fs->b∉ch->s.heap.get? b=ς o->H b=ψ->∃sl,h'.get? b=ς {o with slots:=sl}) (free:∀b o,b∉ch->s.heap.get? b=ς o->H b=ψ->H' b=ψ)
 (there:∀b o,b∉ch->s.heap.get? b=ς o->∃o',h'.get? b=ς o')
 (tups:∀b xs,H b=ς (.t xs)->H' b=ς (.t xs)) (frzs:∀b o u,H b=ς (.frz o u)->H' b=ς (.frz o u)) (tbls:∀b ps,H b=ς (.tbl ps)->∃more,H' b=ς (.tbl (ps++more))) (cts:∀b qs,H b=ς (.ctab qs)->H' b=ς (.ctab qs))
 (ns:∀m,s.heap.Ns X.env.locals m->h'.Ns X.env.locals m) (hok:HOk X.prog X.w H' h') (hg:za9 g') :
  Inv X J0 σ H' {s with heap:=h',gens:=g',drawn:=d',toks:=t'}:=by
 have neL:∀b o,X.s₀.heap.get? b=ς o->b≠X.env.locals:=λb o e=>qc2 (qc6 (qb3 e) I.ok.above)
 have neC:∀b o,X.s₀.heap.get? b=ς o->b∉X.ex->b∉ch:=λb o e O hb=>by
  rcases(Z b hb).1 with z|z
  .exact O z
  .exact absurd (qc6 (qb3 e) z) (qm9 _)
 have W:∀x c,X.env.cells.lookup x=ς c->∀v,s.heap.IsCell c v->h'.IsCell c v:=λx c e v hq1=>by
  have⟨o,ho,hd⟩:=hq1;have U:c∉ch:=λz=>(Z c z).2.2.1 x c e rfl
  by_cases hc:c∈X.fs
  .have⟨sl,q⟩:=slot c o (I.cne x c e) hc U ho (I.freeC x c e);exact⟨_,q,hd⟩
  .exact⟨o,keep c o (I.cne x c e) hc U ho (I.freeC x c e),hd⟩
 refine⟨I.ok,I.os,hg,⟨λb o e n hb O=>?_,λb o e n hb O=>?_,λb o e n O=>?_,λb o e O=>?_,λb xs e=>tups b xs (I.base.tups b xs e),λb o xs e=>frzs b o xs (I.base.frzs b o xs e),λb ps e=>?_,λb qs e=>cts b qs (I.base.cts b qs e)⟩,?_,λx c e=>?_,?_,λx c e=>?_,λp hp=>?_,hok,I.len⟩
 .exact keep b o (neL b o e) hb (neC b o e O) (I.base.keep b o e n hb O) (I.base.free b o e n O)
 .have⟨sl,e1⟩:=I.base.slot b o e n hb O;have⟨sl',e2⟩:=slot b _ (neL b o e) hb (neC b o e O) e1 (I.base.free b o e n O);exact⟨sl',e2⟩
 .have⟨o',e1⟩:=I.base.there b o e O;exact free b o' (neC b o e O) e1 (I.base.free b o e n O)
 .have⟨o',e1⟩:=I.base.there b o e O;exact there b o' (neC b o e O) e1
 .have⟨m1,e1⟩:=I.base.tbls b ps e;have⟨m2,e2⟩:=tbls b _ e1;exact⟨m1++m2,by rw[e2,Array.append_assoc]⟩
 .have⟨m,hn,hl⟩:=I.loc;refine⟨m,ns m hn,λi x v e1 e2 e3=>?_⟩;have⟨u,r,l⟩:=hl i x v e1 e2 e3;refine⟨u,r,?_⟩;rcases l with l|⟨k,c,e,z⟩
  .exact .inl l
  .exact .inr ⟨k,c,e,W x c e _ z⟩
 .have⟨v,z⟩:=I.cell x c e;exact⟨v,W x c e v z⟩
 .have⟨m,⟨o,_,_,ho,_⟩,_⟩:=I.loc;exact free _ o (λz=>(Z _ z).2.1 rfl) ho I.free
 .have⟨v,o,ho,hd⟩:=I.cell x c e;exact free c o (λz=>(Z c z).2.2.1 x c e rfl) ho (I.freeC x c e)
 .have⟨e,n,ne,nf,d⟩:=I.pin p hp;have U:p.1∉ch:=λz=>(Z p.1 z).2.2.2 p hp rfl
  exact⟨keep p.1 p.2 ne nf U e n,free p.1 p.2 U e n,ne,nf,d⟩
theorem Inv.un(I:Inv X J0 σ H s)(u:Un X.fs [] H H' s.heap h')(W:HOk X.prog X.w H' h'):Inv X J0 σ H' {s with heap:=h',toks:=t'}:=by
 have⟨m,⟨o,es,ep,ho,r⟩,_⟩:=id I.loc;have⟨sl,hL⟩:=u.any ho I.free Ξ
 exact I.step (g':=s.gens) (d':=s.drawn) (ch:=[]) (λ_ z=>nomatch z) (λb o _ hb _ e n=>u.keep b o e n hb Ξ) (λb o _ hb _ e n=>u.slot b o e n hb Ξ) (λb o _ e n=>u.free b o e n Ξ) (λb o _ e=>u.there b o e Ξ) u.tups u.frzs u.tbls u.cts (λm' hm=>by
  have⟨o',Z,U,O,r'⟩:=hm;rw[ho]at O;cases O
  exact⟨_,Z,U,hL,r'⟩) W I.bare
def Inv.call{ch:η J4}(I:Inv X J0 σ H s)(u:Un (frs X.stack) ch H H' s.heap h')(Z:HOk X.prog X.w H' h')(hg:za9 g')
 (U:∀b∈ch,(b∈X.ex\/X.s₀.heap.objs.size<=b)/\b≠X.env.locals/\(∀x c,X.env.cells.lookup x=ς c->c≠b)/\∀p∈X.pn++J0,p.1≠b) :
  Inv X J0 σ H' {s with heap:=h',gens:=g',drawn:=d',toks:=t'}:=by
 have⟨m,⟨o,es,ep,ho,r⟩,_⟩:=id I.loc;have⟨sl,hL⟩:=u.any ho I.free λz=>(U _ z).2.1 rfl
 exact I.step (ch:=ch) U (λb o hL hb hc e n=>u.keep b o e n (λz=>(qc4.mp (I.stkSub b z)).elim hL hb) hc) (λb o _ _ hc e n=>u.any e n hc) (λb o hc e n=>u.free b o e n hc) (λb o hc e=>u.there b o e hc) u.tups u.frzs u.tbls u.cts (λm' hm=>by
  have⟨o',es',W,O,r'⟩:=hm;rw[ho]at O;cases O
  exact⟨_,es',W,hL,r'⟩) Z hg
def Inv.turned{it:J4}(I:Inv X J0 σ H s)(k:∀b o,b≠it->s.heap.get? b=ς o->h'.get? b=ς o)(hn:H it=ψ)(U:it≠X.env.locals)
 (h1:it∈X.ex\/X.s₀.heap.objs.size<=it) (h2:∀x c,X.env.cells.lookup x=ς c->c≠it) (W:∀p∈X.pn++J0,p.1≠it):Inv X J0 σ H {s with heap:=h',toks:=t'}:=by
 have O:∀b u,H b=ς u->b≠it:=λb u e z=>by rw[z,hn]at e;cases e
 refine I.step (g':=s.gens) (d':=s.drawn) (ch:=[it]) (λb hb=>?_) (λb o _ _ hc e _=>k b o (λz=>hc (by simp[z])) e) (λb o _ _ hc e _=>⟨o.slots,k b o (λz=>hc (by simp[z])) e⟩) (λ_ _ _ _ n=>n)
  (λb o hc e=>⟨o,k b o (λz=>hc (by simp[z])) e⟩) (λ_ _ e=>e) (λ_ _ _ e=>e) (λb ps e=>⟨#[],by rw[e];simp⟩) (λ_ _ e=>e) (λm Z=>?_) (λb u e=>?_) I.bare
 .have e:b=it:=‹hb›
  subst e;exact⟨h1,U,h2,W⟩
 .have⟨o,es,ep,ho,r⟩:=Z;exact⟨o,es,ep,k _ o (qk7 U) ho,r⟩
 .refine(I.hok b u e).stay (λc v hc q=>k c v ?_ q) (λ_ q=>q) (λ_ _ q=>q) λ_ _ _ q=>q
  rcases hc with z|z
  .rw[z];exact O b u e
  .exact O c _ z
def Inv.tok(I:Inv X J0 σ H s)(t:Nat):Inv X J0 σ H {s with toks:=t}:=I.un (h':=s.heap) (t':=t) Un.refl I.hok
theorem Inv.kept(I:Inv X J0 σ H s)(k:∀b u,s.heap.get? b=ς u->h'.get? b=ς u):Inv X J0 σ H {s with heap:=h',toks:=t'}:=I.un (Un.kept k) (I.hok.kept k)
theorem Inv.laid {o:HO} (I:Inv X J0 σ H s) (k:∀ b u,s.heap.get? b=ς u->h'.get? b=ς u) (hp:s.heap.objs.size<=a) (new:ObjOk X.prog X.w (upd H a o) h' a o) :
  Inv X J0 σ (upd H a o) {s with heap:=h',toks:=t'}:=I.un (Un.laid k hp (I.hok.fresh hp)) (I.hok.laid k hp new)
theorem Inv.write{x e:J4}{o:HO}(I:Inv X J0 σ H s)(U:Mut (H x))(W:e=x\/H e=ς (.own x))(k:∀b u,b≠e->s.heap.get? b=ς u->h'.get? b=ς u)(O:∃u,h'.get? e=ς u)(new:ObjOk X.prog X.w (upd H x o) h' x o):Inv X J0 σ (upd H x o) {s with heap:=h',toks:=t'}:=I.un (Un.write U W k O) (I.hok.write U W k O new)
theorem Inv.weak{O:η (ζ V)}(I:Inv X J0 σ H s)(hl:O.length=σ.length)(w:∀(i:Nat) v,O[i]?=ς (ς v)->σ[i]?=ς (ς v)):Inv X J0 O H s:=⟨I.ok,I.os,I.bare,I.base,let ⟨m,hn,hl'⟩:=I.loc;⟨m,hn,λi x v U e2 W=>hl' i x v U (w i v e2) W⟩,I.cell,I.free,I.freeC,I.pin,I.hok,hl.trans I.len⟩
theorem Inv.pins_of{O:η (J4×Obj)}(I:Inv X J0 σ H s)(h:∀p∈O,s.heap.get? p.1=ς p.2/\H p.1=ψ/\p.1≠X.env.locals/\p.1∉X.fs/\∀v,p.2.data≠.cell v):Inv X O σ H s:=⟨I.ok,I.os,I.bare,I.base,I.loc,I.cell,I.free,I.freeC,λp hp=>(qf7.mp hp).elim (λz=>I.pin p (List.mem_append_left _ z)) (h p),I.hok,I.len⟩
theorem gH(U:N.Nodup){i:Nat}(a:N[i]?=ς x)(b:N[j]?=ς x):i=j:=by have⟨h1,O⟩:=gX a;have⟨h2,e2⟩:=gX b;exact(List.getElem_inj U).mp (O.trans e2.symm)
theorem iY{E:Value->qa8->Prop}{i:Nat}{v:V}{Q:Unit->qa8->Prop}(I:Inv X J0 σ H s)(hN:X.N.Nodup)(hi:X.N[i]?=ς x)(Z:Loc X.env.scope x)(r:RelV v u)
 (h:∀s',Inv X J0 (σ.set i (ς v)) H s'->(∃a,qg2 a s.heap s'.heap/\(a=X.env.locals\/X.env.cells.lookup x=ς a))->Q () s') (hf:X.fn x=θ\/X.env.scope.names.lookup x=ς .local:=by first|exact .inl rfl|exact .inr rfl|assumption):wpAny M A (storeName X.env x u) Q E s:=by
 have⟨m,hn,hl⟩:=id I.loc;have hcls:(X.env.scope.kind==.class||(X.env.scope.kind==.module&&X.env.locals != X.env.globals))=ξ:=by rw[I.ok.kind];rfl
 have hiσ:i<σ.length:=by rw[I.len];exact(gX hi).1
 have cne:=I.cne
 have U:∀{a:J4}{h':Heap},(∃o,s.heap.get? a=ς o/\H a=ψ)->qg2 a s.heap h'->HOk X.prog X.w H h':=λ{a h'} ha O b ob e=>by
  have⟨_,_,hfree⟩:=ha;refine(I.hok b ob e).stay (λc w' hc q=>(O.2 c ?_).trans q) (λ_ q=>q) (λ_ _ q=>q) λ_ _ _ q=>q
  rintro rfl;rcases hc with rfl|hc
  .rw[hfree]at e;cases e
  .rw[hfree]at hc;cases hc
 rcases Z with hk|hk
 .refine wpAny_storeName_local hk hn (λh' hn' O=>?_) hcls;have⟨oL,_,_,hoL,_⟩:=id hn;refine h _ ⟨I.ok,I.os,I.bare,⟨λb o e n hb Z=>?_,λb o e n hb Z=>?_,I.base.free,λb o e Z=>?_,I.base.tups,I.base.frzs,I.base.tbls,I.base.cts⟩,⟨_,hn',λj y v' W e2 e3=>?_⟩,λy c e=>?_,I.free,I.freeC,λp hp=>?_,U ⟨oL,hoL,I.free⟩ O,‹I.len›⟩ ⟨_,O,.inl rfl⟩
  .exact(O.2 b (qc2 (qc6 (qb3 e) I.ok.above))).trans (I.base.keep b o e n hb Z)
  .have⟨sl,W⟩:=I.base.slot b o e n hb Z;exact⟨sl,(O.2 b (qc2 (qc6 (qb3 e) I.ok.above))).trans W⟩
  .have⟨o',W⟩:=I.base.there b o e Z;exact⟨o',(O.2 b (qc2 (qc6 (qb3 e) I.ok.above))).trans W⟩
  .by_cases hj:j=i
   .subst hj;rw[hi]at W;cases W
    rw[qe5 hiσ]at e2;cases e2;exact⟨u,r,.inl ⟨hk,Ξ⟩⟩
   .rw[gN (qk7 hj)]at e2;have⟨u',r',q⟩:=hl j y v' W e2 e3;refine⟨u',r',?_⟩;rcases q with ⟨k,e⟩|⟨k,c,e,z⟩
    .refine .inl ⟨k,?_⟩;have:y≠x:=λe=>hj (gH hN W (e▸hi))
     simp[this,e]
    .exact .inr ⟨k,c,e,z.sameBut O (cne y c e)⟩
  .have⟨w',z⟩:=I.cell y c e;exact⟨w',z.sameBut O (cne y c e)⟩
  .have⟨e,n,ne,nf,d⟩:=I.pin p hp;exact⟨(O.2 p.1 ne).trans e,n,ne,nf,d⟩
 .have hfn:X.fn x=θ:=by
   rcases hf with z|z
   .exact z
   .rw[z]at hk;cases hk
  have⟨c,hc⟩:=I.ok.has x (.inl hk);have⟨w',z⟩:=I.cell x c hc;refine wpAny_storeName_cell I.ok.kind hk hc z (λh' hc' O=>?_);have⟨oc,hoc,hocd⟩:=id z;refine h {s with heap:=h'} ⟨I.ok,I.os,I.bare,⟨λb o e n hb Z=>?_,λb o e n hb Z=>?_,I.base.free,λb o e Z=>?_,I.base.tups,I.base.frzs,I.base.tbls,I.base.cts⟩,⟨m,hn.sameBut O (qk7 (cne x c hc)),λj y v' W e2 e3=>?_⟩,λy c' e=>?_,I.free,I.freeC,λp hp=>?_,U ⟨oc,hoc,I.freeC x c hc⟩ O,‹I.len›⟩ ⟨c,O,.inr hc⟩
  .exact(O.2 b (qc2 (qc6 (qb3 e) (I.ok.cab x c hfn hc)))).trans (I.base.keep b o e n hb Z)
  .have⟨sl,W⟩:=I.base.slot b o e n hb Z;exact⟨sl,(O.2 b (qc2 (qc6 (qb3 e) (I.ok.cab x c hfn hc)))).trans W⟩
  .have⟨o',W⟩:=I.base.there b o e Z;exact⟨o',(O.2 b (qc2 (qc6 (qb3 e) (I.ok.cab x c hfn hc)))).trans W⟩
  .by_cases hj:j=i
   .subst hj;rw[hi]at W;cases W
    rw[qe5 hiσ]at e2;cases e2;exact⟨u,r,.inr ⟨.inl hk,c,hc,hc'⟩⟩
   .rw[gN (qk7 hj)]at e2;have⟨u',r',q⟩:=hl j y v' W e2 e3;refine⟨u',r',?_⟩;rcases q with q|⟨k,c',e,z'⟩
    .exact .inl q
    .refine .inr ⟨k,c',e,z'.sameBut O ?_⟩;rintro rfl;exact hj (gH hN W (I.ok.inj _ _ _ e hc▸hi))
  .by_cases hcc:c'=c
   .subst hcc;exact⟨_,hc'⟩
   .have⟨w2,z2⟩:=I.cell y c' e;exact⟨w2,z2.sameBut O hcc⟩
  .have⟨e,n,ne,nf,d⟩:=I.pin p hp;refine⟨(O.2 p.1 ?_).trans e,n,ne,nf,d⟩;intro q;rw[q,hoc]at e;have q':oc=p.2:=qc9 e;exact d w' (by rw[<- q'];exact hocd)
theorem dN{E:Value->qa8->Prop}{i:Nat}{v:V}{Q:Unit->qa8->Prop}(I:Inv X J0 σ H s)(U:X.N.Nodup)(hi:X.N[i]?=ς x)(O:Loc X.env.scope x)(r:RelV v u)
 (h:∀s',Inv X J0 (σ.set i (ς v)) H s'->Q () s') (W:X.fn x=θ\/X.env.scope.names.lookup x=ς .local:=by first|exact .inl rfl|exact .inr rfl|assumption):wpAny M A (storeName X.env x u) Q E s:=
 iY I U hi O r (λs' Z _=>h s' Z) W
theorem Inv.call'(I:Inv X J0 σ H s)(Z:s'.os=s.os)(u:Un (frs X.stack) ch H H' s.heap s'.heap)(U:HOk X.prog X.w H' s'.heap)(W:za9 s'.gens)
 (O:∀b∈ch,(b∈X.ex\/X.s₀.heap.objs.size<=b)/\b≠X.env.locals/\(∀x c,X.env.cells.lookup x=ς c->c≠b)/\∀p∈X.pn++J0,p.1≠b):Inv X J0 σ H' s':=by
 have⟨h',g',d',t',o'⟩:=s';have e:o'=s.os:=Z;subst e;exact I.call (g':=g') (t':=t') (d':=d') u U W O
end
abbrev XK:=Value->ζ J4->Hp->Prop
abbrev ae:=η (ζ V)
abbrev VK:=V->Hp->Prop
abbrev TE:=ae->Hp->VK->Prop
abbrev TT:=ae->Hp->(Bool->Hp->Prop)->Prop
abbrev TA:=ae->Hp->(η V->Hp->Prop)->Prop
structure Ends where
 nx:ae->Hp->Prop
 rt:VK
 bk:ae->Hp->Prop:=λ_ _=>False
 ct:ae->Hp->Prop:=λ_ _=>False
abbrev TS:=Ends->ae->Hp->Prop
def EP(X:Cx)(J0:η (J4×Obj))(σ:ae)(Q:VK)(u:Value)(s':qa8):Prop:=∃v H',Inv X J0 σ H' s'/\RelV v u/\Q v H'
def TP(X:Cx)(J0:η (J4×Obj))(σ:ae)(Q:Bool->Hp->Prop)(b:Bool)(s':qa8):Prop:=∃H',Inv X J0 σ H' s'/\Q b H'
def AP(X:Cx)(J0:η (J4×Obj))(σ:ae)(Q:η V->Hp->Prop)(us:η Value)(s':qa8):Prop:=∃vs H',Inv X J0 σ H' s'/\Vals vs us/\Q vs H'
omit x in
def SP(X:Cx)(J0:η (J4×Obj))(D:Ends)(f:Flow)(s':qa8):Prop:=
 match f with
 |.next=>∃O H',Inv X J0 O H' s'/\D.nx O H'
 |.brk=>∃O H',Inv X J0 O H' s'/\D.bk O H'
 |.cont=>∃O H',Inv X J0 O H' s'/\D.ct O H'
 |.ret u=>∃v O H',Inv X J0 O H' s'/\RelV v u/\D.rt v H'
def PE(X:Cx)(e:J8)(t:TE):Prop:=∀(J0:η (J4×Obj))(s:qa8)(σ:ae)(H:Hp)(Q:VK),Inv X J0 σ H s->t σ H Q->wpAny (model X.prog X.w) X.A (eval e X.env) (EP X J0 σ Q) X.xe s
def PT(X:Cx)(e:J8)(t:TT):Prop:=∀(J0:η (J4×Obj))(s:qa8)(σ:ae)(H:Hp)(Q:Bool->Hp->Prop),Inv X J0 σ H s->t σ H Q->wpAny (model X.prog X.w) X.A (isTrue e X.env (eval e X.env)) (TP X J0 σ Q) X.xe s
def PW(X:Cx)(e:J8)(t:TT):Prop:=∀(O:Sem Value)(J0:η (J4×Obj))(s:qa8)(σ:ae)(H:Hp)(Q:Bool->Hp->Prop),Inv X J0 σ H s->t σ H Q->wpAny (model X.prog X.w) X.A (isTrue e X.env O) (TP X J0 σ Q) X.xe s
variable{X:Cx}{e:J8}
def PW.pt{t:TT}(h:PW X e t):PT X e t:=h _
def PA(X:Cx)(es:η J8)(t:TA):Prop:=∀(pos:Pos)(J0:η (J4×Obj))(s:qa8)(σ:ae)(H:Hp)(Q:η V->Hp->Prop),Inv X J0 σ H s->t σ H Q->wpAny (model X.prog X.w) X.A (spliced (qh6 pos (qb1 es X.env))) (AP X J0 σ Q) X.xe s
def PSBq(X:Cx)(st:J6)(t:TS):Prop:=∀(J0:η (J4×Obj))(s:qa8)(σ:ae)(H:Hp)(D:Ends),Inv X J0 σ H s->t D σ H->wpAny (model X.prog X.w) X.A (exec st X.env) (SP X J0 D) X.xe s
def PSs(X:Cx)(st:η J6)(t:TS):Prop:=∀(J0:η (J4×Obj))(s:qa8)(σ:ae)(H:Hp)(D:Ends),Inv X J0 σ H s->t D σ H->wpAny (model X.prog X.w) X.A (execs st X.env) (SP X J0 D) X.xe s
theorem thn{α:Type}{t:Sem α}{Q Q':α->qa8->Prop}{E:Value->qa8->Prop}{s:qa8}(h:wpAny M A t Q E s)(O:∀a s,Q a s->Q' a s):wpAny M A t Q' E s:=qn5 h O λ_ _ x=>x
variable{pos:Pos}{J0:η (J4×Obj)}{σ:ae}{Q:Value->qa8->Prop}
section
variable{X:Cx}
def qU(i:Nat):TE:=λσ H Q=>∃v,σ[i]?=ς (ς v)/\Q v H
def tC(v:V):TE:=λ_ H Q=>Q v H
theorem zB{i:Nat}(hN:X.N[i]?=ς x)(hv:Vis X.env.scope x)(Z:(x==("__debug__":Str))=ξ:=by decide)(W:(x==("__classdict__":Str))=ξ:=by decide):PE X (.Name x pos) (qU i):=by
 intro J0 s σ H Q I h;have⟨v,e,h⟩:=h;have⟨m,hn,hl⟩:=I.loc;have⟨u,r,l⟩:=hl i x v hN e hv;have fin:EP X J0 σ Q u s:=⟨v,H,I,r,h⟩;rcases l with ⟨U,hm⟩|⟨U,c,hc,O⟩
 .exact wpAny_Name (wpAny_loadName_local I.ok.kind U hn hm fin) Z
 .rcases U with U|U
  .exact wpAny_Name (wpAny_loadName_cell I.ok.kind U hc O fin) Z
  .exact wpAny_Name (wpAny_loadName_free I.ok.kind U hc O fin W) Z
theorem zC{i j pos}:PE X (.Constant (.int i) j pos) (tC (.int i)):=λ_ _ _ H _ I h=>wpAny_Constant_int ⟨.int i,H,I.tok _,⟨_,rfl⟩,h⟩
def Cv{b j pos}:PE X (.Constant (.bool b) j pos) (tC (.bl b)):=λ_ _ _ H _ I h=>Constant_bool ⟨.bl b,H,I,rfl,h⟩
def zD{j pos}:PE X (.Constant .none j pos) (tC .non):=λ_ _ _ H _ I h=>Constant_none ⟨.non,H,I,rfl,h⟩
theorem zE{x j pos}:PE X (.Constant (.str x) j pos) (tC (.str x)):=λ_ _ _ H _ I h=>Calls.Constant_str ⟨.str x,H,I.tok _,⟨_,rfl⟩,h⟩
def Gl(X:Cx)(x:Str):Prop:=X.env.kindOf x=ς .globalImplicit
def eh{E:Value->qa8->Prop}{s:qa8}(I:Inv X J0 σ H s)(W:Gl X x)(O:X.mg x=ς u)(h:Q u s)
 (U:(x==("__debug__":Str))=ξ:=by decide):wpAny (model X.prog X.w) X.A (eval (.Name x pos) X.env) Q E s:=
 qv2 I.ok.kind W (Calls.loadGlobal_global (by rw[I.ok.glob];exact I.mod.glob.keeps I.bk) O h) U
def gJ{E:Value->qa8->Prop}{s:qa8}(I:Inv X J0 σ H s)(hg:Gl X x)(O:X.mg x=ψ)(W:qf6 x=ς u)(h:Q u s)
 (U:x≠"__name__":=by decide) (Z:(x==("__debug__":Str))=ξ:=by decide):wpAny (model X.prog X.w) X.A (eval (.Name x pos) X.env) Q E s:=by
 have⟨mb,h1,h2⟩:=I.mod.blt;exact qv2 I.ok.kind hg (Calls.loadGlobal_builtin (by rw[I.ok.glob];exact I.mod.glob.keeps I.bk) O (by rw[I.ok.blt];exact h1.keeps I.bk) ((h2 x U).trans W) h) Z
theorem vK{v:V}(W:Gl X x)(O:X.mg x=ς u)(r:RelV v u)(U:(x==("__debug__":Str))=ξ:=by decide):PE X (.Name x pos) (tC v):=λ_ _ _ H _ I h=>eh I W O ⟨v,H,I,r,h⟩ U
theorem vL{v:V}(hg:Gl X x)(O:X.mg x=ψ)(W:qf6 x=ς u)(r:RelV v u)(U:x≠"__name__":=by decide)(Z:(x==("__debug__":Str))=ξ:=by decide):PE X (.Name x pos) (tC v):=λ_ _ _ H _ I h=>gJ I hg O W ⟨v,H,I,r,h⟩ U Z
variable{a b:J8}{ta tb:TE}{pos:Pos}
variable{tA tB':TT}{rest:η J8}
def tAnd(t u:TT):TT:=λσ H Q=>t σ H λc H1=>if c=θ then u σ H1 Q else Q ξ H1
def tOr(t u:TT):TT:=λσ H Q=>t σ H λc H1=>if c=θ then Q θ H1 else u σ H1 Q
def tNot(t:TT):TT:=λσ H Q=>t σ H λc H1=>Q (!c) H1
def vM(O:PT X a tA):PW X (.BoolOp .And [a] pos) tA:=by
 intro wh J0 s σ H Q I h;refine isTrue_and (thn (O J0 s σ H Q I h) λc s1 e=>?_);cases c with
 |true=>exact isTrue_and_nil e
 |false=>exact e
def zF(O:PT X a tA):PW X (.BoolOp .Or [a] pos) tA:=by
 intro wh J0 s σ H Q I h;refine isTrue_or (thn (O J0 s σ H Q I h) λc s1 e=>?_);cases c with
 |false=>exact isTrue_or_nil e
 |true=>exact e
def zG(W:PT X a tA)(hb:PW X (.BoolOp .And (b::rest) pos) tB'):PW X (.BoolOp .And (a::b::rest) pos) (tAnd tA tB'):=by
 intro wh J0 s σ H Q I h;refine isTrue_and (thn (W J0 s σ H _ I h) λc s1 O=>?_);have⟨H1,U,q1⟩:=O;cases c with
 |true=>exact hb wh J0 s1 σ H1 Q U q1
 |false=>exact⟨H1,U,q1⟩
def Cw(W:PT X a tA)(hb:PW X (.BoolOp .Or (b::rest) pos) tB'):PW X (.BoolOp .Or (a::b::rest) pos) (tOr tA tB'):=by
 intro wh J0 s σ H Q I h;refine isTrue_or (thn (W J0 s σ H _ I h) λc s1 O=>?_);have⟨H1,U,q1⟩:=O;cases c with
 |true=>exact⟨H1,U,q1⟩
 |false=>exact hb wh J0 s1 σ H1 Q U q1
theorem zH(O:PT X a tA):PT X (.UnaryOp .Not a pos) (tNot tA):=by intro J0 s σ H Q I h;exact isTrue_not (O J0 s σ H (λc H1=>Q (!c) H1) I h)
def Cy(ta tb:TE):TE:=λσ H Q=>ta σ H λx H1=>∃c,x=.bl c/\if c=θ then tb σ H1 Q else Q (.bl ξ) H1
def Cz(ta:TE):TE:=λσ H Q=>ta σ H λx H1=>∃c,x=.bl c/\Q (.bl (!c)) H1
def zI{op}{t:TE}(h:PE X a t):PE X (.BoolOp op [a] pos) t:=λJ0 s σ H Q I O=>BoolOp_one (h J0 s σ H Q I O)
def zJ(W:PE X a ta)(hb:PE X (.BoolOp .And (b::rest) pos) tb):PE X (.BoolOp .And (a::b::rest) pos) (Cy ta tb):=by
 intro J0 s σ H Q I h;refine BoolOp_and (thn (W J0 s σ H _ I h) λv s1 O=>?_);have⟨x,H1,U,Z,q1⟩:=O;have⟨c,rfl,q1⟩:=q1;cases Z;refine qs4 ?_;cases c with
 |true=>exact hb J0 s1 σ H1 Q U q1
 |false=>exact⟨.bl ξ,H1,U,rfl,q1⟩
theorem zK(U:PE X a ta):PE X (.UnaryOp .Not a pos) (Cz ta):=by intro J0 s σ H Q I h;refine UnaryOp_ (thn (U J0 s σ H _ I h) λv s1 O=>?_);have⟨x,H1,Z,W,q1⟩:=O;have⟨c,rfl,q1⟩:=q1;cases W;exact not_of (qs4 ⟨.bl (!c),H1,Z,rfl,q1⟩)
def tIf(t:TT)(ta tb:TE):TE:=λσ H Q=>t σ H λc H1=>if c=θ then ta σ H1 Q else tb σ H1 Q
def qX{c:J8}(hc:PT X c tA)(W:PE X a ta)(hb:PE X b tb):PE X (.IfExp c a b pos) (tIf tA ta tb):=by
 intro J0 s σ H Q I h;refine wpAny_IfExp (thn (hc J0 s σ H _ I h) λd s1 O=>?_);have⟨H1,U,q1⟩:=O;cases d with
 |true=>exact W J0 s1 σ H1 Q U q1
 |false=>exact hb J0 s1 σ H1 Q U q1
end
def SqL(K:xA9)(H:Hp)(a:J4)(xs:η V):Prop:=Rd H a (.e xs)\/∃(o:Obj)(J3:Array Value)(n:Nat),K.lookup a=ς o/\o.cls=.type "list"/\o.dict=ψ/\o.data=.seq J3 n/\J3.size<=qa4/\Vals xs J3.toList
def SqT(K:xA9)(H:Hp)(a:J4)(xs:η V):Prop:=H a=ς (.t xs)\/∃(o:Obj)(J3:Array Value)(n:Nat),K.lookup a=ς o/\o.cls=.type "tuple"/\(o.data=.seq J3 n/\o.dict=ψ)/\J3.size<=qa4/\Vals xs J3.toList
noncomputable def absV:Value->ζ V
 |.none=>ς .non
 |.bool b=>ς (.bl b)
 |.int i _=>ς (.int i)
 |.str x _=>ς (.str x)
 |.bytes b _=>ς (.byt b)
 |.float b _=>ς (.flt b)
 |.ref a=>ς (.ref a)
 |.type n=>ς (.ty n)
 |_=>ψ
def RelV.abs{x:V}(r:RelV x u):absV u=ς x:=by
 cases x with
 |non=>cases r;rfl
 |bl _=>cases r;rfl
 |int _=>have⟨t,rfl⟩:=r;rfl
 |str _=>have⟨t,rfl⟩:=r;rfl
 |byt _=>have⟨t,rfl⟩:=r;rfl
 |flt _=>have⟨t,rfl⟩:=r;rfl
 |ref _=>cases r;rfl
 |ty _=>cases r;rfl
variable{y:V}
def RelV.inj{x:V}(r:RelV x u)(q:RelV y u):x=y:=qc9 (r.abs.symm.trans q.abs)
theorem Vals.inj:∀{xs ys:η V}{us:η Value},Vals xs us->Vals ys us->xs=ys
 |_,_,_,.nil,.nil=>rfl
 |_,_,_,.cons r t,.cons O t'=>by rw[r.inj O,Vals.inj t t']
variable{K:xA9}
section
variable{X:Cx}{J0:η (J4×Obj)}{σ:ae}{H:Hp}{s:qa8}{a:J4}{xs ys:η V}
def SqL.of(h:H a=ς (.e xs)):SqL K H a xs:=.inl (.inl h)
def SqT.of(h:H a=ς (.t xs)):SqT K H a xs:=.inl h
def Inv.list(I:Inv X J0 σ H s)(h:SqL X.K H a xs):∃J3:η Value,Vals xs J3/\PlainL s.heap a J3.toArray/\xs.length<=qa4:=by
 rcases h with h|⟨o,J3,n,O,hc,U,W,Z,r⟩
 .have⟨z,J3,n,r,e⟩:=h.ok I.hok;exact⟨J3,r,⟨_,n,e,rfl,rfl,rfl⟩,z⟩
 .refine⟨J3.toList,r,⟨o,n,I.kIn a o O,hc,U,‹W›⟩,?_⟩;have e:=r.length;rwa[qq2]at e;lia
def Inv.tup(I:Inv X J0 σ H s)(h:SqT X.K H a xs):∃J3:η Value,Vals xs J3/\IsTu s.heap a J3.toArray/\xs.length<=qa4:=by
 rcases h with h|⟨o,J3,n,U,hc,O,W,r⟩
 .have⟨z,J3,r,p⟩:=(Rd.of h).ok I.hok;exact⟨J3,r,p,z⟩
 .refine⟨J3.toList,r,.of (n:=n) (I.kIn a o U) hc ‹O.1› O.2,?_⟩;have e:=r.length;rwa[qq2]at e;lia
theorem Inv.tuple(I:Inv X J0 σ H s)(h:SqT X.K H a xs):∃J3:η Value,Vals xs J3/\IsTup s.heap a J3.toArray/\xs.length<=qa4:=let ⟨J3,r,p,z⟩:=I.tup h;⟨J3,r,p.1,z⟩
def Inv.list_inj(I:Inv X J0 σ H s)(h:SqL X.K H a xs)(h':SqL X.K H a ys):xs=ys:=by
 have⟨J3,r,⟨o,n,e,_,_,d⟩,_⟩:=I.list h;have⟨its',U,⟨o',n',O,_,_,d'⟩,_⟩:=I.list h';rw[e]at O;cases O
 rw[d]at d';injection d' with d1 _;have:J3=its':=‹congrArg zf2 d1›
 subst this;exact r.inj U
def Inv.tuple_inj(I:Inv X J0 σ H s)(h:SqT X.K H a xs)(h':SqT X.K H a ys):xs=ys:=by
 have⟨J3,r,⟨o,e,_,n,d⟩,_⟩:=I.tuple h;have⟨its',U,⟨o',O,_,n',d'⟩,_⟩:=I.tuple h';rw[e]at O;cases O
 rw[d]at d';injection d' with d1 _;have:J3=its':=‹congrArg zf2 d1›
 subst this;exact r.inj U
end
noncomputable abbrev Cx.wish(X:Cx)(E:Value->qa8->Prop):Cx:={X with xe:=E}
abbrev Cx.nox(X:Cx):Cx:=X.wish λ_ _=>False
theorem Cx.Ok.wish(ok:X.Ok)(E:Value->qa8->Prop):(X.wish E).Ok:=⟨ok.mod,ok.kind,ok.glob,ok.blt,ok.above,ok.inj,ok.has,ok.cab,ok.hd,ok.frames,ok.stk,ok.exf,ok.bs,ok.bsz,ok.noex,ok.exfs,ok.funs,ok.frf,ok.tb⟩
theorem Cx.Ok.unwish{E:Value->qa8->Prop}(ok:(X.wish E).Ok):X.Ok:=⟨ok.mod,ok.kind,ok.glob,ok.blt,ok.above,ok.inj,ok.has,ok.cab,ok.hd,ok.frames,ok.stk,ok.exf,ok.bs,ok.bsz,ok.noex,ok.exfs,ok.funs,ok.frf,ok.tb⟩
section
variable{X:Cx}{J0:η (J4×Obj)}{σ:ae}{H:Hp}{s:qa8}{E:Value->qa8->Prop}
theorem Inv.wish(I:Inv X J0 σ H s)(E:Value->qa8->Prop):Inv (X.wish E) J0 σ H s:=⟨I.ok.wish E,I.os,I.bare,I.base,I.loc,I.cell,I.free,I.freeC,I.pin,I.hok,I.len⟩
theorem Inv.unwish(I:Inv (X.wish E) J0 σ H s):Inv X J0 σ H s:=⟨I.ok.unwish,I.os,I.bare,I.base,I.loc,I.cell,I.free,I.freeC,I.pin,I.hok,I.len⟩
omit x in
def SP.unwish{D:Ends}{f:Flow}(h:SP (X.wish E) J0 D f s'):SP X J0 D f s':=by
 cases f with
 |next=>have⟨O,H',I,q⟩:=h;exact⟨O,H',I.unwish,q⟩
 |brk=>have⟨O,H',I,q⟩:=h;exact⟨O,H',I.unwish,q⟩
 |cont=>have⟨O,H',I,q⟩:=h;exact⟨O,H',I.unwish,q⟩
 |ret u=>have⟨v,O,H',I,r,q⟩:=h;exact⟨v,O,H',I.unwish,r,q⟩
theorem PSs.nox{st:η J6}{t:TS}(h:PSs X.nox st t):PSs X st t:=λJ0 s σ H D I O=>qn5 (h J0 s σ H D (I.wish _) O) (λ_ _ q=>q.unwish) λ_ _ z=>qk4 z
end
variable{tc:TT}
section
variable{X:Cx}{st:J6}{rest:η J6}{t u:TS}{e:J8}{te:TE}{pos:Pos}
def qY:TS:=λD σ H=>D.nx σ H
def tSeq(t u:TS):TS:=λD σ H=>t {D with nx:=u D} σ H
def vN:PSs X [] qY:=λ_ _ σ H _ I h=>zb0 ⟨σ,H,I,h⟩
omit x in
def qZ(h1:PSBq X st t)(h2:PSs X rest u):PSs X (st::rest) (tSeq t u):=by
 intro J0 s σ H D I h;refine wpAny_execs_cons (thn (h1 J0 s σ H {D with nx:=u D} I h) λf s1 q=>?_);cases f with
 |next=>have⟨O,H',U,q⟩:=q;exact h2 J0 s1 O H' D U q
 |ret v=>exact q
 |brk=>exact q
 |cont=>exact q
def vO:PSBq X (.Pass pos) qY:=λ_ _ σ H _ I h=>wpAny_Pass ⟨σ,H,I,h⟩
def Inv.quiet{s:qa8}(I:Inv X J0 σ H s):interactive X.env=ξ:=by simp[interactive,I.ok.kind]
omit x in
theorem zL{x j pos pos'}:PSBq X (.Expr (.Constant (.str x) j pos) pos') qY:=λ_ s σ H _ I h=>wpAny_Expr (Calls.Constant_str (show SP X _ _ .next {s with toks:=s.toks+1} from⟨σ,H,I.tok _,h⟩)) I.quiet
def CA(te:TE):TS:=λD σ H=>te σ H λ_ H1=>D.nx σ H1
theorem dq(W:PE X e te)(hs:qi9 e ψ pos.line X.env=pure ξ:=by rfl):PSBq X (.Expr e pos) (CA te):=by intro J0 s σ H D I h;exact wpAny_Expr_any (thn (W J0 s σ H _ I h) λv s1 O=>by have⟨x,H1,U,Z,q1⟩:=O;exact⟨σ,H1,U,q1⟩) I.quiet hs
def tRet(te:TE):TS:=λD σ H=>te σ H D.rt
theorem zM(Z:PE X e te):PSBq X (.Return (ς e) pos) (tRet te):=by intro J0 s σ H D I h;exact wpAny_Return_some (thn (Z J0 s σ H _ I h) λv s1 O=>by have⟨x,H1,W,U,q1⟩:=O;exact⟨x,σ,H1,W,U,q1⟩)
def CB:TS:=λD _ H=>D.rt .non H
def vP:PSBq X (.Return ψ pos) CB:=λ_ _ σ H _ I h=>wpAny_Return_none ⟨.non,σ,H,I,rfl,h⟩
def tIfS(c:TT)(t u:TS):TS:=λD σ H=>c σ H λb H1=>if b=θ then t D σ H1 else u D σ H1
def CC{c:J8}{a b:η J6}(hc:PT X c tc)(W:PSs X a t)(hb:PSs X b u):PSBq X (.If c a b pos) (tIfS tc t u):=by
 intro J0 s σ H D I h;refine wpAny_If (thn (hc J0 s σ H _ I h) λd s1 O=>?_);have⟨H1,U,q1⟩:=O;cases d with
 |true=>exact W J0 s1 σ H1 D U q1
 |false=>exact hb J0 s1 σ H1 D U q1
end
abbrev TG:=V->ae->Hp->(ae->Hp->Prop)->Prop
abbrev TGs:=η V->ae->Hp->(ae->Hp->Prop)->Prop
def PG(X:Cx)(O:J8)(t:TG):Prop:=
 ∀(J0:η (J4×Obj))(s:qa8)(σ:ae)(H:Hp)(v:V)(u:Value)(Q:ae->Hp->Prop),Inv X J0 σ H s->RelV v u->t v σ H Q→
  wpAny (model X.prog X.w) X.A (qz4 O X.env u) (λ_ s'=>∃U H',Inv X J0 U H' s'/\Q U H') X.xe s
def PGs(X:Cx)(ts:η J8)(t:TGs):Prop:=
 ∀(J0:η (J4×Obj))(s:qa8)(σ:ae)(H:Hp)(vs:η V)(us:η Value)(Q:ae->Hp->Prop),Inv X J0 σ H s->Vals vs us->t vs σ H Q→
  wpAny (model X.prog X.w) X.A (assignInOrder ((qi3 ts X.env).map (·.2)) us) (λ_ s'=>∃O H',Inv X J0 O H' s'/\Q O H') X.xe s
abbrev re:=V->V->V->Hp->(Hp->Prop)->Prop
def PSet(X:Cx)(t:re):Prop:=
 ∀(J0:η (J4×Obj))(s:qa8)(σ:ae)(H:Hp)(o i v:V)(O U u:Value)(Q:Hp->Prop),Inv X J0 σ H s->RelV o O->RelV i U->RelV v u->t o i v H Q→
  wpAny (model X.prog X.w) X.A (setItem O U u) (λ_ s'=>∃H',Inv X J0 σ H' s'/\Q H') X.xe s
abbrev TIp:=V->V->Hp->VK->Prop
def PIp(X:Cx)(op:qp7)(t:TIp):Prop:=
 ∀(J0:η (J4×Obj))(s:qa8)(σ:ae)(H:Hp)(x y:V)(v u:Value)(Q:VK),Inv X J0 σ H s->RelV x v->RelV y u->t x y H Q→
  wpAny (model X.prog X.w) X.A (inplaceOp op v u) (EP X J0 σ Q) X.xe s
variable{es:η J8}{tg:J8}{te:TE}{pos':Pos}
section
variable{X:Cx}{pos:Pos}
def ei(i:Nat):TG:=λv σ H Q=>Q (σ.set i (ς v)) H
theorem nZ{i:Nat}(U:X.N.Nodup)(hi:X.N[i]?=ς x)(O:Loc X.env.scope x)(W:X.fn x=θ\/X.env.scope.names.lookup x=ς .local:=by first|exact .inl rfl|exact .inr rfl|assumption):PG X (.Name x pos) (ei i):=by intro J0 s σ H v u Q I r h;exact wpAny_assign_Name (dN I U hi O r (λs' Z=>⟨_,H,Z,h⟩) W)
def gNil:TGs:=λvs σ H Q=>vs=[]/\Q σ H
def CD(t:TG)(u:TGs):TGs:=λvs σ H Q=>∃v r,vs=v::r/\t v σ H λO H'=>u r O H' Q
def vQ:PGs X [] gNil:=by intro J0 s σ H vs us Q I r h;have⟨e,h⟩:=h;subst e;cases r;exact assignInOrder_nil ⟨σ,H,I,h⟩
def rh{t:TG}{u:TGs}(h1:PG X e t)(h2:PGs X es u)
 (hs:(qi3 (e::es) X.env).map (·.2)=qz4 e X.env::(qi3 es X.env).map (·.2):=by rfl):PGs X (e::es) (CD t u):=by
 intro J0 s σ H vs us Q I r h;have⟨v,vr,W,h⟩:=h;subst W;cases r with
 |cons r Z=>rw[hs];refine assignInOrder_cons (thn (h1 J0 s σ H _ _ _ I r h) λ_ s1 O=>?_);have⟨U,H1,I1,q1⟩:=O;exact h2 J0 s1 U H1 _ _ Q I1 Z q1
def gTup(K:xA9)(n:Nat)(t:TGs):TG:=λv σ H Q=>∃a xs,v=.ref a/\SqT K H a xs/\xs.length=n/\t xs σ H Q
def zN{k:Nat}{t:TGs}(hc:X.calm=θ)(h:PGs X es t)
 (hn:(qi3 es X.env).length=n:=by rfl) (U:(qi3 es X.env).findIdx? (·.1)=ψ:=by rfl):PG X (.Tuple es k pos) (gTup X.K n t):=by
 intro J0 s σ H v u Q I r O;have⟨a,xs,Z,hq,hl,O⟩:=O;subst Z;cases r;have⟨J3,W,ht,hz⟩:=I.tuple hq;refine assign_Tuple_tuple (I.ok.hd hc) ht (by simp[hn,<- hl,W.length]) U λh' hx=>?_
 have I1:Inv X J0 σ H {s with heap:=h'}:=I.kept (t':=s.toks) λb o e=>hx b o (qc2 (qb3 e)) e
 exact h J0 _ σ H xs _ Q I1 ‹W› O
def gSub(to U:TE)(t:re):TG:=λv σ H Q=>to σ H λo H1=>U σ H1 λi H2=>t o i v H2 λO=>Q σ O
def zO {o i:J8} {to ti:TE} {t:re} (ho:PE X o to) (hi:PE X i ti) (hs:PSet X t)
  (ha:∀v,qz4 (.Subscript o i pos) X.env v=(do
   let O <- qp1 [v] (eval o X.env);let iv <- qp1 [v,O] (eval i X.env)
   qw6 pos
   qp1 [v,O,iv] (setItem O iv v)
   release [v,O,iv] []):=by intro _;rfl):PG X (.Subscript o i pos) (gSub to ti t):=by
 intro J0 s σ H v u Q I r h;rw[ha];refine wB (qn0 (thn (ho J0 s σ H _ I h) λO s1 U=>?_));have⟨x,H1,I1,r1,q1⟩:=U;refine wB (qn0 (thn (hi J0 s1 σ H1 _ I1 q1) λiv s2 Z=>?_));have⟨y,H2,I2,r2,q2⟩:=Z;refine wB (zd9 (wB (qn0 (thn (hs J0 s2 σ H2 x y v O iv u _ I2 r1 r2 r q2) λ_ s3 W=>?_))));have⟨H3,I3,q3⟩:=W;exact wpAny_release ⟨σ,H3,I3,q3⟩
def vR(te:TE)(g:TG):TS:=λD σ H=>te σ H λx H1=>g x σ H1 D.nx
def rj{g:TG}(he:PE X e te)(W:PG X tg g)(hs:qu0 [tg] e pos.line X.env=pure ξ:=by rfl)(U:ze0 [tg] e X.env=pure ψ:=by rfl)
 (h1:(qi3 [tg] X.env).map (·.2)=[qz4 tg X.env]:=by rfl):PSBq X (.Assign [tg] e pos) (vR te g):=by
 intro J0 s σ H D I h;refine wpAny_Assign_stores (thn (he J0 s σ H _ I h) λv s1 O=>?_) hs U;have⟨x,H1,I1,Z,q1⟩:=O;rw[h1];exact thn (W J0 s1 σ H1 x v _ I1 Z q1) λ_ s2 q=>q
theorem zP {i:Nat} (W:X.N.Nodup) (hi:X.N[i]?=ς x) (U:Loc X.env.scope x) (he:PE X e te) (hs:qi9 e (ς (.Name x pos')) pos.line X.env=pure ξ:=by rfl) (Z:X.fn x=θ\/X.env.scope.names.lookup x=ς .local:=by first | exact .inl rfl | exact .inr rfl | assumption) :
  PSBq X (.Assign [.Name x pos'] e pos) (vR te (ei i)):=by
 intro J0 s σ H D I h;refine wpAny_Assign_Name (thn (he J0 s σ H _ I h) λv s1 O=>?_) hs;have⟨y,H1,I1,r1,q1⟩:=O;exact dN I1 W hi U r1 (λs2 I2=>⟨_,H1,I2,q1⟩) Z
def tAug(i:Nat)(te:TE)(O:TIp):TS:=λD σ H=>∃x,σ[i]?=ς (ς x)/\te σ H λy H1=>O x y H1 λz H2=>D.nx (σ.set i (ς z)) H2
omit x in
theorem zQ {i:Nat} {op:qp7} {ti:TIp} (hN:X.N.Nodup) (hi:X.N[i]?=ς x) (hx:Loc X.env.scope x) (he:PE X e te) (ho:PIp X op ti) (hf:X.fn x=θ\/X.env.scope.names.lookup x=ς .local:=by first | exact .inl rfl | exact .inr rfl | assumption) :
  PSBq X (.AugAssign (.Name x pos') op e pos) (tAug i te ti):=by
 intro J0 s σ H D I h;have⟨v,e1,h⟩:=h;have⟨m,hn,hl⟩:=I.loc;have vis:Vis X.env.scope x:=by rcases hx with k|k;exact .inl k;exact .inr (.inl k)
 have⟨u,r,l⟩:=hl i x v hi e1 vis;refine wpAny_AugAssign_Name ?_
 have go:wpAny (model X.prog X.w) X.A (eval e X.env) (λw Z=>wpAny (model X.prog X.w) X.A (inplaceOp op u w) (λr s₃=>wpAny (model X.prog X.w) X.A (storeName X.env x r) (λ_=>SP X J0 D .next) X.xe s₃) X.xe Z) X.xe s:=by
  refine thn (he J0 s σ H _ I h) λw s1 hq26=>?_
  have⟨y,H1,I1,r1,q1⟩:=hq26;refine thn (ho J0 s1 σ H1 v y u w _ I1 r r1 q1) λz s2 W=>?_
  have⟨zv,H2,I2,r2,q2⟩:=W;exact dN I2 hN hi hx r2 (λs3 I3=>⟨_,H2,I3,q2⟩) hf
 rcases l with ⟨O,hm⟩|⟨O,c,hc,U⟩
 .exact wpAny_loadName_local I.ok.kind O hn hm go
 .rcases O with O|O
  .exact wpAny_loadName_cell I.ok.kind O hc U go
  .rcases hx with k|k
   .have:X.env.scope.names.lookup x=ς .free:=O;rw[k]at this;cases this
   .have:X.env.scope.names.lookup x=ς .free:=O;rw[k]at this;cases this
def ipI(f:Int->Int->Int):TIp:=λx y H Q=>∃i j,x=.int i/\y=.int j/\Q (.int (f i j)) H
theorem zR:PIp X .Add (ipI λi j=>i+j):=by intro J0 s σ H x y v u Q I W U h;have⟨i,j,O,e2,q⟩:=h;subst O;subst e2;have⟨t,rfl⟩:=W;have⟨t',rfl⟩:=U;exact iadd_int ⟨.int _,H,I.tok _,⟨_,rfl⟩,q⟩
end
variable{body:η J6}{tb:TS}
section
variable{X:Cx}{pos:Pos}
def zS(c:TT)(tb:TS):TS:=λD σ H=>∃W:Nat->ae->Hp->Prop,(∃m,W m σ H)/\∀m σ H,W m σ H→
 c σ H λb H1=>if b=θ then ∃N:ae->Hp->Prop,(∀O H',N O H'->∃U,U<m/\W U O H')/\tb {D with nx:=N,ct:=N,bk:=D.nx} σ H1 else D.nx σ H1
omit x in
theorem rA{c:J8}(hp:zb1 (model X.prog X.w) X.A X.env X.xe)(hc:PT X c tc)(hb:PSs X body tb):PSBq X (.While c body [] pos) (zS tc tb):=by
 intro J0 s σ H D I h;have⟨W,⟨m0,w0⟩,turn⟩:=h;refine wpAny_While (codeAny_whileLoop (λn s'=>∃ σ' H',Inv X J0 σ' H' s'/\W n σ' H') ?_ m0 ⟨σ,H,I,w0⟩);rintro n s1 ⟨U,H1,I1,w1⟩;refine qm5 hp (thn (hc J0 s1 U H1 _ I1 (turn n U H1 w1)) λb s2 hq34=>?_);have⟨H2,I2,q2⟩:=hq34;cases b with
 |true=>
  have⟨N,hN,q2⟩:=q2;rw[if_pos rfl];refine qm5 hp (thn (hb J0 s2 U H2 _ I2 q2) λf s3 q3=>?_);cases f with
  |next=>have⟨O,Z,I3,n3⟩:=q3;have⟨m',hm,w3⟩:=hN O Z n3;exact⟨m',hm,O,Z,I3,w3⟩
  |cont=>have⟨O,Z,I3,n3⟩:=q3;have⟨m',hm,w3⟩:=hN O Z n3;exact⟨m',hm,O,Z,I3,w3⟩
  |brk=>exact q3
  |ret v=>exact q3
 |false=>rw[if_neg qb5];exact zb0 ⟨U,H2,I2,q2⟩
end
structure It where
 go:Nat->Hp->Prop
 yld:Nat->Hp->V->Hp->Prop
 stop:Nat->Hp->Prop
def dO(X:Cx)(J0:η (J4×Obj))(H:Hp)(b:J4):Prop:=H b=ψ/\b≠X.env.locals/\b∉X.fs/\(b∈X.ex\/X.s₀.heap.objs.size<=b)/\(∀x c,X.env.cells.lookup x=ς c->c≠b)/\∀p∈X.pn++J0,p.1≠b
def Inv.fpOk{H':Hp}{s:qa8}{b:J4}(I:Inv X J0 σ H s)(hb:s.heap.objs.size<=b)(O:H' b=ψ):dO X J0 H' b:=by
 refine⟨O,qj0 (qc6 I.lt hb),I.nofs hb,.inr (qd2 I.sz hb),λx c e z=>?_,λp hp z=>?_⟩
 .have⟨v,q⟩:=I.cell x c e;exact absurd (qc6 q.lt (by rw[z];exact hb)) (qm9 _)
 .exact absurd (qc6 (qb3 (I.pin p hp).1) (by rw[z];exact hb)) (qm9 _)
structure Turn(P:qe7)(w:J5)(K:xA9)(tg:J8)(J:It)(fp:List J4)(it:J4)(tn:Nat->Heap->Prop):Prop where
 mem:it∈fp
 obj:∀i h,tn i h->∀b∈fp,∃o,h.get? b=ς o/\∀v,o.data≠.cell v
 keep:∀i h h',tn i h->(∀b∈fp,∀o,h.get? b=ς o->h'.get? b=ς o)->tn i h'
 item:∀(X:Cx),X.prog=P->X.w=w->X.K=K->X.calm=θ->∀(i:Nat)(J0:List (J4×Obj))(s:qa8)(σ:ae)(H:Hp)(E:Value->qa8->Prop),Inv X J0 σ H s->(∀b∈fp,dO X J0 H b)->tn i s.heap->J.go i H→
  wpAny (model P w) X.A (qz5 (.ref it)) (λr s1=>∃u,r=ς u∧wpAny (model P w) X.A (qu5 tg (.ref it) u) (λ_ s2=>∃x H',Inv X J0 σ H' s2/\RelV x u/\J.yld i H x H'/\tn (i+1) s2.heap/\∀b∈fp,H' b=ψ) E s1) E s
 done:∀(X:Cx),X.prog=P->X.w=w->X.K=K->X.calm=θ->∀(i:Nat)(J0:List (J4×Obj))(s:qa8)(σ:ae)(H:Hp)(E:Value->qa8->Prop),Inv X J0 σ H s->(∀b∈fp,dO X J0 H b)->tn i s.heap->J.stop i H→
  wpAny (model P w) X.A (qz5 (.ref it)) (λr s1=>r=ψ/\Inv X J0 σ H s1) E s
 self:∀(A:ql5)(i:Nat)(s:qa8)(Q E:Value->qa8->Prop),tn i s.heap->Q (.ref it) s->wpAny (model P w) A (pyIter (.ref it)) Q E s
abbrev TI:=ae->Hp->(It->Hp->Prop)->Prop
def PIE(X:Cx)(J0:η (J4×Obj))(σ:ae)(tg:J8)(R:It->Hp->Prop)(O:Value)(U:qa8):Prop:=∃(it:J4)(fp:η J4)(tn:Nat->Heap->Prop)(J:It)(H':Hp),O=.ref it/\Inv X J0 σ H' U/\Turn X.prog X.w X.K tg J fp it tn/\tn 0 U.heap/\(∀b∈fp,dO X J0 H' b)/\R J H'
def PI(X:Cx)(tg iter:J8)(wi:TI):Prop:=
 ∀(J0:η (J4×Obj))(s:qa8)(σ:ae)(H:Hp)(R:It->Hp->Prop),Inv X J0 σ H s->wi σ H R→
  wpAny (model X.prog X.w) X.A (eval iter X.env) (λv s1=>wpAny (model X.prog X.w) X.A (pyIter v) (PIE X J0 σ tg R) X.xe s1) X.xe s
theorem rB{E:Value->qa8->Prop}{s:qa8}{it:J4}{o:Obj}{n:String}{vs:Array Value}{Q:Unit->qa8->Prop}(Z:s.heap.get? it=ς o)(hc:o.cls=.type n)(W:o.data=.fields vs)
 (U:["enumerate","zip","dict_itemiterator","dict_reverseitemiterator","odict_iterator","itertools.zip_longest","itertools.pairwise"].contains n=ξ) (O:Q () s):wpAny M A (qu5 tg (.ref it) u) Q E s:=by
 unfold qu5
 cases tg<;>first
  |exact qa7 O
  | (cases u<;>first
      |exact qa7 O
      | (refine wB (wpAny_load Z ?_)
         rw[hc,W];show wpAny M A (if(["enumerate","zip","dict_itemiterator","dict_reverseitemiterator","odict_iterator","itertools.zip_longest","itertools.pairwise"].contains n&&vs[0]?==ς (qv5 _))=θ then _ else _) Q E s;rw[if_neg (by intro h;rw[U,zd1]at h;cases h)];exact qa7 O))
noncomputable def Itl(K:xA9)(a:J4):It:=⟨λi H=>∃xs x,SqL K H a xs/\xs[i]?=ς x,λi H x H'=>H'=H/\∀xs,SqL K H a xs->xs[i]?=ς x,λi H=>∃xs,SqL K H a xs/\xs.length<=i⟩
noncomputable def Itt(K:xA9)(a:J4):It:=⟨λi H=>∃xs x,SqT K H a xs/\xs[i]?=ς x,λi H x H'=>H'=H/\∀xs,SqT K H a xs->xs[i]?=ς x,λi H=>∃xs,SqT K H a xs/\xs.length<=i⟩
noncomputable def Itr(lo:Int)(n:Nat):It:=⟨λi _=>i<n,λi H x H'=>H'=H/\x=.int (lo+i),λi _=>n<=i⟩
def pN{w:J5}(a it:J4):Turn P w K tg (Itl K a) [it] it (λi h=>h.IsListIter it a i) where
 mem:=by simp
 obj:=λi h st b hb=>by
  have e:b=it:=‹hb›
  subst e;have⟨o,e,c,d⟩:=st;exact⟨o,e,λv z=>by rw[d]at z;cases z⟩
 keep:=λi h h' st k=>st.at λo e=>k it Ξ o e
 item:=by
  intro X hP hw hK hc i J0 s σ H E I U st hg;subst hP hw hK;have⟨xs,x,W,hx⟩:=hg;have⟨J3,rv,p,hz⟩:=I.list W;have⟨u,hu,ru⟩:=rv.get hx;have⟨f0,f1,f2,f3,Z,f5⟩:=U it Ξ;refine qz9 st p.isList (x:=u) ‹hu› λh' O sb=>?_
  have I1:Inv X J0 σ H {s with heap:=h'}:=I.turned (t':=s.toks) (λb o hb e=>(sb.2 b hb).trans e) f0 f1 f3 Z f5;have⟨o,e,c,d⟩:=id O;exact⟨u,rfl,rB (s:={s with heap:=h'}) e c d Ω ⟨x,H,I1,ru,⟨rfl,λys hy=>by rw[I.list_inj hy W];exact hx⟩,O,λb hb=>(U b hb).1⟩⟩
 done:=by intro X hP hw hK hc i J0 s σ H E I U st hg;subst hP hw hK;have⟨xs,W,hx⟩:=hg;have⟨J3,rv,p,hz⟩:=I.list W;have⟨f0,f1,f2,f3,Z,f5⟩:=U it Ξ;have hl:=rv.length;exact zb2 (I.ok.hd hc) st p.isList (by simp;lia) λh' eb=>⟨rfl,I.turned (t':=s.toks) (λb o hb e=>eb b o hb e) f0 f1 f3 Z f5⟩
 self:=λ_ _ _ _ _ st h=>wpAny_pyIter_listiter st h
def mE{w:J5}(a it:J4):Turn P w K tg (Itt K a) [it] it (λi h=>h.IsTupleIter it a i) where
 mem:=by simp
 obj:=λi h st b hb=>by
  have e:b=it:=‹hb›
  subst e;have⟨o,e,c,d⟩:=st;exact⟨o,e,λv z=>by rw[d]at z;cases z⟩
 keep:=λi h h' st k=>st.at λo e=>k it Ξ o e
 item:=by
  intro X hP hw hK hc i J0 s σ H E I U st hg;subst hP hw hK;have⟨xs,x,W,hx⟩:=hg;have⟨J3,rv,p,hz⟩:=I.tuple W;have⟨u,hu,ru⟩:=rv.get hx;have⟨f0,f1,f2,f3,Z,f5⟩:=U it Ξ;refine qy7 st (show s.heap.IsTuple a J3.toArray from p) (x:=u) ‹hu› λh' O sb=>?_
  have I1:Inv X J0 σ H {s with heap:=h'}:=I.turned (t':=s.toks) (λb o hb e=>(sb.2 b hb).trans e) f0 f1 f3 Z f5;have⟨o,e,c,d⟩:=id O;exact⟨u,rfl,rB (s:={s with heap:=h'}) e c d Ω ⟨x,H,I1,ru,⟨rfl,λys hy=>by rw[I.tuple_inj hy W];exact hx⟩,O,λb hb=>(U b hb).1⟩⟩
 done:=by intro X hP hw hK hc i J0 s σ H E I U st hg;subst hP hw hK;have⟨xs,W,hx⟩:=hg;have⟨J3,rv,p,hz⟩:=I.tuple W;have⟨f0,f1,f2,f3,Z,f5⟩:=U it Ξ;have hl:=rv.length;exact za0 (I.ok.hd hc) st (show s.heap.IsTuple a J3.toArray from p) (by simp;lia) λh' eb=>⟨rfl,I.turned (t':=s.toks) (λb o hb e=>eb b o hb e) f0 f1 f3 Z f5⟩
 self:=λ_ _ _ _ _ st h=>wpAny_pyIter_tupleiter st h
theorem mF{w:J5}(it:J4)(lo:Int)(n:Nat):Turn P w K tg (Itr lo n) [it] it (λi h=>IsRangeIter h it (lo+(i:Nat)*1) ((n:Int)-(i:Nat)) 1) where
 mem:=by simp
 obj:=λi h st b hb=>by
  have e:b=it:=‹hb›
  subst e
  exact⟨_,st,λv z=>by have z':Data.fields _=Data.cell v:=z;cases z'⟩
 keep:=λi h h' st k=>k it Ξ _ st
 item:=by
  intro X hP hw hK hc i J0 s σ H E I U st hg;subst hP hw hK;have⟨f0,f1,f2,f3,Z,f5⟩:=U it Ξ;have W:=Walks.range (prog:=X.prog) (w:=X.w) (I.ok.hd hc) it lo 1 n;refine W.item i s _ _ hg st λv h' tk hv O kk=>?_
  have⟨t,rfl⟩:=hv;have I1:Inv X J0 σ H {s with heap:=h',toks:=tk}:=I.turned (λb o hb e=>kk b o ‹hb› e) f0 f1 f3 Z f5;refine⟨_,rfl,rB (s:={s with heap:=h',toks:=tk}) (n:="range_iterator") O rfl rfl Ω ⟨.int (lo+i),H,I1,⟨t,?_⟩,⟨rfl,rfl⟩,O,λb hb=>(U b hb).1⟩⟩;rw[Int.mul_one]
 done:=by intro X hP hw hK hc i J0 s σ H E I U st hg;subst hP hw hK;have⟨f0,f1,f2,f3,Z,f5⟩:=U it Ξ;exact wpAny_pyNext_range_end (I.ok.hd hc) st (by have:n<=i:=hg;lia) λh' eb=>⟨rfl,I.turned (t':=s.toks) (λb o hb e=>eb b o hb e) f0 f1 f3 Z f5⟩
 self:=λ_ _ _ _ _ st h=>wpAny_pyIter_rangeiter st h
variable{l:J8}{fp:η J4}
section
variable{X:Cx}{tg:J8}
def CF(K:xA9)(tl:TE):TI:=λσ H R=>tl σ H λx H1=>∃a,x=.ref a/\(∃xs,SqL K H1 a xs)/\R (Itl K a) H1
def iTup(K:xA9)(tl:TE):TI:=λσ H R=>tl σ H λx H1=>∃a,x=.ref a/\(∃xs,SqT K H1 a xs)/\R (Itt K a) H1
def vS{tl:TE}(hl:PE X l tl):PI X tg l (CF X.K tl):=by
 intro J0 s σ H R I h;refine thn (hl J0 s σ H _ I h) λv s1 O=>?_
 have⟨x,H1,U,Z,q1⟩:=O;have⟨a,e,⟨xs,W⟩,q⟩:=q1;subst e;cases Z;have⟨J3,rv,p,hz⟩:=U.list W;refine wpAny_pyIter_list p.isList ?_;refine⟨s1.heap.objs.size,[s1.heap.objs.size],_,_,H1,rfl,U.kept (t':=s1.toks) λb o e=>gP _ e,pN a _,⟨_,qb8 _ rfl,rfl,rfl⟩,λb hb=>?_,q⟩;have e:b=s1.heap.objs.size:=‹hb›
 subst e;exact U.fpOk (nL _) (U.hok.fresh (nL _))
def zT{tl:TE}(hl:PE X l tl):PI X tg l (iTup X.K tl):=by
 intro J0 s σ H R I h;refine thn (hl J0 s σ H _ I h) λv s1 O=>?_
 have⟨x,H1,U,Z,q1⟩:=O;have⟨a,e,⟨xs,W⟩,q⟩:=q1;subst e;cases Z;have⟨J3,rv,p,hz⟩:=U.tuple W;refine qr4 (show s1.heap.IsTuple a J3.toArray from p) ?_;refine⟨s1.heap.objs.size,[s1.heap.objs.size],_,_,H1,rfl,U.kept (t':=s1.toks) λb o e=>gP _ e,mE a _,⟨_,qb8 _ rfl,rfl,rfl⟩,λb hb=>?_,q⟩;have e:b=s1.heap.objs.size:=‹hb›
 subst e;exact U.fpOk (nL _) (U.hok.fresh (nL _))
theorem rC{s:qa8}{R:It->Hp->Prop}{E:Value->qa8->Prop}{lo hi:Int}{t u v:Tok}{O:Nat}(I:Inv X J0 σ H s)(h1:-(2^62)<=lo)(h2:lo<2^62)(Z:-(2^62)<=hi)(h4:hi<2^62)
 (q:R (Itr lo (hi-lo).toNat) H):wpAny (model X.prog X.w) X.A (pyIter (.ref s.heap.objs.size)) (PIE X J0 σ tg R) E {s with heap:=s.heap.push {cls:=.type "range",data:=.fields #[.int lo t,.int hi u,.int 1 v]},toks:=O}:=by
 refine wpAny_pyIter_range (IsRange.new ..) (small_one h1 h2 Z h4) ?_;have U:Inv X J0 σ H {s with heap:=s.heap.push {cls:=.type "range",data:=.fields #[.int lo t,.int hi u,.int 1 v]},toks:=O}:=I.kept λb o e=>gP _ e
 refine⟨(s.heap.push {cls:=.type "range",data:=.fields #[.int lo t,.int hi u,.int 1 v]}).objs.size,[(s.heap.push {cls:=.type "range",data:=.fields #[.int lo t,.int hi u,.int 1 v]}).objs.size],_,_,H,rfl,U.kept (t':=O) λb o e=>gP _ e,mF _ lo (hi-lo).toNat,?_,λb hb=>?_,q⟩
 .have W:lo+((0:Nat):Int)*1=lo:=by simp
  have e2:(((hi-lo).toNat:Nat):Int)-((0:Nat):Int)=qj4.Range.rangeSize lo hi 1:=by rw[rangeSize_one];split<;>lia
  show IsRangeIter _ _ (lo+((0:Nat):Int)*1) ((((hi-lo).toNat:Nat):Int)-((0:Nat):Int)) 1;rw[W,e2];exact qb8 _ rfl
 .have e:b=(s.heap.push {cls:=.type "range",data:=.fields #[.int lo t,.int hi u,.int 1 v]}).objs.size:=‹hb›
  subst e;exact U.fpOk (nL _) (U.hok.fresh (nL _))
def yA(ta:TA):TI:=λσ H R=>ta σ H λvs H1=>∃j:Int,vs=[.int j]/\-(2^62)<=j/\j<2^62/\R (Itr 0 j.toNat) H1
theorem pO{a:J8}{ta:TA}{p:Pos}(Z:Gl X "range")(U:X.mg "range"=ψ)(W:PA X [a] ta)(hs:qb1 [a] X.env=[(ξ,eval a X.env)]:=by rfl):PI X tg (.Call (.Name "range" p) [a] [] pos) (yA ta):=by
 intro J0 s σ H R I h;refine Call_ (gJ I Z U boot_range (qo3 (thn (W pos J0 s σ H _ I h) λus s1 O=>?_) hs rfl));have⟨vs,H1,I1,r1,q1⟩:=O;have⟨j,e,q1,q2,q⟩:=q1;subst e;cases r1 with
 |cons r rr=>cases rr;have⟨t,rfl⟩:=r;exact call_range_1 (rC I1 Θ Θ q1 q2 ‹q›)
def tFor(wi:TI)(g:TG)(tb:TS):TS:=λD σ H=>wi σ H λJ H1=>∃W:Nat->Nat->ae->Hp->Prop,(∃m,W 0 m σ H1)/\∀i m σ H,W i m σ H→ (J.stop i H/\D.nx σ H)\/(J.go i H/\∃N:ae->Hp->Prop,(∀O H',N O H'->∃Z,Z<m/\W (i+1) Z O H')/\∀x H',J.yld i H x H'->g x σ H' λU H2=>tb {D with nx:=N,ct:=N,bk:=D.nx} U H2)
noncomputable def eY(fp:η J4)(h:Heap):η (J4×Obj):=fp.filterMap λb=>(h.get? b).map λo=>(b,o)
def cm{h:Heap}{b:J4}{o:Obj}(hb:b∈fp)(e:h.get? b=ς o):(b,o)∈eY fp h:=qv6.mpr ⟨b,hb,by rw[e];rfl⟩
def pP{h:Heap}{p:J4×Obj}(hp:p∈eY fp h):p.1∈fp/\h.get? p.1=ς p.2:=by
 have⟨b,hb,e⟩:=qv6.mp hp;cases q:h.get? b with
 |none=>rw[q]at e;cases e
 |some o=>rw[q]at e;have O:(b,o)=p:=qc9 e;subst O;exact⟨hb,q⟩
theorem Inv.pinned{s:qa8}(I:Inv X J0 σ H s)(U:∀b∈fp,dO X J0 H b)(ho:∀b∈fp,∃o,s.heap.get? b=ς o/\∀v,o.data≠.cell v):Inv X (J0++eY fp s.heap) σ H s:=
 I.pins_of λp hp=>(qf7.mp hp).elim (λz=>I.pin p (qe2 _ z)) λz=>by
  have⟨hb,e⟩:=pP z;have⟨f0,Z,W,_⟩:=U p.1 hb;have⟨o,O,d⟩:=ho p.1 hb;rw[e]at O;cases O
  exact⟨e,f0,Z,W,d⟩
theorem Inv.unpinned{pl:η (J4×Obj)}{s:qa8}(I:Inv X (J0++pl) σ H s):Inv X J0 σ H s:=I.pins_of λp hp=>I.pin p (qe2 _ (List.mem_append_left _ hp))
omit x in
theorem zU{iter:J8}{wi:TI}{g:TG}(hp:zb1 (model X.prog X.w) X.A X.env X.xe)(hc:X.calm=θ)(hi:PI X tg iter wi)(hg:PG X tg g)(hb:PSs X body tb)
 (hs:∀x,qh3 iter X.env x=pure x:=by intro _;rfl):PSBq X (.For tg iter body [] pos) (tFor wi g tb):=by
 intro J0 s σ H D I h;refine wpAny_For (thn (hi J0 s σ H _ I h) λv s1 h1=>thn h1 λitv s2 h2=>?_) hs;have⟨it,fp,tn,J,H2,e,I2,T,st2,f2,W,⟨m0,w0⟩,turn⟩:=h2;subst e
 -- what stays θ of the iterator's objects through the loop
 have U:∀{H':Hp},(∀b∈fp,H' b=ψ)->∀b∈fp,dO X J0 H' b:=λhn b hb=>⟨hn b hb,(f2 b hb).2⟩
 refine codeAny_forLoop_any (λn s'=>∃i σ' H',Inv X J0 σ' H' s'/\tn i s'.heap/\(∀b∈fp,H' b=ψ)/\W i n σ' H') ?_ m0 ⟨0,σ,H2,I2,st2,λb hb=>(f2 b hb).1,w0⟩;rintro n s3 ⟨i,σ3,H3,I3,st3,fr3,w3⟩;rcases turn i n σ3 H3 w3 with ⟨stop,qn⟩|⟨go,N,hN,step⟩
 .refine qm5 hp (thn (T.done X rfl rfl rfl hc i J0 s3 σ3 H3 X.xe I3 (U fr3) st3 stop) λr s4 hq39=>?_);have⟨hr,I4⟩:=hq39;subst hr;exact zb0 ⟨σ3,H3,I4,qn⟩
 .refine qm5 hp (thn (T.item X rfl rfl rfl hc i J0 s3 σ3 H3 X.xe I3 (U fr3) st3 go) λr s4 ⟨u,hr,h4⟩=>?_);subst hr;refine qm5 hp (thn h4 λ_ s5 hq41=>?_);have⟨x,H5,I5,r5,y5,st5,fr5⟩:=hq41;have I5':=I5.pinned (U fr5) (T.obj _ _ st5);refine qm5 hp (thn (hg _ s5 σ3 H5 x u _ I5' r5 (step x H5 y5)) λ_ s6 hq42=>?_);have⟨σ6,H6,I6,q6⟩:=hq42;refine qm5 hp (thn (hb _ s6 σ6 H6 _ I6 q6) λf s7 q7=>?_)
  have Z:∀{O:ae}{H7:Hp},Inv X (J0++eY fp s5.heap) O H7 s7->N O H7->∃m,m<n/\∃i σ' H',Inv X J0 σ' H' s7/\tn i s7.heap/\(∀b∈fp,H' b=ψ)/\W i m σ' H':=λ{O H7} I7 n7=>by have⟨m',hm,w7⟩:=hN O H7 n7;refine⟨m',hm,i+1,O,H7,I7.unpinned,T.keep _ _ _ st5 λb hb o e=>(I7.pin (b,o) (qe2 _ (qe2 _ (cm hb e)))).1,λb hb=>?_,w7⟩;have⟨o,e,d⟩:=T.obj _ _ st5 b hb;exact(I7.pin (b,o) (qe2 _ (qe2 _ (cm hb e)))).2.1
  cases f with
  |next=>have⟨O,H7,I7,n7⟩:=q7;exact Z I7 n7
  |cont=>have⟨O,H7,I7,n7⟩:=q7;exact Z I7 n7
  |brk=>have⟨O,H7,I7,q7⟩:=q7;exact⟨O,H7,I7.unpinned,q7⟩
  |ret v=>have⟨x7,O,H7,I7,r7,q7⟩:=q7;exact⟨x7,O,H7,I7.unpinned,r7,q7⟩
end
abbrev R2:=V->V->Hp->VK->Prop
def OpR(X:Cx)(f:Value->Value->Sem Value)(r:R2):Prop:=
 ∀(J0:η (J4×Obj))(s:qa8)(σ:ae)(H:Hp)(x y:V)(v u:Value)(Q:VK),Inv X J0 σ H s->RelV x v->RelV y u->r x y H Q→
  wpAny (model X.prog X.w) X.A (f v u) (EP X J0 σ Q) X.xe s
def UnR(X:Cx)(f:Value->Sem Value)(r:V->Hp->VK->Prop):Prop:=
 ∀(J0:η (J4×Obj))(s:qa8)(σ:ae)(H:Hp)(x:V)(v:Value)(Q:VK),Inv X J0 σ H s->RelV x v->r x H Q→
  wpAny (model X.prog X.w) X.A (f v) (EP X J0 σ Q) X.xe s
def CallR(X:Cx)(f:Value)(r:η V->Hp->VK->Prop):Prop:=
 ∀(J0:η (J4×Obj))(s:qa8)(σ:ae)(H:Hp)(xs:η V)(us:η Value)(Q:VK),Inv X J0 σ H s->Vals xs us->r xs H Q→
  wpAny (model X.prog X.w) X.A (call f us) (EP X J0 σ Q) X.xe s
def TruR(X:Cx)(r:V->Hp->(Bool->Hp->Prop)->Prop):Prop:=
 ∀(J0:η (J4×Obj))(s:qa8)(σ:ae)(H:Hp)(x:V)(v:Value)(Q:Bool->Hp->Prop),Inv X J0 σ H s->RelV x v->r x H Q→
  wpAny (model X.prog X.w) X.A (truthy v) (TP X J0 σ Q) X.xe s
def tOp(r:R2)(ta tb:TE):TE:=λσ H Q=>ta σ H λx H1=>tb σ H1 λy H2=>r x y H2 Q
def tUn(r:V->Hp->VK->Prop)(ta:TE):TE:=λσ H Q=>ta σ H λx H1=>r x H1 Q
def gK(C:Int->Int->Prop)(g:Int->Int->V):R2:=λx y H Q=>∃i j,x=.int i/\y=.int j/\C i j/\Q (g i j) H
def rI0(g:Int->Int->V):R2:=λx y H Q=>∃i j,x=.int i/\y=.int j/\Q (g i j) H
def rU(g:Int->V):V->Hp->VK->Prop:=λx H Q=>∃i,x=.int i/\Q (g i) H
variable{r:R2}
section
variable{X:Cx}{a b c:J8}{ta tb tc:TE}{pos:Pos}
def zV(ha:PE X a ta)(hb:PE X b tb){s:qa8}{R:V->V->Hp->Prop}(I:Inv X J0 σ H s)
 (h:ta σ H λx H1=>tb σ H1 λy H2=>R x y H2) {f:Value->Value->Sem Value}
 (hf:∀v u s2 x y H2,Inv X J0 σ H2 s2->RelV x v->RelV y u->R x y H2->wpAny (model X.prog X.w) X.A (f v u) Q X.xe s2) :
  wpAny (model X.prog X.w) X.A (eval a X.env) (λv W=>wpAny (model X.prog X.w) X.A (eval b X.env) (λu O=>wpAny (model X.prog X.w) X.A (f v u) Q X.xe O) X.xe W) X.xe s:=by
 refine thn (ha J0 s σ H _ I h) λv s1 U=>?_
 have⟨x,H1,I1,r1,q1⟩:=U;refine thn (hb J0 s1 σ H1 _ I1 q1) λu s2 Z=>?_
 have⟨y,H2,I2,r2,q2⟩:=Z;exact hf v u s2 x y H2 I2 r1 r2 q2
theorem CG{op:qp7}(W:OpR X (qh7 op) r)(O:PE X a ta)(hb:PE X b tb):PE X (.BinOp a op b pos) (tOp r ta tb):=by intro J0 s σ H Q I h;exact wpAny_BinOp (zV O hb I h λv u Z x y H2 U rx ry q=>W J0 Z σ H2 x y v u Q U rx ry q)
theorem CI{op:UnaryOp}{r:V->Hp->VK->Prop}(W:UnR X (unaryOp op) r)(U:PE X a ta):PE X (.UnaryOp op a pos) (tUn r ta):=by intro J0 s σ H Q I h;exact UnaryOp_ (thn (U J0 s σ H _ I h) λv s1 O=>by have⟨x,H1,I1,Z,q1⟩:=O;exact W J0 s1 σ H1 x v Q I1 Z q1)
def opI {f:Value->Value->Sem Value} {C:Int->Int->Prop} {g:Int->Int->Int}
  (O:∀(i j:Int)(t u:Tok)(s:qa8)(Q E:Value->qa8->Prop),C i j->Q (.int (g i j) s.toks) {s with toks:=s.toks+1}->wpAny (model X.prog X.w) X.A (f (.int i t) (.int j u)) Q E s) :
  OpR X f (gK C λi j=>.int (g i j)):=by
 intro J0 s σ H x y v u Q I W U h;have⟨i,j,rfl,rfl,hc,q⟩:=h;have⟨t,rfl⟩:=W;have⟨t',rfl⟩:=U;exact O i j t t' s _ _ hc ⟨.int (g i j),H,I.tok _,⟨_,rfl⟩,q⟩
def rD {f:Value->Value->Sem Value} {g:Int->Int->Int}
  (O:∀(i j:Int)(t u:Tok)(s:qa8)(Q E:Value->qa8->Prop),Q (.int (g i j) s.toks) {s with toks:=s.toks+1}->wpAny (model X.prog X.w) X.A (f (.int i t) (.int j u)) Q E s) :
  OpR X f (rI0 λi j=>.int (g i j)):=by
 intro J0 s σ H x y v u Q I W U h;have⟨i,j,rfl,rfl,q⟩:=h;have⟨t,rfl⟩:=W;have⟨t',rfl⟩:=U;exact O i j t t' s _ _ ⟨.int (g i j),H,I.tok _,⟨_,rfl⟩,q⟩
def opB0 {f:Value->Value->Sem Value} {g:Int->Int->Bool}
  (O:∀(i j:Int)(t u:Tok)(s:qa8)(Q E:Value->qa8->Prop),Q (.bool (g i j)) s->wpAny (model X.prog X.w) X.A (f (.int i t) (.int j u)) Q E s) :
  OpR X f (rI0 λi j=>.bl (g i j)):=by
 intro J0 s σ H x y v u Q I W U h;have⟨i,j,rfl,rfl,q⟩:=h;have⟨t,rfl⟩:=W;have⟨t',rfl⟩:=U;exact O i j t t' s _ _ ⟨.bl (g i j),H,I,rfl,q⟩
def zW(i j:Int):Prop:=0<=j/\j<=1000000/\i.natAbs<2^64
def CMul(i j:Int):Prop:=(-(2^64)<i/\i<2^64)\/(-(2^64)<j/\j<2^64)
def CMul.ok{i j:Int}(h:CMul i j):IntMulOk i j:=by
 rcases h with ⟨h1,h2⟩|⟨h1,h2⟩
 .exact .of_left (intBits_le_64 h1 h2)
 .exact .of_right (intBits_le_64 h1 h2)
def mG(k:Nat):(0:Int)<=2^k:=by rw[two_pow_cast];exact Int.natCast_nonneg _
def zX:OpR X (qh7 .Add) (rI0 λi j=>.int (i+j)):=rD λ_ _ _ _ _ _ _ q=>add_int q
def zY:OpR X (qh7 .Sub) (rI0 λi j=>.int (i-j)):=rD λ_ _ _ _ _ _ _ q=>sub_int q
def zZ:OpR X (qh7 .Mult) (gK CMul λi j=>.int (i*j)):=opI λ_ _ _ _ _ _ _ hc q=>mul_int q hc.ok
theorem z0:OpR X (qh7 .Mod) (gK (λ_ j=>0<j) λi j=>.int (i%j)):=opI λi j _ _ _ _ _ hc q=>by have h1:(0:Int)<j:=hc;exact mod_int' Θ (by rw[Int.fmod_eq_emod_of_nonneg i Θ];exact q)
theorem z6:OpR X (qh7 .Pow) (gK zW λi j=>.int (i^j.toNat)):=opI λ_ _ _ _ _ _ _ hc q=>pow_int_small hc.1 hc.2.1 hc.2.2 q
theorem z7:OpR X (qh7 .RShift) (gK (λ_ j=>0<=j) λi j=>.int (i/2^j.toNat)):=opI λi j _ _ _ _ _ hc q=>rshift_int hc (by rw[qv3 i (mG _)];exact q)
def z8:OpR X (qh7 .BitAnd) (rI0 λi j=>.int (qw7 i j)):=rD λ_ _ _ _ _ _ _ q=>and_int q
def CJ:OpR X (qh7 .BitOr) (rI0 λi j=>.int (qj4.bitOr i j)):=rD λ_ _ _ _ _ _ _ q=>or_int q
def z9:OpR X (qh7 .BitXor) (rI0 λi j=>.int (qj4.bitXor i j)):=rD λ_ _ _ _ _ _ _ q=>xor_int q
def unI {f:Value->Sem Value} {g:Int->Int}
  (O:∀(i:Int)(t:Tok)(s:qa8)(Q E:Value->qa8->Prop),Q (.int (g i) s.toks) {s with toks:=s.toks+1}->wpAny (model X.prog X.w) X.A (f (.int i t)) Q E s) :
  UnR X f (rU λi=>.int (g i)):=by
 intro J0 s σ H x v Q I U h;have⟨i,rfl,q⟩:=h;have⟨t,rfl⟩:=U;exact O i t s _ _ ⟨.int (g i),H,I.tok _,⟨_,rfl⟩,q⟩
def Aa:UnR X (unaryOp .USub) (rU λi=>.int (-i)):=unI λ_ _ _ _ _ q=>neg_int q
end
noncomputable def Ab:V->V->Bool
 |.non,.non=>θ|.non,.int _=>θ|.int _,.non=>θ|.non,.bl _=>θ|.bl _,.non=>θ|.non,.str _=>θ|.str _,.non=>θ
 |.int _,.int _=>θ|.bl _,.bl _=>θ|.str _,.str _=>θ|.byt _,.byt _=>θ
 |.int _,.str _=>θ|.str _,.int _=>θ|.bl _,.str _=>θ|.str _,.bl _=>θ
 |_,_=>ξ
def rEq:R2:=λx y H Q=>Ab x y=θ/\Q (.bl (decide (x=y))) H
def rNe:R2:=λx y H Q=>Ab x y=θ/\Q (.bl (!decide (x=y))) H
def n0{i j:Int}:decide (V.int i=V.int j)=(i==j):=by rw[qr5];simp
def rE{i j:Bool}:decide (V.bl i=V.bl j)=(i==j):=by rw[qr5];simp
def n4{i j:Str}:decide (V.str i=V.str j)=(i==j):=by rw[qr5];simp
def n5{i j:Array UInt8}:decide (V.byt i=V.byt j)=(i.toList==j.toList):=by rw[qr5];cases i;cases j;simp
section
variable{X:Cx}{a b c:J8}{ta tb tc:TE}{pos:Pos}
theorem ar{s:qa8}{Q:VK}{k k':Bool}(I:Inv X J0 σ H s)(q:Q (.bl k) H)(e:k=k'):EP X J0 σ Q (.bool k') s:=by subst e;exact⟨.bl k,H,I,rfl,q⟩
def CK:OpR X (qf1 .Eq) rEq:=by
 intro J0 s σ H x y v u Q I Z O h;have⟨U,q⟩:=h;cases x with
 |non=>
  cases Z;cases y with
  |non=>cases O;exact PySem.EqNone.eq_none_none (ar I q Ξ)
  |bl j=>cases O;exact PySem.EqNone.eq_none_bool (ar I q Ξ)
  |int j=>have⟨t',rfl⟩:=O;exact PySem.EqNone.eq_none_int (ar I q Ξ)
  |str j=>have⟨t',rfl⟩:=O;exact PySem.EqNone.eq_none_str (ar I q Ξ)
  |_=>exact absurd (show ξ=θ from U) qb5
 |bl i=>
  cases Z;cases y with
  |non=>cases O;exact PySem.EqNone.eq_bool_none (ar I q Ξ)
  |bl j=>cases O;exact eq_bool (ar I q rE)
  |str j=>have⟨t',rfl⟩:=O;exact PySem.EqMixed.eq_bool_str (ar I q Ξ)
  |_=>exact absurd (show ξ=θ from U) qb5
 |int i=>
  have⟨t,rfl⟩:=Z;cases y with
  |non=>cases O;exact PySem.EqNone.eq_int_none (ar I q Ξ)
  |int j=>have⟨t',rfl⟩:=O;exact eq_int (ar I q n0)
  |str j=>have⟨t',rfl⟩:=O;exact PySem.EqMixed.eq_int_str (ar I q Ξ)
  |_=>exact absurd (show ξ=θ from U) qb5
 |str i=>
  have⟨t,rfl⟩:=Z;cases y with
  |non=>cases O;exact PySem.EqNone.eq_str_none (ar I q Ξ)
  |bl j=>cases O;exact PySem.EqMixed.eq_str_bool (ar I q Ξ)
  |int j=>have⟨t',rfl⟩:=O;exact PySem.EqMixed.eq_str_int (ar I q Ξ)
  |str j=>have⟨t',rfl⟩:=O;exact eq_str (ar I q n4)
  |_=>exact absurd (show ξ=θ from U) qb5
 |byt i=>
  have⟨t,rfl⟩:=Z;cases y with
  |byt j=>have⟨t',rfl⟩:=O;exact PySem.W.eq_bytes (ar I q n5)
  |_=>exact absurd (show ξ=θ from U) qb5
 |_=>cases y<;>exact absurd (show ξ=θ from U) qb5
def CL:OpR X (qf1 .NotEq) rNe:=by
 intro J0 s σ H x y v u Q I Z O h;have⟨U,q⟩:=h;cases x with
 |non=>
  cases Z;cases y with
  |non=>cases O;exact PySem.EqNone.ne_none_none (ar I q Ξ)
  |bl j=>cases O;exact PySem.EqNone.ne_none_bool (ar I q Ξ)
  |int j=>have⟨t',rfl⟩:=O;exact PySem.EqNone.ne_none_int (ar I q Ξ)
  |str j=>have⟨t',rfl⟩:=O;exact PySem.EqNone.ne_none_str (ar I q Ξ)
  |_=>exact absurd (show ξ=θ from U) qb5
 |bl i=>
  cases Z;cases y with
  |non=>cases O;exact PySem.EqNone.ne_bool_none (ar I q Ξ)
  |bl j=>cases O;exact ne_bool (ar I q (congrArg not rE))
  |str j=>have⟨t',rfl⟩:=O;exact PySem.EqMixed.ne_bool_str (ar I q Ξ)
  |_=>exact absurd (show ξ=θ from U) qb5
 |int i=>
  have⟨t,rfl⟩:=Z;cases y with
  |non=>cases O;exact PySem.EqNone.ne_int_none (ar I q Ξ)
  |int j=>have⟨t',rfl⟩:=O;exact ne_int (ar I q (congrArg not n0))
  |str j=>have⟨t',rfl⟩:=O;exact PySem.EqMixed.ne_int_str (ar I q Ξ)
  |_=>exact absurd (show ξ=θ from U) qb5
 |str i=>
  have⟨t,rfl⟩:=Z;cases y with
  |non=>cases O;exact PySem.EqNone.ne_str_none (ar I q Ξ)
  |bl j=>cases O;exact PySem.EqMixed.ne_str_bool (ar I q Ξ)
  |int j=>have⟨t',rfl⟩:=O;exact PySem.EqMixed.ne_str_int (ar I q Ξ)
  |str j=>have⟨t',rfl⟩:=O;exact ne_str (ar I q (congrArg not n4))
  |_=>exact absurd (show ξ=θ from U) qb5
 |byt i=>
  have⟨t,rfl⟩:=Z;cases y with
  |byt j=>have⟨t',rfl⟩:=O;exact PySem.W.ne_bytes (ar I q (congrArg not n5))
  |_=>exact absurd (show ξ=θ from U) qb5
 |_=>cases y<;>exact absurd (show ξ=θ from U) qb5
def CM:OpR X (qf1 .Lt) (rI0 λi j=>.bl (decide (i<j))):=opB0 λ_ _ _ _ _ _ _ q=>lt_int q
def CN:OpR X (qf1 .Gt) (rI0 λi j=>.bl (decide (j<i))):=opB0 λ_ _ _ _ _ _ _ q=>gt_int q
theorem pQ:OpR X (qf1 .In) (λx y H Q=>∃i j,x=.str i/\y=.str j/\Q (.bl (!(qr6 j i 0 j.length 1).isEmpty)) H):=by intro J0 s σ H x y v u Q I U O h;have⟨i,j,rfl,rfl,q⟩:=h;have⟨t,rfl⟩:=U;have⟨t',rfl⟩:=O;exact in_str (ar I q rfl)
def Ac:OpR X (qf1 .Is) (λx y H Q=>y=.non/\Q (.bl (decide (x=.non))) H):=by
 intro J0 s σ H x y v u Q I O U h;have⟨rfl,q⟩:=h;cases U;refine is_none_gen (ar I q ?_)
 cases x<;>first
  |(cases O;rfl)
  |(have⟨t,rfl⟩:=O;rfl)
def vT:OpR X (qf1 .IsNot) (λx y H Q=>y=.non/\Q (.bl (!decide (x=.non))) H):=by
 intro J0 s σ H x y v u Q I O U h;have⟨rfl,q⟩:=h;cases U;refine isnot_none_gen (ar I q ?_)
 cases x<;>first
  |(cases O;rfl)
  |(have⟨t,rfl⟩:=O;rfl)
def OpR.or{f:Value->Value->Sem Value}{U:R2}(h:OpR X f r)(h':OpR X f U):OpR X f (λx y H Q=>r x y H Q\/U x y H Q):=by
 intro J0 s σ H x y v u Q I W O q;rcases q with q|q
 .exact h J0 s σ H x y v u Q I W O q
 .exact h' J0 s σ H x y v u Q I W O q
theorem vU{op:CmpOp}(Z:OpR X (qf1 op) r)(U:PE X a ta)(hb:PE X b tb)(O:qy8 op b=ξ):PE X (.Compare a [op] [b] pos) (tOp r ta tb):=by intro J0 s σ H Q I h;exact wpAny_Compare1 (zV U hb I h λv u s2 x y H2 W rx ry q=>Z J0 s2 σ H2 x y v u Q W rx ry q) O
def CP(t:TE):TT:=λσ H Q=>t σ H λx H'=>∃k,x=.bl k/\Q k H'
theorem vW{op:CmpOp}(ho:OpR X (qf1 op) r)(ha:PE X a ta)(hb:PE X b tb)(hm:qy8 op b=ξ):PT X (.Compare a [op] [b] pos) (CP (tOp r ta tb)):=by
 intro J0 s σ H Q I h
 refine wpAny_isTrue_Compare1 (thn (ha J0 s σ H _ I h) λv s1 ⟨x,H1,I1,Z,q1⟩=>thn (hb J0 s1 σ H1 _ I1 q1) λu W ⟨y,H2,I2,r2,q2⟩=>thn (ho J0 W σ H2 x y v u _ I2 Z r2 q2) λc s3 O=>?_) hm
 have⟨z,H3,U,r3,k,e,q3⟩:=O;subst e;cases r3;exact qs4 ⟨H3,U,q3⟩
def Ad(K:xA9)(x:V)(H:Hp)(k:Bool):Prop:=
 match x with
 |.non=>k=ξ
 |.bl b=>k=b
 |.int i=>k=(i != 0)
 |.str y=>y.length<=qa4/\k=((y.length:Int) != 0)
 |.byt y=>y.size<=qa4/\k=((y.size:Int) != 0)
 |.ref p=>(∃xs,SqL K H p xs/\k=!xs.isEmpty)\/(∃xs,SqT K H p xs/\k=!xs.isEmpty)\/∃J1,H p=ς (.dK J1)/\k=!J1.isEmpty
 |_=>False
def mH{κ:Type}{J1:η (κ×V)}{vs:η (κ×Value)}(r:KV J1 vs):(!vs.isEmpty)=!J1.isEmpty:=by cases r<;>rfl
def gM{J3:η Value}(r:Vals xs J3):(!J3.toArray.isEmpty)=!xs.isEmpty:=by cases r<;>simp
def eZ:(qa4:Nat)<2^63:=by rw[qb7];decide
def Ae:TruR X (λx H Q=>∃k,Ad X.K x H k/\Q k H):=by
 intro J0 s σ H x v Q I rx h;have⟨k,e,q⟩:=h;have hl:=eZ;have hs:qa4=16777216:=qb7;cases x with
 |non=>cases rx;have e':k=ξ:=e;subst e';exact truthy_none ⟨H,I,q⟩
 |bl b=>cases rx;have e':k=b:=e;subst e';exact qs4 ⟨H,I,q⟩
 |int i=>have⟨t,rfl⟩:=rx;have e':k=(i != 0):=e;subst e';exact PySem.P.truthy_int ⟨H,I,q⟩
 |str y=>have⟨t,rfl⟩:=rx;obtain⟨hy,e'⟩:y.length<=qa4/\k=((y.length:Int) != 0):=e;subst e';exact PySem.P.truthy_str Θ ⟨H,I.tok _,q⟩
 |byt y=>have⟨t,rfl⟩:=rx;obtain⟨hy,e'⟩:y.size<=qa4/\k=((y.size:Int) != 0):=e;subst e';exact PySem.W.truthy_bytes Θ ⟨H,I.tok _,q⟩
 |ref p=>
  cases rx;have e':(∃xs,SqL X.K H p xs/\k=!xs.isEmpty)\/(∃xs,SqT X.K H p xs/\k=!xs.isEmpty)\/∃J1,H p=ς (.dK J1)/\k=!J1.isEmpty:=e;rcases e' with ⟨xs,hx,e'⟩|⟨xs,hx,e'⟩|⟨J1,hx,e'⟩
  .subst e';have⟨J3,r,pl,hz⟩:=I.list hx;have hlen:=r.length;exact wpAny_truthy_list pl.isList (by rwa[qb4];lia) ⟨H,I.tok _,by rw[gM r];exact q⟩
  .subst e';have⟨J3,r,pl,hz⟩:=I.tuple hx;have hlen:=r.length;exact truthy_tuple pl (by rwa[qb4];lia) ⟨H,I.tok _,by rw[gM r];exact q⟩
  .subst e';obtain⟨hz,hS,vs,r,m⟩:J1.length<=qa4/\(p==qk3)=ξ/\∃vs,KV J1 vs/\s.heap.DictOf (aq X.prog X.w) p vs:=I.hok p _ hx;have hlen:J1.length=vs.length:=Paired.length r;exact wpAny_truthy_dict hS m Θ ⟨H,I.tok _,by rw[mH r];exact q⟩
 |_=>exact(show False from e).elim
def rF (W:PE X a ta) (he:∀ O,isTrue a X.env O=(do let v <- O;qw6 a.pos;qp1 [v] (truthy v))) :
  PT X a (λσ H Q=>ta σ H λx H'=>∃k,Ad X.K x H' k/\Q k H'):=by
 intro J0 s σ H Q I h;exact isTrue_plain (thn (W J0 s σ H _ I h) λv s1 U=>by have⟨x,H1,I1,Z,q1⟩:=U;exact Ae J0 s1 σ H1 x v Q I1 Z q1) (he _)
theorem mI:OpR X (qh7 .Add) (λx y H Q=>∃i j,x=.str i/\y=.str j/\i.length+j.length<=qa4/\Q (.str (i++j)) H):=by intro J0 s σ H x y v u Q I W U h;have⟨i,j,rfl,rfl,O,q⟩:=h;have⟨t,rfl⟩:=W;have⟨t',rfl⟩:=U;exact add_str (λt' Z=>⟨.str (i++j),H,I.tok _,⟨_,rfl⟩,q⟩) O
def cQ{x:V}(r:Vals [x] us):∃u,us=[u]/\RelV x u:=by
 cases r with
 |cons U O=>cases O;exact⟨_,rfl,U⟩
def rG{x:V}(r:Vals [x,y] us):∃u w',us=[u,w']/\RelV x u/\RelV y w':=by
 cases r with
 |cons Z W=>
  cases W with
  |cons O U=>cases U;exact⟨_,_,rfl,Z,O⟩
theorem pR(hc:X.calm=θ):CallR X (.builtin "min") (λxs H Q=>∃i j,xs=[.int i,.int j]/\Q (.int (if j<i then j else i)) H):=by
 intro J0 s σ H xs us Q I r h;have⟨i,j,rfl,q⟩:=h;have⟨u,W,rfl,⟨t,rfl⟩,⟨t',rfl⟩⟩:=rG r;refine min_two_ints (I.ok.hd hc) λh' U k=>⟨_,H,I.kept k,?_,q⟩
 by_cases O:j<i
 .rw[if_pos O,if_pos O];exact⟨_,rfl⟩
 .rw[if_neg O,if_neg O];exact⟨_,rfl⟩
theorem pS:CallR X (.type "int") (λxs H Q=>(∃i,xs=[.int i]/\Q (.int i) H)\/∃k,xs=[.bl k]/\Q (.int (if k then 1 else 0)) H):=by
 intro J0 s σ H xs us Q I r h;rcases h with ⟨i,rfl,q⟩|⟨k,rfl,q⟩
 .have⟨u,rfl,t,rfl⟩:=cQ r;exact call_int_int ⟨.int i,H,I,⟨_,rfl⟩,q⟩
 .have⟨u,rfl,O⟩:=cQ r;cases O;exact call_int_bool ⟨.int (if k then 1 else 0),H,I.tok _,⟨_,rfl⟩,q⟩
def LenV(K:xA9)(x:V)(H:Hp)(n:Nat):Prop:=
 match x with
 |.str y=>y.length<=qa4/\n=y.length
 |.byt y=>y.size<=qa4/\n=y.size
 |.ref p=>(∃xs,SqL K H p xs/\n=xs.length)\/∃xs,SqT K H p xs/\n=xs.length
 |_=>False
def rH:CallR X (.builtin "len") (λxs H Q=>∃x n,xs=[x]/\LenV X.K x H n/\Q (.int n) H):=by
 intro J0 s σ H xs us Q I r h;have⟨x,n,rfl,e,q⟩:=h;have⟨u,rfl,rx⟩:=cQ r;have hl:=eZ;have hs:qa4=16777216:=qb7;cases x with
 |str y=>have⟨t,rfl⟩:=rx;obtain⟨hy,e'⟩:y.length<=qa4/\n=y.length:=e;subst e';exact len_str Θ ⟨.int _,H,I.tok _,⟨_,rfl⟩,q⟩
 |byt y=>have⟨t,rfl⟩:=rx;obtain⟨hy,e'⟩:y.size<=qa4/\n=y.size:=e;subst e';exact PySem.W.len_bytes Θ ⟨.int _,H,I.tok _,⟨_,rfl⟩,q⟩
 |ref p=>
  cases rx;have e':(∃xs,SqL X.K H p xs/\n=xs.length)\/∃xs,SqT X.K H p xs/\n=xs.length:=e;rcases e' with ⟨xs,hx,e'⟩|⟨xs,hx,e'⟩
  .subst e';have⟨J3,r',pl,hz⟩:=I.list hx;have hlen:=r'.length;exact Calls.call_len_list pl.isList (by rwa[qb4];lia) ⟨.int xs.length,H,I.tok _,⟨_,by rwa[qb4];rw[hlen]⟩,q⟩
  .subst e';have⟨J3,r',pl,hz⟩:=I.tuple hx;have hlen:=r'.length;exact len_tuple pl (by rwa[qb4];lia) ⟨.int xs.length,H,I.tok _,⟨_,by rwa[qb4];rw[hlen]⟩,q⟩
 |_=>exact(show False from e).elim
end
structure ObjM(h:Heap)(x dx C:J4)(mA:Str->Option Value):Prop where
 obj:h.get? x=ς (xG9 C dx)
 ns:h.Ns1 dx mA
 ne:dx≠x
variable{dx:J4}{mA:Str->ζ Value}
omit x in
def pT{h:Heap}(n:h.Ns1 dx mA):∃U,h.get? dx=ς U/\∀name,xL9 name U=ς (mA name):=by
 have⟨o,es,ep,ho,hd,hk,_,Z⟩:=n;refine⟨o,ho,λname=>?_⟩;have e:=Z name;unfold nsFind findBy at e;rw[<- Array.find?_toList]at e;unfold xL9;rw[hd];dsimp only;split
 .rename_i y q;rw[q]at e;exact congrArg ς e
 .rename_i q;rw[q]at e
  have a:es.toList.any (·.refKey)=ξ:=by rw[List.any_eq_false];intro y hy;have⟨z,t,O⟩:=hk y (Array.mem_toList_iff.mp hy);simp[DictEntry.refKey,O]
  have a':¬ es.toList.any (·.refKey)=θ:=by rw[a];exact qb5
  rw[if_neg a'];exact congrArg ς e
variable{C:J4}
theorem ObjM.look{h:Heap}{x:J4}(I:ObjM h x dx C mA):∃O,PySem.W.InstAt h x (xG9 C dx) C (ς O)/\∀name,xL9 name O=ς (mA name):=
 let ⟨O,ho,hl⟩:=pT I.ns
 ⟨O,⟨I.obj,rfl,rfl,ho⟩,hl⟩
variable{kw:η (Str×Value)}
section
variable{prog:qe7}{w:J5}{A:ql5}{E:Value->qa8->Prop}{s:qa8}{K:xA9}{x dx C f:J4}{mA:Str->ζ Value}{name:Str}{v:Value}
def vX{O:Bool}(X:K.In s.heap)(I:ObjM s.heap x dx C mA)(hg:xJ9 K C name=θ)(Z:xM9 K C=θ)
 (ha:xB9 K (.ref C) name=ς ψ) (hv:mA name=ς v) (U:PySem.W.handedIn v=θ) (h:Q v {s with toks:=s.toks+1}) :
  wpAny (model prog w) A (getAttr (.ref x) name O) Q E s:=by
 have⟨od,J,hl⟩:=I.look;exact PySem.W.get_value X J (xP9 hg).1 (PySem.W.findObj_own Z ha rfl (by rw[hl,hv])) U h
def rJ {pl:Sem Bool} {Q:Value×η Value->qa8->Prop} (X:K.In s.heap) (I:ObjM s.heap x dx C mA) (O:xJ9 K C name=θ)
  (hf:xB9 K (.ref C) name=ς (ς (.ref f))) (Z:xH9 K (.ref f)=θ) (U:mA name=ψ) (h:Q (.ref f,[.ref x]) s) :
  wpAny (model prog w) A (qu6 (.ref x) name pl) Q E s:=by
 have⟨od,J,hl⟩:=I.look;exact PySem.W.method_fn X J (xP9 O).1 (xP9 O).2 hf (beq_iff_eq.mp Z) (by show(xL9 name od).map (·.isSome)=ς ξ;rw[hl,U];rfl) h
def vY {ns:η Str} {Q:Unit->qa8->Prop} (X:K.In s.heap) (I:ObjM s.heap x dx C mA)
  (hs:xB9 K (.ref C) "__setattr__"=ς (ς (.builtin "object.__setattr__"))) (hp:xQ9 K C=θ) (ht:xR9 K C name=ς ψ) (hh:xM9 K C=θ)
  (hw:PySem.Within mA ns) (hsz:ns.length<=qa4)
  (h:∀h',ObjM h' x dx C (λy=>if y=name then ς v else mA y)->qg2 dx s.heap h'->Q () {s with heap:=h',toks:=s.toks+2}) :
  wpAny (model prog w) A (setAttr (.ref x) name v) Q E s:=by
 have⟨od,J,hl⟩:=I.look;refine PySem.W.set_plain X J hs (PySem.W.osa_open (s:={s with toks:=s.toks+1}) (r:=ψ) X J hp ht λb=>?_);have⟨cd,hc,hd'⟩:=PySem.W.any_some hh;have hx:s.heap.get? x=ς ⟨.ref C,ς dx,.plain,#[]⟩:=I.obj;refine wB (qa7 (wB (wB (wpAny_loadPart hx (wB (PySem.W.Looks.here (s:={s with toks:=s.toks+1}) (PySem.W.looks_clsIn X hc) ?_))))));rw[hd'];refine qa7 (a:=ς dx) (wB (qa7 (wB ?_)));refine wpAny_nsSet1 (s:={s with toks:=s.toks+1}) I.ns λh' O U=>?_
 have⟨oD,esD,epD,Z,hdD,hcD⟩:=O.count (PySem.Within.cons name v hw);refine wB (wpAny_lookBehind Z (by rw[hdD];exact pastItsLine_dict (qd2 hcD (by rw[qb6];lia))) ?_);exact qa7 (h _ ⟨(U.2 _ (qk7 I.ne)).trans I.obj,O,I.ne⟩ U)
def rK{R:Result->qa8->Prop}{vs:η Value}(X:K.In s.heap)(U:xS9 K C=θ)
 (hi:xB9 K (.ref C) "__init__"=ς (ς (.ref f))) (Z:PySem.W.typeIn K (.ref f)=ς (.type "function"))
 (h:qu7 (model prog w) (A.under (.builtin "type.__call__" ⟨.ref C::vs,kw⟩)) (.call (.ref f) ⟨.ref (s.heap.objs.size+1)::vs,kw⟩) (PySem.W.InitBack (s.heap.objs.size+1) R)
 {s with heap:=(s.heap.push xF9).push (xG9 C s.heap.objs.size)}) :
  qu7 (model prog w) A (.call (.ref C) ⟨vs,kw⟩) R s:=by
 have⟨hh,g,d,t,os⟩:=s;exact PySem.W.make_core (PySem.W.makes_of X U) (PySem.W.looks_findIn X hi) (λO=>PySem.W.bind_fn X O Z) (.inl rfl) h
end
noncomputable def bA(f:Str)(v:V):η (Str×V)->η (Str×V)
 |[]=>[(f,v)]
 |(g,x)::r=>if g=f then(g,v)::r else(g,x)::bA f v r
theorem fY(f g:Str)(v:V):∀fs:η (Str×V),(bA f v fs).lookup g=if g=f then ς v else fs.lookup g
 |[]=>by
  show qh1 g [(f,v)]=_;by_cases h:g=f
  .have hb:(g==f)=θ:=beq_iff_eq.mpr h;rwa[qh1,hb,if_pos h]
  .have hb:(g==f)=ξ:=beq_eq_false_iff_ne.mpr h;rwa[qh1,hb,if_neg h]
 |(k,x)::r=>by
  have U:=fY f g v r;rw[show bA f v ((k,x)::r)=(if k=f then(k,v)::r else(k,x)::bA f v r)from rfl];by_cases O:k=f
  .rw[if_pos O];by_cases h:g=k
   .have hb:(g==k)=θ:=beq_iff_eq.mpr h;rwa[qh1,hb,if_pos (h.trans O)]
   .have hb:(g==k)=ξ:=beq_eq_false_iff_ne.mpr h;rwa[qh1,hb,if_neg (λe:g=f=>h (e.trans O.symm))]
  .rw[if_neg O];by_cases h:g=k
   .have hb:(g==k)=θ:=beq_iff_eq.mpr h;rwa[qh1,hb,if_neg (λe:g=f=>O (h.symm.trans e))]
   .have hb:(g==k)=ξ:=beq_eq_false_iff_ne.mpr h;rwa[qh1,hb];exact U
theorem fg(f:Str)(v:V):∀fs:η (Str×V),f∈(bA f v fs).map (·.1)/\∀g,g∈fs.map (·.1)->g∈(bA f v fs).map (·.1)
 |[]=>⟨by simp[bA],λg h=>by simp at h⟩
 |(k,x)::r=>by
  have⟨U,W⟩:=fg f v r;rw[show bA f v ((k,x)::r)=(if k=f then(k,v)::r else(k,x)::bA f v r)from rfl];by_cases O:k=f
  .rw[if_pos O];subst O;exact⟨Ξ,λg h=>‹h›⟩
  .rw[if_neg O];refine⟨?_,λg h=>?_⟩
   .rw[qa2];exact qe6 _ U
   .rw[qa2]at h ⊢;rcases qc4.mp h with e|e
    .exact qc4.mpr (.inl e)
    .exact qe6 _ (W g e)
theorem fZ(f:Str)(v:V):∀fs:η (Str×V),(bA f v fs).length<=fs.length+1
 |[]=>by simp[bA]
 |(k,x)::r=>by
  have U:=fZ f v r;rw[show bA f v ((k,x)::r)=(if k=f then(k,v)::r else(k,x)::bA f v r)from rfl];by_cases O:k=f
  .rw[if_pos O,qb6,qb6];lia
  .rw[if_neg O,qb6,qb6];lia
def RelO.some_of{v:V}{o:ζ Value}(r:RelO (ς v) o):∃u,o=ς u/\RelV v u:=by
 cases o with
 |none=>exact(show False from r).elim
 |some u=>exact⟨u,rfl,r⟩
def RelO.none_of{o:ζ Value}(r:RelO ψ o):o=ψ:=by
 cases o with
 |none=>rfl
 |some u=>exact(show False from r).elim
def pU{v:V}(r:RelV v u):PySem.W.handedIn u=θ:=by
 cases v with
 |non=>cases (show u=qg4 from r);rfl
 |bl b=>cases (show u=qs3 b from r);rfl
 |int i=>have⟨t,e⟩:=(show ∃t,u=zd7 i t from r);cases e;rfl
 |str x=>have⟨t,e⟩:=(show ∃t,u=zd8 x t from r);cases e;rfl
 |byt b=>have⟨t,e⟩:=(show ∃t,u=Value.bytes b t from r);cases e;rfl
 |flt b=>have⟨t,e⟩:=(show ∃t,u=Value.float b t from r);cases e;rfl
 |ref a=>cases (show u=qc1 a from r);rfl
 |ty n=>cases (show u=qo8 n from r);rfl
section
variable{P:qe7}{w:J5}{H H':Hp}{h h':Heap}{a C dx:J4}{fs fs':η (Str×V)}
theorem gp(O:HOk P w H h)(e:H a=ς (.ins C dx fs)):∃mA,ObjM h a dx C mA/\(∀f,RelO (fs.lookup f) (mA f))/\PySem.Within mA (fs.map (·.1))/\fs.length<=1000/\H dx=ς (.own a):=by have⟨d,z,U,ob,mA,n,r,q⟩:=(show ObjOk P w H h a (.ins C dx fs)from O a _ e);exact⟨mA,⟨ob,n,U⟩,r,q,z,d⟩
end
structure Cls(K:xA9)(C:J4):Prop where
 pg:xJ9 K C Str.empty=θ
 hd:xM9 K C=θ
 po:xQ9 K C=θ
 sa:xB9 K (.ref C) "__setattr__"=ς (ς (.builtin "object.__setattr__"))
def Cls.get(c:Cls K C)(f:Str):xJ9 K C f=θ:=c.pg
def NoAttr(K:xA9)(C:J4)(f:Str):Prop:=xB9 K (.ref C) f=ς ψ
def NoAttr.taker{f:Str}(n:NoAttr K C f):xR9 K C f=ς ψ:=by unfold xR9;rw[show xB9 K (.ref C) f=ς ψ from n];rfl
structure Meth(K:xA9)(C:J4)(m:Str)(f:J4):Prop where
 at_:xB9 K (.ref C) m=ς (ς (.ref f))
 fn:xH9 K (.ref f)=θ
 kp:xD9 K (.ref f)=θ
variable{m:Str}
section
variable{X:Cx}{J0:η (J4×Obj)}{σ:ae}{H:Hp}{s:qa8}{a C dx:J4}{fs:η (Str×V)}{f:Str}{v:V}{A:ql5}{E:Value->qa8->Prop}
def gU{b:Bool}(I:Inv X J0 σ H s)(e:H a=ς (.ins C dx fs))(c:Cls X.K C)(n:NoAttr X.K C f)(l:fs.lookup f=ς v)
 (h:∀u s',Inv X J0 σ H s'->RelV v u->Q u s'):wpAny (model X.prog X.w) A (getAttr (.ref a) f b) Q E s:=by
 have⟨mA,O,r,_,_,_⟩:=gp I.hok e;have⟨u,W,U⟩:=RelO.some_of (v:=v) (o:=mA f) (by rw[<- l];exact r f);exact vX I.kIn O (c.get f) c.hd n W (pU U) (h u _ (I.tok _) U)
theorem dP{g:J4}{pl:Sem Bool}{Q:Value×η Value->qa8->Prop}(I:Inv X J0 σ H s)(e:H a=ς (.ins C dx fs))(c:Cls X.K C)(k:Meth X.K C m g)(l:fs.lookup m=ψ)
 (h:Q (.ref g,[.ref a]) s):wpAny (model X.prog X.w) A (qu6 (.ref a) m pl) Q E s:=by
 have⟨mA,O,r,_,_,_⟩:=gp I.hok e;have U:mA m=ψ:=RelO.none_of (by rw[<- l];exact r m);exact rJ I.kIn O (c.get m) k.at_ k.fn U h
theorem gV{Q:Unit->qa8->Prop}(I:Inv X J0 σ H s)(e:H a=ς (.ins C dx fs))(c:Cls X.K C)(n:NoAttr X.K C f)(hl:fs.length<1000)(ry:RelV y u)
 (h:∀s',Inv X J0 σ (upd H a (.ins C dx (bA f y fs))) s'->Q () s'):wpAny (model X.prog X.w) A (setAttr (.ref a) f u) Q E s:=by
 have⟨mA,O,r,wi,_,W⟩:=gp I.hok e;have Z:(fs.map (·.1)).length<=qa4:=by rw[qa3,qb7];lia
 refine vY I.kIn O c.sa c.po n.taker c.hd wi Z λh' U sb=>h _ ?_
 have hd:∃o,h'.get? dx=ς o:=let ⟨o,_,_,e',_⟩:=U.ns;⟨o,e'⟩;refine I.write (x:=a) (e:=dx) (by rw[e];exact ql1) (.inr W) (λb q hb z=>(sb.2 b hb).trans z) hd ?_;refine⟨by rw[ai O.ne];exact W,?_,O.ne,U.obj,_,U.ns,λg=>?_,λg hg=>?_⟩
 .have:=fZ f y fs;lia
 .show RelO ((bA f y fs).lookup g) (if g=f then ς u else mA g);rw[fY];by_cases q:g=f
  .rw[if_pos q,if_pos q];exact ry
  .rw[if_neg q,if_neg q];exact r g
 .by_cases q:g=f
  .rw[q];exact(fg f y fs).1
  .refine(fg f y fs).2 g (wi g λz=>hg ?_);show(if g=f then ς u else mA g)=ψ;rw[if_neg q];exact z
theorem Inv.made (I:Inv X J0 σ H s):Inv X J0 σ (upd (upd H s.heap.objs.size (.own (s.heap.objs.size+1))) (s.heap.objs.size+1) (.ins C s.heap.objs.size []))
  {s with heap:=(s.heap.push xF9).push (xG9 C s.heap.objs.size)}:=by
 have O:(s.heap.push xF9).get? s.heap.objs.size=ς xF9:=qb8 s.heap rfl
 have e2:((s.heap.push xF9).push (xG9 C s.heap.objs.size)).get? (s.heap.objs.size+1)=ς (xG9 C s.heap.objs.size):=by
  have:=qb8 (s.heap.push xF9) (o:=xG9 C s.heap.objs.size) rfl
  rw[qn6]at this;assumption
 have e3:(s.heap.push xF9).Ns s.heap.objs.size (λ_=>ψ):=⟨xF9,#[],_,O,rfl,(λe he=>absurd he Ξ),λ_=>rfl⟩;have I1:=I.laid (a:=s.heap.objs.size) (o:=.own (s.heap.objs.size+1)) (h':=s.heap.push xF9) (t':=s.toks) (λb u q=>gP _ q) (nL _) ⟨_,O⟩;refine I1.laid (a:=s.heap.objs.size+1) (o:=.ins C s.heap.objs.size []) (t':=s.toks) (λb u q=>gP _ q) (Nat.le_of_eq (qn6 _ _)) ?_;have U:s.heap.objs.size≠s.heap.objs.size+1:=qc2 (qp8 _);refine⟨by rw[ai U,af],qh2 _,U,e2,λ_=>ψ,(Heap.Ns1.of_empty e3).at λo q=>gP _ q,λ_=>ql1,λy Z=>absurd rfl Z⟩
def vZ{prog:qe7}{w:J5}{env:Env}{f:Str}{s:qa8}(hb:qi8 e f env (eval e env)=eval e env)
 (h:wpAny (model prog w) A (eval e env) (λo O=>wpAny (model prog w) A (getAttr o f θ) Q E O) E s):wpAny (model prog w) A (eval (.Attribute e f pos) env) Q E s:=
 Attribute_any_ h (by rw[arm_eval_Attribute,hb])
end
def tFld(K:xA9)(ta:TE)(f:Str):TE:=λσ H Q=>ta σ H λx H1=>∃a C dx fs v,x=.ref a/\H1 a=ς (.ins C dx fs)/\Cls K C/\NoAttr K C f/\fs.lookup f=ς v/\Q v H1
def sFld(K:xA9)(ta tv:TE)(f:Str):TS:=λD σ H=>tv σ H λy H1=>ta σ H1 λx H2=>∃a C dx fs,x=.ref a/\H2 a=ς (.ins C dx fs)/\Cls K C/\NoAttr K C f/\fs.length<1000∧D.nx σ (upd H2 a (.ins C dx (bA f y fs)))
def InOp(X:Cx)(op:qp7)(rd:V->V->Hp->VK->Prop):Prop:=∀(J0:η (J4×Obj))(s:qa8)(σ:ae)(H:Hp)(x y:V)(u v:Value)(Q:VK),Inv X J0 σ H s->RelV x u->RelV y v->rd x y H Q->wpAny (model X.prog X.w) X.A (inplaceOp op u v) (EP X J0 σ Q) X.xe s
def v0(K:xA9)(ta tv:TE)(rd:V->V->Hp->VK->Prop)(f:Str):TS:=λD σ H=>ta σ H λx H1=>∃a C dx fs v,x=.ref a/\H1 a=ς (.ins C dx fs)/\Cls K C/\NoAttr K C f/\fs.lookup f=ς v∧tv σ H1 λy H2=>rd v y H2 λz U=>∃O fs',U a=ς (.ins C O fs')/\fs'.length<1000/\D.nx σ (upd U a (.ins C O (bA f z fs')))
section
variable{X:Cx}{o e value:J8}{f:Str}{pos pos' tpos:Pos}{ta tv:TE}
theorem Af(he:PE X e ta)(hb:qi8 e f X.env (eval e X.env)=eval e X.env):PE X (.Attribute e f pos) (tFld X.K ta f):=by intro J0 s σ H Q I h;refine vZ hb (thn (he J0 s σ H _ I h) λu s1 O=>?_);have⟨x,H1,I1,Z,a,C,dx,fs,v,ex,U,c,n,l,q⟩:=O;subst ex;obtain rfl:u=qc1 a:=Z;exact gU I1 U c n l λu' s2 I2 W=>⟨v,H1,I2,W,q⟩
theorem Ag(ha:PE X o ta)(hv:PE X value tv)(hs:qi9 value (ς (.Attribute o f pos')) pos.line X.env=pure ξ):PSBq X (.Assign [.Attribute o f pos'] value pos) (sFld X.K ta tv f):=by intro J0 s σ H D I h;refine plainObj_wpAny_Assign_Attribute (thn (hv J0 s σ H _ I h) λu s1 ⟨y,H1,I1,Z,q⟩=>thn (ha J0 s1 σ H1 _ I1 q) λov s2 O=>?_) hs;have⟨x,H2,I2,rx,a,C,dx,fs,ex,W,c,n,l,q2⟩:=O;subst ex;obtain rfl:ov=qc1 a:=rx;exact gV I2 W c n l Z λs3 U=>⟨σ,_,U,q2⟩
theorem pV{op:qp7}{rd:V->V->Hp->VK->Prop}(ha:PE X o ta)(hv:PE X value tv)(Z:InOp X op rd):PSBq X (.AugAssign (.Attribute o f tpos) op value pos) (v0 X.K ta tv rd f):=by
 intro J0 s σ H D I h;refine wpAny_AugAssign_AttributeAny (thn (ha J0 s σ H _ I h) λov s1 U=>?_);have⟨x,H1,I1,rx,a,C,dx,fs,v,ex,ea,c,n,l,q⟩:=U;subst ex;obtain rfl:ov=qc1 a:=rx;refine gU I1 ea c n l λu s2 I2 ru=>thn (hv J0 s2 σ H1 _ I2 q) λw3 s3 ⟨y,H2,I3,ry,q3⟩=>thn (Z J0 s3 σ H2 v y u w3 _ I3 ru ry q3) λw4 s4 O=>?_
 have⟨z,H3,I4,rz,dx',fs',W,l',q4⟩:=O;exact gV I4 W c n l' rz λs5 I5=>⟨σ,_,I5,q4⟩
def yB{pl:Sem Bool}{apos:Pos}{args:η J8}{s:qa8}(he:PE X e te)(I:Inv X J0 σ H s)
 (h:te σ H λx H1=>∃a C dx fs g,x=.ref a/\H1 a=ς (.ins C dx fs)/\Cls X.K C/\Meth X.K C m g/\fs.lookup m=ψ∧
 ∀s1,Inv X J0 σ H1 s1->wpAny (model X.prog X.w) X.A (zc8 pos (.ref g) [.ref a] (qh6 pos (qb1 args X.env)) (qo9 pos (qi4 [] X.env))) Q X.xe s1)
 (ht:eval (.Call (.Attribute e m apos) args [] pos) X.env=(do
 let ov <- eval e X.env
 qw6 apos.atName
 let (f,first) <- qp1 [ov] (qu6 ov m pl)
 zc8 pos f first (qh6 pos (qb1 args X.env)) (qo9 pos (qi4 [] X.env)))) :
  wpAny (model X.prog X.w) X.A (eval (.Call (.Attribute e m apos) args [] pos) X.env) Q X.xe s:=by
 refine xT9 (pl:=pl) (thn (he J0 s σ H _ I h) λu s1 O=>?_) ht;have⟨x,H1,U,Z,a,C,dx,fs,g,ex,ea,c,k,l,q⟩:=O;subst ex;obtain rfl:u=qc1 a:=Z;exact dP U ea c k l (q s1 U)
end
section
variable{X:Cx}{J0:η (J4×Obj)}{σ:ae}{H:Hp}{s:qa8}{A:ql5}{E Q:Value->qa8->Prop}{c:Value}{b:Bool}
inductive TyOf(K:xA9)(H:Hp):V->Value->Prop where
 |non:TyOf K H .non (.type "NoneType")
 |bl (x:Bool):TyOf K H (.bl x) (.type "bool")
 |int (i:Int):TyOf K H (.int i) (.type "int")
 |str (x:Str):TyOf K H (.str x) (.type "str")
 |flt (x:UInt64):TyOf K H (.flt x) (.type "float")
 |e {a:J4} {xs:List V} (e:H a=ς (.e xs)):TyOf K H (.ref a) (.type "list")
 |frz {a:J4} {o:Obj} {xs:List V} (e:H a=ς (.frz o (.e xs))):TyOf K H (.ref a) (.type "list")
 |t {a:J4} {xs:List V} (e:H a=ς (.t xs)):TyOf K H (.ref a) (.type "tuple")
 |dK {a:J4} {J1:List (Key×V)} (e:H a=ς (.dK J1)):TyOf K H (.ref a) (.type "dict")
 |dT {a:J4} {J1:List (List Key×V)} (e:H a=ς (.dT J1)):TyOf K H (.ref a) (.type "dict")
 | ins {a C dx:J4} {fs:List (Str×V)} (e:H a=ς (.ins C dx fs)) (cl:Cls K C) (ha:xB9 K (.ref C) "__class__"=ς (ς (.builtin "object.__class__")))
     (hn:PySem.W.specialIn K (.builtin "object.__class__") "__get__"=ς (ς (.builtin "getset_descriptor.__get__"))) (htk:PySem.W.takesIn K (.builtin "object.__class__")=ς θ)
     (hm:PySem.W.mroIn K C (.type "object")=ς θ):TyOf K H (.ref a) (.ref C)
theorem dw {x:V} {t:Value} (I:Inv X J0 σ H s) (Z:RelV x u) (ty:TyOf X.K H x t) (e:xI9 X.K t c=ς b) (h:∀ tk,Q (.bool b) {s with toks:=tk}) :
  wpAny (model X.prog X.w) A (call (.builtin "isinstance") [u,c]) Q E s:=by
 cases ty with
 |non=>cases (show u=qg4 from Z);exact xC9 PySem.W.kitx_none I.kIn ql1 e (λz=>nomatch z) h
 |bl y=>cases (show u=qs3 y from Z);exact xC9 PySem.W.kitx_bool I.kIn ql1 e (λz=>nomatch z) h
 |int i=>have⟨t,q⟩:=(show ∃t,u=zd7 i t from Z);cases q;exact xC9 PySem.W.kitx_int I.kIn ql1 e (λz=>nomatch z) h
 |str y=>have⟨t,q⟩:=(show ∃t,u=zd8 y t from Z);cases q;exact xC9 PySem.W.kitx_str I.kIn ql1 e (λz=>nomatch z) h
 |flt y=>have⟨t,q⟩:=(show ∃t,u=Value.float y t from Z);cases q;exact xC9 PySem.W.kitx_float I.kIn ql1 e (λz=>nomatch z) h
 |@e a xs U=>cases (show u=qc1 a from Z);have⟨_,_,n,_,h1⟩:=(show ObjOk X.prog X.w H s.heap a (.e xs)from I.hok a _ U);exact xC9 xU9 I.kIn ⟨_,h1,rfl⟩ e (λz=>nomatch z) h
 |@frz a ob xs U=>cases (show u=qc1 a from Z);have⟨_,_,_,n,_,h1⟩:=(show ObjOk X.prog X.w H s.heap a (.frz ob (.e xs))from I.hok a _ U);exact xC9 xU9 I.kIn ⟨_,h1,rfl⟩ e (λz=>nomatch z) h
 |@t a xs U=>cases (show u=qc1 a from Z);have⟨_,_,_,p⟩:=(show ObjOk X.prog X.w H s.heap a (.t xs)from I.hok a _ U);have⟨o,h1,h2,_⟩:=p.1;exact xC9 PySem.W.kitx_tuple I.kIn ⟨o,h1,h2⟩ e (λz=>nomatch z) h
 |@dK a J1 U=>cases (show u=qc1 a from Z);have⟨_,_,vs,_,p⟩:=(show ObjOk X.prog X.w H s.heap a (.dK J1)from I.hok a _ U);have⟨o,es,ep,h1,h2,_⟩:=p;exact xC9 xN9 I.kIn ⟨o,h1,h2.1⟩ e (λz=>nomatch z) h
 |@dT a J1 U=>cases (show u=qc1 a from Z);have⟨_,_,xs,_,o,es,ep,h1,h2,_⟩:=(show ObjOk X.prog X.w H s.heap a (.dT J1)from I.hok a _ U);exact xC9 xN9 I.kIn ⟨o,h1,h2.1⟩ e (λz=>nomatch z) h
 |@ins a C dx fs U cl ha hn htk hm=>cases (show u=qc1 a from Z);have⟨mA,O,_⟩:=gp I.hok U;have⟨od,J,_⟩:=O.look;exact xC9 (PySem.W.kitx_own (cl.get _) cl.hd ha hn htk hm) I.kIn J e (λz=>nomatch z) h
end
structure Room(k:Nat)(A:ql5):Prop where
 hd:A.handled=ψ
 dp:A.depth+3*k+5<recursionLimit
 un:A.units+16*k+200<cLine
def Room.mono{k:Nat}(r:Room k A)(h:j<=k):Room j A:=⟨r.hd,by have:=r.dp;lia,by have:=r.un;lia⟩
theorem Room.deeper{k:Nat}(r:Room (k+1) A)(env:Env):Room k (A.deeper env):=⟨r.hd,by have:=r.dp;show A.depth+1+3*k+5<_;lia,by have:=r.un;show A.units+3+16*k+200<_;lia⟩
theorem mJ:(A.under (.builtin "type.__call__" ⟨.ref C::us,kw⟩)).depth=A.depth+1:=by first|rfl|simp[zf3,Code.weight,Code.isCreation,Code.isGuard,Code.isCaller,Code.frames,zf4,guardIds]
theorem mK:(A.under (.builtin "type.__call__" ⟨.ref C::us,kw⟩)).units=A.units+1:=by first|rfl|simp[zf3,Code.cUnits,Code.frames,zf4]
theorem Room.make{k:Nat}(r:Room (k+1) A)(C:J4)(us:η Value)(kw:η (Str×Value)):Room k (A.under (.builtin "type.__call__" ⟨.ref C::us,kw⟩)):=⟨r.hd,by have:=r.dp;rw[mJ];lia,by have:=r.un;rw[mK];lia⟩
def Room.depth{k:Nat}(r:Room k A):A.depth<recursionLimit:=by have:=r.dp;lia
def Room.units{k:Nat}(r:Room k A):A.units+64<cLine:=by have:=r.un;lia
def mL:TA:=λ_ H Q=>Q [] H
def CQ(ta:TE)(tr:TA):TA:=λσ H Q=>ta σ H λx H1=>tr σ H1 λxs H2=>Q (x::xs) H2
section
variable{X:Cx}{e:J8}{es:η J8}{te:TE}{t:TA}{pos:Pos}
def cq:PA X [] mL:=λ_ _ _ _ H Q I h=>Calls.spliced_nil ⟨[],H,I,.nil,h⟩
theorem bw(W:PE X e te)(hr:PA X es t)(hs:qb1 (e::es) X.env=(ξ,eval e X.env)::qb1 es X.env:=by rfl):PA X (e::es) (CQ te t):=by intro pos J0 s σ H Q I h;rw[hs];show wpAny _ _ (spliced ((ξ,eval e X.env)::qh6 pos (qb1 es X.env))) _ _ s;refine qv7 (thn (W J0 s σ H _ I h) λu s1 U=>?_);have⟨x,H1,I1,r1,q1⟩:=U;exact thn (hr pos J0 s1 σ H1 _ I1 q1) λus s2 O=>by have⟨xs,H2,I2,Z,q2⟩:=O;exact⟨x::xs,H2,I2,.cons r1 Z,q2⟩
def tTup(t:TA):TE:=λσ H Q=>t σ H λxs H1=>xs.length<=qa4/\∀p,H1 p=ψ->Q (.ref p) (upd H1 p (.t xs))
def tLst(t:TA):TE:=λσ H Q=>t σ H λxs H1=>xs.length<=qa4/\∀p,H1 p=ψ->Q (.ref p) (upd H1 p (.e xs))
theorem Ah{x1}(h:PA X es t):PE X (.Tuple es x1 pos) (tTup t):=by intro J0 s σ H Q I W;refine wpAny_Tuple_spliced (thn (h pos J0 s σ H _ I W) λus s1 ⟨xs,H1,O,r,z,q⟩=>⟨by rw[<- r.length];exact z,?_⟩);have U:H1 s1.heap.objs.size=ψ:=O.hok.fresh (nL _);refine⟨.ref s1.heap.objs.size,upd H1 s1.heap.objs.size (.t xs),O.laid (t':=s1.toks) (λb u e=>gP _ e) (nL _) ?_,rfl,q _ U⟩;exact⟨z,us,r,.new _ _⟩
theorem Ai(h:PA X es t):PE X (.List es pos) (tLst t):=by intro J0 s σ H Q I W;refine wpAny_List_spliced (thn (h pos J0 s σ H _ I W) λus s1 ⟨xs,H1,O,r,z,q⟩=>⟨by rw[<- r.length];exact z,?_⟩);have U:H1 s1.heap.objs.size=ψ:=O.hok.fresh (nL _);refine⟨.ref s1.heap.objs.size,upd H1 s1.heap.objs.size (.e xs),O.laid (t':=s1.toks) (λb u e=>gP _ e) (nL _) ?_,rfl,q _ U⟩;exact⟨z,us,0,r,qb8 _ rfl⟩
end
abbrev Sp:=η V->Hp->VK->XK->Prop
abbrev CXT:=η Env->Hp->qa8->XK->Value->qa8->Prop
structure Env0(P:qe7)(w:J5)(K:xA9)(mg:Str->Option Value)(base:Heap)(A:ql5)(outer:List Env)(s:qa8)(H:Hp):Prop where
 frames:A.frames=ς outer
 mod:Mod K mg base
 bs:∀b o,base.get? b=ς o->s.heap.get? b=ς o/\H b=ψ
 bsz:base.objs.size<=s.heap.objs.size
 funs:s.heap.FunFrames base outer
 frf:∀b∈frs outer,H b=ψ
 hok:HOk P w H s.heap
 bare:za9 s.gens
 tb:∀p∈lc K,H p.1=ς (.ctab p.2)
def CE(outer:η Env)(P:qe7)(w:J5)(H:Hp)(s:qa8)(Q:VK)(u:Value)(s':qa8):Prop:=∃v H',s'.os=s.os/\za9 s'.gens/\Un (frs outer) [] H H' s.heap s'.heap/\HOk P w H' s'.heap/\RelV v u/\Q v H'
def CR(CX:CXT)(outer:η Env)(P:qe7)(w:J5)(H:Hp)(s:qa8)(Q:VK)(E:XK)(r:Result)(s':qa8):Prop:=
 match r with
 |.ok (.ret u)=>CE outer P w H s Q u s'
 |.ok _=>False
 |.error e=>CX outer H s E e s'
structure FnOk(P:qe7)(w:J5)(K:xA9)(mg:Str->Option Value)(base:Heap)(CX:CXT)(k:Nat)(f:J4)(fd:qn1)(ps:List Str)(sp:Sp):Prop where
 len:∀vs H Q E,sp vs H Q E->vs.length=ps.length
 run:∀(A:ql5)(outer:List Env)(s:qa8)(H:Hp)(args:Args)(us:List Value)(vs:List V)(Q:VK)(E:XK),Room k A->Env0 P w K mg base A outer s H->zg3 s fd args (ps.zip us)->Vals vs us->sp vs H Q E→
  qu7 (model P w) A (.call (.ref f) args) (CR CX outer P w H s Q E) s
variable{mg:Str->ζ Value}{base:Heap}{CX:CXT}{ps:η Str}{sp:Sp}
def FnOk.mono {w:J5} {k:Nat} {f:J4} {fd:qn1} (F:FnOk P w K mg base CX j f fd ps sp) (h:j<=k) :
  FnOk P w K mg base CX k f fd ps sp:=⟨F.len,λA outer s H args us vs Q E O=>F.run A outer s H args us vs Q E (O.mono h)⟩
def FnOk.imp{w:J5}{k:Nat}{f:J4}{fd:qn1}{O:Sp}(F:FnOk P w K mg base CX k f fd ps sp)
 (h:∀vs H Q E,O vs H Q E->sp vs H Q E):FnOk P w K mg base CX k f fd ps O:=
 ⟨λvs H Q E q=>F.len vs H Q E (h _ _ _ _ q),λA outer s H args us vs Q E W he hb Z U=>F.run A outer s H args us vs Q E W he hb Z (h _ _ _ _ U)⟩
variable{outer:η Env}
def Env0.make {w:J5} {s:qa8} (e:Env0 P w K mg base A outer s H) (C:J4) (us:η Value) (kw:η (Str×Value)) :
  Env0 P w K mg base (A.under (.builtin "type.__call__" ⟨.ref C::us,kw⟩)) outer s H:=⟨by first|exact e.frames|(simpa[zf3,Code.envs,zf4,pushEnvs] using e.frames),e.mod,e.bs,e.bsz,e.funs,e.frf,e.hok,e.bare,e.tb⟩
section
variable{X:Cx}{J0:η (J4×Obj)}{σ:ae}{H:Hp}{s s':qa8}
theorem Inv.env0(I:Inv X J0 σ H s):Env0 X.prog X.w X.K X.mg X.base X.A X.stack s H:=⟨I.ok.frames,I.ok.mod,I.bs,qd2 I.ok.bsz I.sz,I.stack,I.stkFree,I.hok,I.bare,λp hp=>I.base.cts _ _ (I.ok.tb p hp)⟩
theorem Inv.after{Q:VK}(I:Inv X J0 σ H s)(h:CE X.stack X.prog X.w H s Q u s'):EP X J0 σ Q u s':=by have⟨v,H',os,O,un,W,r,q⟩:=h;have⟨Z,g,d,t,U⟩:=s';obtain rfl:U=s.os:=os;exact⟨v,H',I.call (h':=Z) (g':=g) (d':=d) (t':=t) (ch:=[]) un W O (λb z=>absurd z Ξ),r,q⟩
end
def iZ(sp:Sp)(dvs:η V)(E:XK)(t:TA):TE:=λσ H Q=>t σ H λvs H1=>sp (vs++dvs) H1 Q E
def rL(C:J4)(m:Str)(sp:Sp)(dvs:η V)(E:XK)(ta:TE)(t:TA):TE:=λσ H Q=>ta σ H λx H1=>∃a dx fs,x=.ref a/\H1 a=ς (.ins C dx fs)/\fs.lookup m=ψ∧t σ H1 λvs H2=>sp (x::(vs++dvs)) H2 Q E
def rM(C:J4)(sp:Sp)(dvs:η V)(E:XK)(t:TA):TE:=λσ H Q=>t σ H λvs H1=>∀x dx,H1 x=ψ->H1 dx=ψ->dx≠x→
 sp (.ref x::(vs++dvs)) (upd (upd H1 dx (.own x)) x (.ins C dx [])) (λv H2=>v=.non/\Q (.ref x) H2) E
def Binds(K:xA9)(fd:qn1)(ps:η Str)(ds:η Value):Prop:=∀(s:qa8)(us:η Value),K.In s.heap->(us++ds).length=ps.length->zg3 s fd ⟨us,[]⟩ (ps.zip (us++ds))
theorem Binds.all{fd:qn1}(h:∀us:η Value,us.length=ps.length->ze1 fd ⟨us,[]⟩=pure (ps.zip us)):Binds K fd ps []:=λs us _ hl=>by rw[qh8]at hl ⊢;exact .of_eq (h us hl)
def cr(CX:CXT)(X:Cx)(E:XK):Prop:=∀(J0:η (J4×Obj))(σ:ae)(H:Hp)(s:qa8)(e:Value)(s':qa8),Inv X J0 σ H s->CX X.stack H s E e s'->X.xe e s'
variable{vs:η V}
section
variable{X:Cx}{CX:CXT}{k:Nat}{f C:J4}{fd:qn1}{ps:η Str}{sp:Sp}{dvs:η V}{ds:η Value}{E:XK}{x m:Str}{p pos apos:Pos}{e o:J8}{es:η J8}{ta:TE}{t:TA}
omit x in
theorem jM{s:qa8}{Q:VK}(F:FnOk X.prog X.w X.K X.mg X.base CX k f fd ps sp)(Z:Room k X.A)(hb:Binds X.K fd ps ds)(hd:Vals dvs ds)(W:cr CX X E)
 (I:Inv X J0 σ H s) (r:Vals vs us) (h:sp (vs++dvs) H Q E):wpAny (model X.prog X.w) X.A (call (.ref f) us) (EP X J0 σ Q) X.xe s:=by
 have U:Vals (vs++dvs) (us++ds):=r.append hd;have hl:(us++ds).length=ps.length:=by rw[<- U.length];exact F.len _ _ _ _ h
 refine wpAny_call (zb3 (F.run X.A X.stack s H ⟨us,[]⟩ (us++ds) (vs++dvs) Q E Z I.env0 (hb s us I.kIn hl) U h) λr s' O=>?_);cases r with
 |error e=>exact W J0 σ H s e s' I O
 |ok fl=>
  cases fl with
  |ret u=>exact I.after O
  |next=>exact qk4 O
  |brk=>exact qk4 O
  |cont=>exact qk4 O
theorem n6 (F:FnOk X.prog X.w X.K X.mg X.base CX k f fd ps sp) (hr:Room k X.A) (hg:Gl X x) (hm:X.mg x=ς (.ref f)) (hk:xD9 X.K (.ref f)=θ) (hb:Binds X.K fd ps ds) (hd:Vals dvs ds) (hx:cr CX X E)
  (ha:PA X (e::es) t) (U:(x==("__debug__":Str))=ξ:=by decide) (he:qb1 (e::es) X.env=(ξ,eval e X.env)::qb1 es X.env:=by rfl) (O:(qh6 pos (qb1 es X.env)).any (·.1)=ξ:=by rfl) :
  PE X (.Call (.Name x p) (e::es) [] pos) (iZ sp dvs E t):=by
 intro J0 s σ H Q I h;refine ql6 (eh I hg hm ?_ U);refine xV9 (h₀:=X.base) I.ok.mod.kin hk (thn (ha pos J0 s σ H _ I h) λus s1 ⟨vs,H1,Z,r,q⟩=>⟨Z.kIn,?_⟩) he O;exact jM F hr hb hd hx Z r q
theorem rN (F:FnOk X.prog X.w X.K X.mg X.base CX k f fd ps sp) (Z:Room k X.A) (hg:Gl X x) (U:X.mg x=ς (.ref f)) (hk:xD9 X.K (.ref f)=θ) (hb:Binds X.K fd ps ds) (hd:Vals dvs ds) (hx:cr CX X E)
  (O:(x==("__debug__":Str))=ξ:=by decide):PE X (.Call (.Name x p) [] [] pos) (iZ sp dvs E mL):=by
 intro J0 s σ H Q I h;refine ql6 (eh I hg U ?_ O);exact xW9 I.kIn hk (jM (us:=[]) F Z hb hd hx I .nil h)
theorem v3 {pl:Sem Bool} (he:PE X o ta) (c:Cls X.K C) (hm:Meth X.K C m f) (F:FnOk X.prog X.w X.K X.mg X.base CX k f fd ps sp) (hr:Room k X.A) (hb:Binds X.K fd ps ds) (hd:Vals dvs ds) (hx:cr CX X E) (ha:PA X (e::es) t)
  (Z:qb1 (e::es) X.env=(ξ,eval e X.env)::qb1 es X.env:=by rfl) (U:(qh6 pos (qb1 es X.env)).any (·.1)=ξ:=by rfl)
  (ht:eval (.Call (.Attribute o m apos) (e::es) [] pos) X.env=(do
   let ov <- eval o X.env
   qw6 apos.atName
   let (f,first) <- qp1 [ov] (qu6 ov m pl)
   zc8 pos f first (qh6 pos (qb1 (e::es) X.env)) (qo9 pos (qi4 [] X.env))):=by rfl) :
  PE X (.Call (.Attribute o m apos) (e::es) [] pos) (rL C m sp dvs E ta t):=by
 intro J0 s σ H Q I h;refine xT9 (pl:=pl) (thn (he J0 s σ H _ I h) λu s1 O=>?_) ht;have⟨x,H1,I1,rx,a,dx,fs,ex,ea,l,q⟩:=O;subst ex;obtain rfl:u=qc1 a:=rx;refine dP I1 ea c hm l ?_;refine xV9 (first:=[.ref a]) (h₀:=X.base) I.ok.mod.kin hm.kp (thn (ha pos J0 s1 σ H1 _ I1 q) λus s2 ⟨vs,H2,I2,r,q2⟩=>⟨I2.kIn,?_⟩) Z U;exact jM (us:=.ref a::us) (vs:=.ref a::vs) F hr hb hd hx I2 (.cons rfl r) q2
theorem rO {pl:Sem Bool} (he:PE X o ta) (c:Cls X.K C) (Z:Meth X.K C m f) (F:FnOk X.prog X.w X.K X.mg X.base CX k f fd ps sp) (hr:Room k X.A) (hb:Binds X.K fd ps ds) (hd:Vals dvs ds) (hx:cr CX X E)
  (ht:eval (.Call (.Attribute o m apos) [] [] pos) X.env=(do
   let ov <- eval o X.env
   qw6 apos.atName
   let (f,first) <- qp1 [ov] (qu6 ov m pl)
   zc8 pos f first (qh6 pos (qb1 [] X.env)) (qo9 pos (qi4 [] X.env))):=by rfl) :
  PE X (.Call (.Attribute o m apos) [] [] pos) (rL C m sp dvs E ta mL):=by
 intro J0 s σ H Q I h;refine xT9 (pl:=pl) (thn (he J0 s σ H _ I h) λu s1 O=>?_) ht;have⟨x,H1,U,rx,a,dx,fs,ex,ea,l,q⟩:=O;subst ex;obtain rfl:u=qc1 a:=rx;refine dP U ea c Z l ?_;exact xW9 (first:=[.ref a]) U.kIn Z.kp (jM (us:=[.ref a]) (vs:=[.ref a]) F hr hb hd hx U (.cons rfl .nil) q)
structure Mk(K:xA9)(C f:J4):Prop where
 makes:xS9 K C=θ
 init:xB9 K (.ref C) "__init__"=ς (ς (.ref f))
 fn:xH9 K (.ref f)=θ
 kp:xD9 K (.ref C)=θ
omit x in
theorem ld{s:qa8}{Q:VK}(M:Mk X.K C f)(F:FnOk X.prog X.w X.K X.mg X.base CX k f fd ps sp)(hr:Room (k+1) X.A)(hb:Binds X.K fd ps ds)(hd:Vals dvs ds)
 (hx:cr CX X E) (I:Inv X J0 σ H s) (r:Vals vs us)
 (h:∀x dx,H x=ψ->H dx=ψ->dx≠x->sp (.ref x::(vs++dvs)) (upd (upd H dx (.own x)) x (.ins C dx [])) (λv H2=>v=.non/\Q (.ref x) H2) E) :
  wpAny (model X.prog X.w) X.A (call (.ref C) us) (EP X J0 σ Q) X.xe s:=by
 have Z:=h (s.heap.objs.size+1) s.heap.objs.size (I.hok.fresh (qi5 _)) (I.hok.fresh (nL _)) (qc2 (qp8 _));have U:=Inv.made (C:=C) I;have W:Vals (V.ref (s.heap.objs.size+1)::(vs++dvs)) (qc1 (s.heap.objs.size+1)::(us++ds)):=.cons rfl (r.append hd)
 have hl:(qc1 (s.heap.objs.size+1)::us++ds).length=ps.length:=by have e:=W.length;rw[F.len _ _ _ _ Z]at e;exact e.symm
 refine wpAny_call (rK (f:=f) I.kIn M.makes M.init (beq_iff_eq.mp M.fn) (zb3 (F.run _ X.stack _ _ ⟨qc1 (s.heap.objs.size+1)::us,[]⟩ (qc1 (s.heap.objs.size+1)::(us++ds)) _ _ E (hr.make C us [])
  (U.env0.make C us []) (hb _ (qc1 (s.heap.objs.size+1)::us) U.kIn hl) W Z) λr s' O=>?_))
 cases r with
 |error e=>exact hx J0 σ _ _ e s' U O
 |ok fl=>
  cases fl with
  |ret u=>have⟨v,H',I3,rv,ev,q3⟩:=U.after O;subst ev;exact⟨rv,⟨V.ref (s.heap.objs.size+1),H',I3,rfl,q3⟩⟩
  |next=>exact qk4 O
  |brk=>exact qk4 O
  |cont=>exact qk4 O
theorem v4 (M:Mk X.K C f) (F:FnOk X.prog X.w X.K X.mg X.base CX k f fd ps sp) (hr:Room (k+1) X.A) (hg:Gl X x) (hm:X.mg x=ς (.ref C)) (hb:Binds X.K fd ps ds) (hd:Vals dvs ds) (hx:cr CX X E)
  (ha:PA X (e::es) t) (U:(x==("__debug__":Str))=ξ:=by decide) (he:qb1 (e::es) X.env=(ξ,eval e X.env)::qb1 es X.env:=by rfl) (O:(qh6 pos (qb1 es X.env)).any (·.1)=ξ:=by rfl) :
  PE X (.Call (.Name x p) (e::es) [] pos) (rM C sp dvs E t):=by
 intro J0 s σ H Q I h;refine ql6 (eh I hg hm ?_ U);refine xV9 (h₀:=X.base) I.ok.mod.kin M.kp (thn (ha pos J0 s σ H _ I h) λus s1 ⟨vs,H1,Z,r,q⟩=>⟨Z.kIn,?_⟩) he O;exact ld M F hr hb hd hx Z r q
theorem rP (M:Mk X.K C f) (F:FnOk X.prog X.w X.K X.mg X.base CX k f fd ps sp) (Z:Room (k+1) X.A) (hg:Gl X x) (U:X.mg x=ς (.ref C)) (hb:Binds X.K fd ps ds) (hd:Vals dvs ds) (hx:cr CX X E)
  (O:(x==("__debug__":Str))=ξ:=by decide):PE X (.Call (.Name x p) [] [] pos) (rM C sp dvs E mL):=by
 intro J0 s σ H Q I h;refine ql6 (eh I hg U ?_ O);exact xW9 I.kIn M.kp (ld (us:=[]) M F Z hb hd hx I .nil h)
end
structure FnScope(N P:List Str)(sc:J9):Prop where
 kind:sc.kind=.function
 co:sc.isCoroutine=ξ
 gen:sc.isGenerator=ξ
 nd:N.Nodup
 pre:N.take P.length=P
 par:∀x∈P,sc.names.lookup x=ς .local\/sc.names.lookup x=ς .cell
 nofree:∀y∈sc.names,y.2≠.free
variable{kindOf:Str->ζ qv8}
theorem i7:∀{binds:η (Str×Value)}{m:Str->ζ Value},(∀v,(x,v)∉binds)->bindL kindOf binds m x=m x
 |[],_,_=>rfl
 |(n,v)::r,m,h=>by
  unfold bindL;rw[i7 λw hw=>h w (qe6 _ hw)];split
  .have:x≠n:=by rintro rfl;exact h v qj3
   simp[this]
  .rfl
theorem i8:∀{binds:η (Str×Value)}{m:Str->ζ Value},(∀v,(x,v)∉binds)->bindC kindOf binds m x=m x
 |[],_,_=>rfl
 |(n,v)::r,m,h=>by
  unfold bindC;rw[i8 λw hw=>h w (qe6 _ hw)];split
  .rfl
  .have:x≠n:=by rintro rfl;exact h v qj3
   simp[this]
theorem i9 {v:Value}:∀ {P:η Str} {vs:η Value} {i:Nat} {m:Str->ζ Value},P.Nodup->P[i]?=ς x->vs[i]?=ς v->kindOf x=ς .local→
  bindL kindOf (P.zip vs) m x=ς v
 |[],_,_,_,_,h,_,_=>by simp at h
 |_::_,[],_,_,_,_,h,_=>by simp at h
 |p::P,w::vs,0,m,nd,h1,h2,hk=>by
  simp at h1 h2;subst h1;subst h2
  show bindL kindOf ((p,w)::P.zip vs) m p=_;unfold bindL;rw[i7 λv hv=>(qd7.mp nd).1 (zb4 hv).1,if_pos hk];simp
 |p::P,w::vs,i+1,m,nd,h1,h2,hk=>by show bindL kindOf ((p,w)::P.zip vs) m x=_;unfold bindL;exact i9 (i:=i) (qd7.mp nd).2 ‹h1› ‹h2› hk
theorem ja {v:Value}:∀ {P:η Str} {vs:η Value} {i:Nat} {m:Str->ζ Value},P.Nodup->P[i]?=ς x->vs[i]?=ς v->kindOf x≠ς .local→
  bindC kindOf (P.zip vs) m x=ς v
 |[],_,_,_,_,h,_,_=>by simp at h
 |_::_,[],_,_,_,_,h,_=>by simp at h
 |p::P,w::vs,0,m,nd,h1,h2,hk=>by
  simp at h1 h2;subst h1;subst h2
  show bindC kindOf ((p,w)::P.zip vs) m p=_;unfold bindC;rw[i8 λv hv=>(qd7.mp nd).1 (zb4 hv).1,if_neg hk];simp
 |p::P,w::vs,i+1,m,nd,h1,h2,hk=>by show bindC kindOf ((p,w)::P.zip vs) m x=_;unfold bindC;exact ja (i:=i) (qd7.mp nd).2 ‹h1› ‹h2› hk
noncomputable def dJ(N:η Str)(vs:η V):ae:=vs.map ς++qa9 (N.length-vs.length) ψ
noncomputable def pW(CX:CXT)(P:qe7)(w:J5)(K:xA9)(mg:Str->ζ Value)(base:Heap)(N:η Str)(qual:Str)(scope:J9)(f:J4)(cd:Value)(A:ql5)(outer:η Env)(s:qa8)(H:Hp)(E:XK):Cx where
 prog:=P
 w:=w
 K:=K
 mg:=mg
 base:=base
 A:=A.deeper (zg4 qual scope s.heap.objs.size f cd)
 N:=N
 s₀:=s
 H₀:=H
 env:=zg4 qual scope s.heap.objs.size f cd
 outer:=outer
 stack:=zg4 qual scope s.heap.objs.size f cd::outer
 ex:=[]
 calm:=true
 fn:=λ_=>θ
 pn:=[]
 xe:=λe s'=>wpAny (model P w) (A.deeper (zg4 qual scope s.heap.objs.size f cd)) (leaving (zg4 qual scope s.heap.objs.size f cd) e) (λ_ O=>CX outer H s E e O) (λU O=>CX outer H s E U O) s'
theorem lh{sc:J9}(h:sc.names.lookup x=ς .cell):∃c,(cellsFrom n sc.names []).lookup x=ς c:=by have q:=PySem.W.cellsFrom_some sc.names n [] (.inl h);exact qe9.mp q
variable{qual:Str}{scope:J9}
def pX{w:J5}{f:J4}{cd:Value}{s s1:qa8}{E:XK} 
 (S:FnScope N ps scope) (hd:A.handled=ψ) (O:Env0 P w K mg base A outer s H) (hl:vs.length=ps.length) (r:Vals vs us)
 (x:InCallC s s.heap.objs.size (bindL (zg4 qual scope s.heap.objs.size f cd).kindOf (ps.zip us) λ_=>ψ) (cellsFrom (s.heap.objs.size+1) scope.names []) (bindC (zg4 qual scope s.heap.objs.size f cd).kindOf (ps.zip us) λ_=>ψ) s1) :
  Inv (pW CX P w K mg base N qual scope f cd A outer s H E) [] (dJ N vs) H s1:=by
 have hpl:ps.length<=N.length:=by have:=congrArg qm1 S.pre;rw[ql2]at this;lia
 have⟨h1,tk,rfl,hk⟩:=x.done;have U:∀b:J4,b∉(pW CX P w K mg base N qual scope f cd A outer s H E).ex:=λb z=>absurd (show b∈([]:η J4)from z) Ξ
 refine⟨⟨O.mod,S.kind,rfl,rfl,nL _,λy z c h1 h2=>?_,λy W=>?_,λy c _ h=>?_,λ_=>hd,ql5.frames_deeper O.frames,.inr ⟨rfl,rfl⟩,λb z=>absurd z (U b),O.bs,O.bsz,λb _ _=>U b,λb z=>absurd z (U b),O.funs,O.frf,O.tb⟩,rfl,O.bare,Un.kept hk,⟨_,x.toInCall.ns,λi y v h1 h2 h3=>?_⟩,λy c h=>⟨_,x.cell y c h⟩,O.hok.fresh (qu4 _),λy c h=>?_,λp hp=>absurd (show p∈([]:η (J4×Obj))from hp) Ξ,O.hok.kept hk,?_⟩
 .exact name_of_addr x.apart (PySem.mem_of_lookup h1) (PySem.mem_of_lookup h2)
 .have W:scope.names.lookup y=ς .cell\/scope.names.lookup y=ς .free:=W;rcases W with W|W
  .exact lh W
  .exact absurd rfl (S.nofree _ (PySem.mem_of_lookup W))
 .exact qq7 (x.above y c (PySem.mem_of_lookup h))
 .have hi:i<vs.length:=by
   unfold dJ at h2;by_cases hi:i<vs.length
   .exact hi
   .rw[qe0 ‹hi›]at h2;rw[List.getElem?_replicate]at h2;split at h2<;>cases h2
  have ha:vs[i]?=ς v:=by
   unfold dJ at h2;rw[qg5 ‹hi›,qa6]at h2;cases e:vs[i]? with
   |none=>rw[e]at h2;cases h2
   |some a=>rw[e]at h2;cases h2;rfl
  have⟨u,hu,rv⟩:=r.get ha
  have hp:ps[i]?=ς y:=by rw[<- S.pre,qq8 Θ];exact h1
  have Z:ps.Nodup:=by rw[<- S.pre];exact S.nd.sublist (qp0 _ _)
  refine⟨u,rv,?_⟩;rcases S.par y (qa5 hp)with k|k
  .exact .inl ⟨k,i9 Z hp hu k⟩
  .have⟨c,e⟩:=lh (n:=s.heap.objs.size+1) k;refine .inr ⟨.inl k,c,e,?_⟩;have q:=x.cell y c e;rw[ja Z hp hu (by show scope.names.lookup y≠_;rw[k];decide)]at q;exact q
 .exact O.hok.fresh (qq7 (x.above y c (PySem.mem_of_lookup h)))
 .unfold dJ;show _=N.length;rw[qc5,qa3,List.length_replicate];lia
omit x in
def CS{w:J5}{k:Nat}{f:J4}{name:Str}{U:Arguments}{dV kV doc pm O ct oc:Value}{an od:ζ J4}
 {osl:Array (ζ Value)} (lk:K.lookup f=ς ⟨oc,od,.func (PySem.W.fnOf name qual U body scope dV kV doc pm an O ct),osl⟩) (hcd:PySem.W.codeIn K O qual=θ) (S:FnScope N ps scope)
 (len:∀vs H Q E,sp vs H Q E->vs.length=ps.length)
 (hbody:∀(A:ql5)(outer:η Env)(s:qa8)(H:Hp)(vs:η V)(Q:VK)(E:XK),Room k (A.deeper (zg4 qual scope s.heap.objs.size f O))->sp vs H Q E→
 ∃t,PSs (pW CX P w K mg base N qual scope f O A outer s H E) body t/\t {nx:=λ_ H'=>Q .non H',rt:=Q} (dJ N vs) H) :
  FnOk P w K mg base CX (k+1) f (PySem.W.fnOf name qual U body scope dV kV doc pm an O ct) ps sp:=by
 refine⟨len,λA outer s H args us vs Q E hr e0 hb r hsp=>?_⟩;have hl:=len _ _ _ _ hsp;have KX:K.In s.heap:=e0.mod.kin.keeps λb o e=>(e0.bs b o e).1
 have lim:s.heap.NoLimit:=e0.mod.nolimit.keeps λb o e=>(e0.bs b o e).1
 have hkind:∀y∈ps.zip us,scope.names.lookup y.1=ς .local\/(scope.names.lookup y.1=ς .cell/\((cellsFrom (s.heap.objs.size+1) scope.names []).lookup y.1).isSome=θ):=λhq81 hy=>by
  have⟨n,v⟩:=hq81;rcases S.par n (zb4 hy).1 with q|q
  .exact .inl q
  .exact .inr ⟨q,PySem.W.cellsFrom_some _ _ _ (.inl q)⟩
 refine codeAny_call_function hr.depth (KX _ _ lk) rfl S.co S.gen rfl (PySem.W.codeRec_of KX hcd) (hb _ _ _ _ ?_);refine wpAny_newFunctionEnv_cells S.kind hkind λenv he s1 x=>?_
 subst he;refine⟨lim.keeps x.toInCall.keep,codeAny_func ?_⟩;have⟨t,ht,hq⟩:=hbody A outer s H vs Q E (hr.deeper _) hsp;have I:Inv (pW CX P w K mg base N qual scope f O A outer s H E) [] (dJ N vs) H s1:=pX S hr.hd e0 hl r x;refine qn5 (ht [] s1 (dJ N vs) H _ I hq) (λfl s' hs=>?_) λe s' hs=>hs
 have fin:∀{Z:ae}{H':Hp}{v:V}{u:Value},Inv (pW CX P w K mg base N qual scope f O A outer s H E) [] Z H' s'->RelV v u->Q v H'->CE outer P w H s Q u s':=λ{Z H' v u} J rv q=>⟨v,H',J.os,J.bare,J.base,J.hok,rv,q⟩
 cases fl with
 |ret u=>have⟨v,Z,H',J,rv,q⟩:=hs;exact fin J rv q
 |next=>have⟨Z,H',J,q⟩:=hs;exact fin (v:=V.non) (u:=qg4) J rfl q
 |brk=>have⟨_,_,_,q⟩:=hs;exact qk4 q
 |cont=>have⟨_,_,_,q⟩:=hs;exact qk4 q
section
variable{X:Cx}{x:Str}{p pos:Pos}{e:J8}{es:η J8}{t:TA}{id T:String}{r:η V->Hp->VK->Prop}
def tCB(r:η V->Hp->VK->Prop)(t:TA):TE:=λσ H Q=>t σ H λvs H1=>r vs H1 Q
theorem rQ (hc:CallR X (.builtin id) r) (hg:Gl X x) (Z:X.mg x=ψ) (hv:qf6 x=ς (.builtin id)) (ha:PA X (e::es) t) (hn:x≠"__name__":=by decide) (W:(x==("__debug__":Str))=ξ:=by decide)
  (he:qb1 (e::es) X.env=(ξ,eval e X.env)::qb1 es X.env:=by rfl) (U:(qh6 pos (qb1 es X.env)).any (·.1)=ξ:=by rfl):PE X (.Call (.Name x p) (e::es) [] pos) (tCB r t):=by
 intro J0 s σ H Q I h;refine ql6 (gJ I hg Z hv ?_ hn W);exact PyProof.Rows.callWith_builtin1 (thn (ha pos J0 s σ H _ I h) λus s1 O=>by have⟨vs,H1,I1,r1,q1⟩:=O;exact hc J0 s1 σ H1 vs us Q I1 r1 q1) he U
theorem pY (hc:CallR X (.type T) r) (hg:Gl X x) (Z:X.mg x=ψ) (hv:qf6 x=ς (.type T)) (ha:PA X (e::es) t) (hn:x≠"__name__":=by decide) (W:(x==("__debug__":Str))=ξ:=by decide)
  (he:qb1 (e::es) X.env=(ξ,eval e X.env)::qb1 es X.env:=by rfl) (U:(qh6 pos (qb1 es X.env)).any (·.1)=ξ:=by rfl):PE X (.Call (.Name x p) (e::es) [] pos) (tCB r t):=by
 intro J0 s σ H Q I h;refine ql6 (gJ I hg Z hv ?_ hn W);exact qo3 (thn (ha pos J0 s σ H _ I h) λus s1 O=>by have⟨vs,H1,I1,r1,q1⟩:=O;exact hc J0 s1 σ H1 vs us Q I1 r1 q1) he U
end
end L2
namespace HT
open PySem PyProof.Rows
variable{Q:Value->qa8->Prop}{vu:Value}{lo hi:ζ Int}
section
variable{prog:qe7}{w:J5}{A:ql5}{E:Value->qa8->Prop}{s:qa8}
def EE{t b:J4}{vs ws:η Value}(ht:IsTup s.heap t vs.toArray)(hb:IsTup s.heap b ws.toArray)(hv:vs≠[])
 (h1:ws=[]->Q (.ref t) s) (h2:ws≠[]->Q (.ref s.heap.objs.size) {s with heap:=s.heap.push {cls:=.type "tuple",data:=.seq (vs++ws).toArray}})
 (hsz:vs.length+ws.length<=qa4):wpAny (model prog w) A (qh7 .Add (.ref t) (.ref b)) Q E s:=by
 have⟨⟨cls,dd,data,sl⟩,ho,hc,n,hd⟩:=id ht;have⟨⟨cls2,U,data2,Z⟩,O,W,n2,hd2⟩:=id hb;simp only at hc hd W hd2;subst hc hd W hd2;have e:vs.toArray++ws.toArray=(vs++ws).toArray:=by simp
 by_cases hw:ws=[]
 .exact qv9 ⟨_,ho,rfl⟩ ⟨_,O,rfl⟩ qt3 qy9 PySem.F.slot_tuple_add PySem.F.entry_tuple_add (PySem.F.args_tuple_add_2 _ _)
   (tuple_addW1 t b vs.toArray ws.toArray n n2 dd U sl Z ‹hv› (by simp[hw])) ⟨ho,O,h1 hw⟩
 .refine qv9 ⟨_,ho,rfl⟩ ⟨_,O,rfl⟩ qt3 qy9 PySem.F.slot_tuple_add PySem.F.entry_tuple_add (PySem.F.args_tuple_add_2 _ _)
   (tuple_addW2 t b vs.toArray ws.toArray n n2 dd U sl Z ‹hv› ‹hw› (by rw[qb4,qb4];exact hsz)) ⟨ho,O,?_⟩
  rw[e];exact h2 hw
def sIx(n d:Nat):ζ Int->Nat
 |none=>d
 |some v=>if v<0 then(v+(n:Int)).toNat else min v.toNat n
theorem EF(n d k:Nat):sIx n d (ς (k:Int))=min k n:=by show(if(k:Int)<0 then((k:Int)+(n:Int)).toNat else min (k:Int).toNat n)=min k n;rw[if_neg Θ,qi6]
def Aj(n d:Nat)(U:d<=n)(o:ζ Int):sIx n d o<=n:=by
 cases o with
 |none=>exact U
 |some v=>
  show(if v<0 then(v+(n:Int)).toNat else min v.toNat n)<=n;by_cases O:v<0
  .rw[if_pos O];lia
  .rw[if_neg O];exact Nat.min_le_right _ _
def n8(v:Int)(n d:Nat):(if v<0 then max (v+(n:Int)) 0 else min v (n:Int))=((sIx n d (ς v):Nat):Int):=by
 show(if v<0 then max (v+(n:Int)) 0 else min v (n:Int))=(((if v<0 then(v+(n:Int)).toNat else min v.toNat n):Nat):Int);by_cases O:v<0
 .rwa[if_pos O];lia
 .rwa[if_neg O];lia
def mM(lo hi:ζ Int)(n:Nat):qp4 lo hi 1 (n:Int)=(((sIx n 0 lo:Nat):Int),((sIx n n hi:Nat):Int)):=by
 have h1:¬ ((1:Int)<0):=by lia
 unfold qp4;rwa[h1,if_false];refine Prod.ext ?_ ?_
 .cases lo with
  |none=>rfl
  |some v=>exact n8 v n 0
 .cases hi with
  |none=>rfl
  |some v=>exact n8 v n n
def mN(i j:Nat):qm2 (i:Int) (j:Int) 1=j-i:=by
 unfold qm2;have h1:(1:Int) > 0:=by lia
 rwa[h1,if_true,Int.ediv_one];split<;>lia
theorem gW{v:Value}{o:ζ Int}{Q:ζ Int->qa8->Prop}(p:zf5 v o)(h:Q o s):wpAny (model prog w) A (qj4.Slice.slicePartIndex v) Q E s:=by
 cases p with
 |none=>exact slicePart_none h
 |int i t=>exact slicePart_int h
def fj{sl:J4}{vl:Value}{n:Nat}{Q:Int×Int×Nat->qa8->Prop}(hs:s.heap.IsSliceOf sl vl vu .none)(pl:zf5 vl lo)(W:zf5 vu hi)
 (h:Q (((sIx n 0 lo:Nat):Int),1,sIx n n hi-sIx n 0 lo) s):wpAny (model prog w) A (qv4 (.ref sl) (pure (n:Int))) Q E s:=by
 have⟨os,U,Z,O⟩:=id hs;unfold qv4 qj4.Slice.sliceFields;refine wB (wB (qj5 U O (x:=vl) rfl (wB (qj5 U O (x:=vu) rfl (wB (qj5 U O (x:=.none) rfl (qa7 ?_)))))));refine wB (slicePart_none ?_);show wpAny _ _ (if((1:Int)==0)=θ then _ else _) _ _ s;rw[if_neg Ω];refine wB (gW pl (wB (gW W (wB (qa7 ?_)))));show wpAny _ _ (match qp4 lo hi 1 (n:Int)with|(lo,hi)=>pure (lo,(1:Int),qm2 lo hi 1)) _ _ s;rw[mM lo hi n];show wpAny _ _ (pure (((sIx n 0 lo:Nat):Int),(1:Int),qm2 ((sIx n 0 lo:Nat):Int) ((sIx n n hi:Nat):Int) 1)) _ _ s;rw[mN];exact qa7 h
theorem rR(xs:Array Value)(i k:Nat):((qd8 k).filterMap λ(m:Nat)=>xs[((i:Int)+(m:Int)*1).toNat]?).toArray=((xs.toList.drop i).take k).toArray:=by
 have e:(λ(m:Nat)=>xs[((i:Int)+(m:Int)*1).toNat]?)=λm=>xs[i+m]?:=by
  funext m;have:((i:Int)+(m:Int)*1).toNat=i+m:=by lia
  rw[this]
 rw[e];have:=pick_run xs i k;rw[List.filterMap_map]at this;have e2:((λx=>xs[x]?) ∘ λx=>i+x)=λm=>xs[i+m]?:=rfl
 rw[e2]at this;rw[this]
theorem n9{t sl:J4}{items:Array Value}{vl:Value}(U:IsTup s.heap t items)(hs:s.heap.IsSliceOf sl vl vu .none)(pl:zf5 vl lo)(pu:zf5 vu hi)
 (hw:¬ (sIx items.size 0 lo=0/\sIx items.size items.size hi=items.size))
 (h:Q (.ref s.heap.objs.size) {s with heap:=s.heap.push {cls:=.type "tuple",data:=.seq ((items.toList.drop (sIx items.size 0 lo)).take (sIx items.size items.size hi-sIx items.size 0 lo)).toArray}})
 (hsz:items.size<=qa4):wpAny (model prog w) A (zg5 (.ref t) (.ref sl)) Q E s:=by
 have O:sizeOk (.seq ((items.toList.drop (sIx items.size 0 lo)).take (sIx items.size items.size hi-sIx items.size 0 lo)).toArray):=by show((items.toList.drop (sIx items.size 0 lo)).take (sIx items.size items.size hi-sIx items.size 0 lo)).toArray.size<=qa4;rw[qb4,ql2,qt4,qq2];lia
 have hj:sIx items.size items.size hi<=items.size:=Aj _ _ (nL _) hi;have⟨os,hos,W,hds⟩:=id hs;have hTs:s.TypeIs (.ref sl) "slice":=⟨os,hos,W⟩;unfold zg5
 try with_reducible refine qn0 ?_
 first|refine wB (qa7 ?_)|skip
 refine wB (wpAny_sequenceKey U.typeIs Ω ?_)
 refine wB (qj8 (name:=qd0 "__getitem__") U.typeIs qm6
  (qj6 qm6 U.typeIs entry_tuple_getitem ?_ (args_tuple_getitem _ _)))
 show wpAny _ _ (qj4.Tuple.tupleItemsOf (.ref t) >>= _) _ _ s;refine wB (tupleItemsOf_ U ?_);refine wB (zb5 hTs ?_);rw[if_pos Ω];refine wB (fj hs pl pu ?_)
 have Z:¬ ((((sIx items.size 0 lo:Nat):Int)==0&&(1:Int)==1&&(sIx items.size items.size hi-sIx items.size 0 lo)==items.size)=θ):=by intro q;rw[qa1,qa1]at q;have q1:((sIx items.size 0 lo:Nat):Int)=0:=eq_of_beq q.1.1;have q2:sIx items.size items.size hi-sIx items.size 0 lo=items.size:=eq_of_beq q.2;exact hw ⟨Θ,Θ⟩
 show wpAny _ _ (if(((sIx items.size 0 lo:Nat):Int)==0&&(1:Int)==1&&(sIx items.size items.size hi-sIx items.size 0 lo)==items.size)=θ then _ else _) _ _ s;rw[if_neg Z,rR]
 first
  |exact wB (m:=qm7 _) (qf4 (qa7 ⟨_,rfl,qa7 h⟩) O)
  |exact wB (m:=qm7 _) (qf4 (wB (qa7 (qa7 ⟨_,rfl,qa7 h⟩))) O)
  |exact wB (wB (m:=qm7 _) (qf4 (qa7 (qa7 ⟨_,rfl,qa7 h⟩)) O))
  |exact wB (wB (m:=qm7 _) (qf4 (qa7 ⟨_,rfl,qa7 h⟩) O))
end
end HT
namespace L2
open PySem PySem.Spec PyProof.Rows
abbrev TO:=ae->Hp->(ζ Int->Hp->Prop)->Prop
def jN(X:Cx)(e:ζ J8)(t:TO):Prop:=
 ∀(J0:η (J4×Obj))(s:qa8)(σ:ae)(H:Hp)(Q:ζ Int->Hp->Prop),Inv X J0 σ H s->t σ H Q→
  wpAny (model X.prog X.w) X.A (evalPart e X.env) (λu s'=>∃o H',Inv X J0 σ H' s'/\zf5 u o/\Q o H') X.xe s
def v5:TO:=λ_ H Q=>Q ψ H
def CT(t:TE):TO:=λσ H Q=>t σ H λx H1=>∃i,x=.int i/\Q (ς i) H1
def mO{ns:η Int}:∀{us:η Value},Vals (ns.map V.int) us->zf0 us ns:=by
 induction ns with
 |nil=>intro us r;rw[qe3]at r;cases r;exact .nil
 |cons n ns U=>
  intro us r;rw[qa2]at r;cases r with
  |cons W O=>have⟨t,e⟩:=W;subst e;exact .cons n t (U O)
variable{r:V->ζ Int->ζ Int->Hp->VK->Prop}{xs:η V}{us:η Value}
section
variable{X:Cx}{e:J8}{te:TE}{lo hi:ζ J8}{tl th:TO}{pos p2:Pos}
def v6:jN X ψ v5:=by intro J0 s σ H Q I h;rw[evalPart_none];exact qa7 ⟨ψ,H,I,.none,h⟩
def v7(h:PE X e te):jN X (ς e) (CT te):=by
 intro J0 s σ H Q I U;rw[evalPart_some];refine thn (h J0 s σ H _ I U) λu s1 O=>?_
 have⟨x,H1,Z,W,q1⟩:=O;have⟨i,rfl,q⟩:=q1;have⟨t,rfl⟩:=W;exact⟨ς i,H1,Z,.int i t,q⟩
def SlR(X:Cx)(r:V->ζ Int->ζ Int->Hp->VK->Prop):Prop:=
 ∀(J0:η (J4×Obj))(s:qa8)(σ:ae)(H:Hp)(x:V)(v vl vu:Value)(lo hi:ζ Int)(sl:J4)(Q:VK),Inv X J0 σ H s->RelV x v->s.heap.IsSliceOf sl vl vu .none->zf5 vl lo->zf5 vu hi->r x lo hi H Q→
  ∃T id,typeLookup (.type T) "__getitem__"=pure (ς (.builtin id))/\s.TypeIs v T/\wpAny (model X.prog X.w) X.A (zg5 v (.ref sl)) (EP X J0 σ Q) X.xe s
theorem SlR.or{W:V->ζ Int->ζ Int->Hp->VK->Prop}(h:SlR X r)(h':SlR X W):SlR X (λx lo hi H Q=>r x lo hi H Q\/W x lo hi H Q):=by
 intro J0 s σ H x v vl vu lo hi sl Q I Z U pl O q;rcases q with q|q
 .exact h J0 s σ H x v vl vu lo hi sl Q I Z U pl O q
 .exact h' J0 s σ H x v vl vu lo hi sl Q I Z U pl O q
def tSl(r:V->ζ Int->ζ Int->Hp->VK->Prop)(te:TE)(tl th:TO):TE:=λσ H Q=>te σ H λx H1=>tl σ H1 λl H2=>th σ H2 λu O=>r x l u O Q
theorem rS(hr:SlR X r)(he:PE X e te)(hl:jN X lo tl)(hu:jN X hi th):PE X (.Subscript e (.Slice lo hi ψ p2) pos) (tSl r te tl th):=by
 intro J0 s σ H Q I h;refine Subscript_ (thn (he J0 s σ H _ I h) λv s1 O=>?_);have⟨x,H1,I1,r1,q1⟩:=O;refine wpAny_Slice (thn (hl J0 s1 σ H1 _ I1 q1) λvl s2 ⟨l,H2,I2,pl,q2⟩=>thn (hu J0 s2 σ H2 _ I2 q2) λvu s3 U=>?_);have⟨u,W,Z,pu,q3⟩:=U;rw[evalPart_none];refine qa7 ?_;have I4:Inv X J0 σ W {s3 with heap:=s3.heap.push {cls:=.type "slice",data:=.fields #[vl,vu,.none]}}:=Z.kept (t':=s3.toks) λb ob q=>gP _ q
 have⟨T,id,hT,ht,hg⟩:=hr J0 {s3 with heap:=s3.heap.push {cls:=.type "slice",data:=.fields #[vl,vu,.none]}} σ W x v vl vu l u s3.heap.objs.size Q I4 r1 (Heap.IsSliceOf.new ..) pl pu q3;show wpAny (model X.prog X.w) X.A (ze2 e (.Slice lo hi ψ p2) v (.ref s3.heap.objs.size)) (EP X J0 σ Q) X.xe {s3 with heap:=s3.heap.push {cls:=.type "slice",data:=.fields #[vl,vu,.none]}};exact tail_any (ops:=[.ref s3.heap.objs.size,v]) ht hT hg (by with_unfolding_all rfl)
noncomputable def lj(xs:η V)(lo hi:ζ Int):η V:=(xs.drop (HT.sIx xs.length 0 lo)).take (HT.sIx xs.length xs.length hi-HT.sIx xs.length 0 lo)
def f7(xs:η V)(lo hi:ζ Int):(lj xs lo hi).length<=xs.length:=by unfold lj;rw[ql2,qt4];lia
def rSlT(K:xA9):V->ζ Int->ζ Int->Hp->VK->Prop:=λx lo hi H Q=>∃a xs,x=.ref a/\SqT K H a xs∧¬ (HT.sIx xs.length 0 lo=0/\HT.sIx xs.length xs.length hi=xs.length)/\∀p,H p=ψ->Q (.ref p) (upd H p (.t (lj xs lo hi)))
def Ak:SlR X (rSlT X.K):=by
 intro J0 s σ H x v vl vu lo hi sl Q I rx hs pl pu h;have⟨a,xs,rfl,Z,hw,q⟩:=h;cases rx;have⟨J3,r,W,U⟩:=I.tuple Z;have O:J3.toArray.size=xs.length:=by rw[qb4];exact r.length.symm
 refine⟨"tuple",_,qm6.lookup,W.typeIs,?_⟩;refine HT.n9 W hs pl pu (by rw[O];exact hw) ?_ (by rw[O];exact U);rw[O];refine⟨.ref s.heap.objs.size,_,I.laid (t':=s.toks) (o:=.t (lj xs lo hi)) (λb ob q=>gP _ q) (nL _) ?_,rfl,q _ (I.hok.fresh (nL _))⟩;exact⟨qd2 (f7 xs lo hi) U,_,(r.drop (HT.sIx xs.length 0 lo)).take (HT.sIx xs.length xs.length hi-HT.sIx xs.length 0 lo),IsTu.new _ _⟩
def yC(K:xA9):R2:=λx y H Q=>∃a b xs ys,x=.ref a/\y=.ref b/\SqT K H a xs/\SqT K H b ys/\xs≠[]/\xs.length+ys.length<=qa4∧(ys=[]->Q (.ref a) H)/\(ys≠[]->∀p,H p=ψ->Q (.ref p) (upd H p (.t (xs++ys))))
def Vals.nil_iff(r:Vals xs us):us=[]↔xs=[]:=by
 cases r with
 |nil=>simp
 |cons _ _=>simp
theorem v8:OpR X (qh7 .Add) (yC X.K):=by intro J0 s σ H x y v u Q I rx ry h;have⟨a,b,xs,ys,rfl,rfl,ha,hb,hx,Z,q1,q2⟩:=h;cases rx;cases ry;have⟨J3,U,p1,_⟩:=I.tuple ha;have⟨W,O,p2,_⟩:=I.tuple hb;refine HT.EE p1 p2 (λz=>hx (U.nil_iff.mp z)) (λz=>⟨.ref a,H,I,rfl,q1 (O.nil_iff.mp z)⟩) (λz=>?_) (by rw[<- U.length,<- O.length];exact Z);refine⟨.ref s.heap.objs.size,_,I.laid (t':=s.toks) (o:=.t (xs++ys)) (λb ob q=>gP _ q) (nL _) ?_,rfl,q2 (λw=>z (O.nil_iff.mpr w)) _ (I.hok.fresh (nL _))⟩;exact⟨by rw[qc5];exact Z,_,U.append O,IsTu.new _ _⟩
end
noncomputable def ixN(n:Nat)(i:Int):ζ Nat:=if 0<=i then(if i<n then ς i.toNat else ψ)else if -(n:Int)<=i then ς (i+n).toNat else ψ
def atI{α:Type}(xs:η α)(i:Int):ζ α:=(ixN xs.length i).bind λj=>xs[j]?
variable{n j:Nat}
def oe{i:Int}(h:ixN n i=ς j):ze3 i n=ς j/\j<n/\-(n:Int)<=i/\i<n:=by
 unfold ixN at h;by_cases O:0<=i
 .rw[if_pos O]at h;by_cases h1:i<n
  .rw[if_pos h1]at h;have e:i.toNat=j:=qc9 h;exact⟨by rw[seqIndex_of O h1,e],Θ,Θ,h1⟩
  .rw[if_neg h1]at h;cases h
 .rw[if_neg O]at h;by_cases h1:-(n:Int)<=i
  .rw[if_pos h1]at h;have e:(i+n).toNat=j:=qc9 h;exact⟨by rw[zf6 Θ h1,e],Θ,h1,Θ⟩
  .rw[if_neg h1]at h;cases h
theorem jO{α:Type}{xs:η α}{i:Int}{v:α}(h:atI xs i=ς v):∃j,ze3 i xs.length=ς j/\xs[j]?=ς v/\j<xs.length/\-(xs.length:Int)<=i/\i<xs.length:=by
 unfold atI at h;cases e:ixN xs.length i with
 |none=>rw[e]at h;cases h
 |some j=>rw[e]at h;have⟨h1,h2,O,h4⟩:=oe e;exact⟨j,h1,h,h2,O,h4⟩
def v9{α:Type}{xs:η α}{v:α}(h:xs[j]?=ς v):atI xs (j:Int)=ς v:=by
 have O:j<xs.length:=(gX h).1
 have e:ixN xs.length (j:Int)=ς j:=by unfold ixN;rw[if_pos Θ,if_pos Θ];simp
 unfold atI;rw[e];exact h
def jP(b:J8):Prop:=∀o i,subscripted b ξ o i=operate [o,i] (zg5 o i)
def IxR(X:Cx)(r:R2):Prop:=
 ∀(value O:J8)(J0:η (J4×Obj))(s:qa8)(σ:ae)(H:Hp)(x y:V)(v u:Value)(Q:VK),Inv X J0 σ H s->RelV x v->RelV y u->r x y H Q→
  subscripted O ξ v u=operate [v,u] (zg5 v u)->wpAny (model X.prog X.w) X.A (ze2 value O v u) (EP X J0 σ Q) X.xe s
def MtR(X:Cx)(id:String)(r:V->η V->Hp->VK->Prop):Prop:=
 ∀(J0:η (J4×Obj))(s:qa8)(σ:ae)(H:Hp)(x:V)(xs:η V)(v:Value)(us:η Value)(Q:VK),Inv X J0 σ H s->RelV x v->Vals xs us->r x xs H Q→
  wpAny (model X.prog X.w) X.A (call (.builtin id) (v::us)) (EP X J0 σ Q) X.xe s
variable{J0:η (J4×Obj)}{σ:ae}{H:Hp}{J3 its':η Value}{A:ql5}{y x:V}{u:Value}
section
variable{X:Cx}{a b:J8}{ta tb:TE}{pos:Pos}
def IxR.or{r Z:R2}(h:IxR X r)(h':IxR X Z):IxR X (λx y H Q=>r x y H Q\/Z x y H Q):=by
 intro value O J0 s σ H x y v u Q I rx W q U;rcases q with q|q
 .exact h value O J0 s σ H x y v u Q I rx W q U
 .exact h' value O J0 s σ H x y v u Q I rx W q U
theorem CU{r:R2}(Z:IxR X r)(O:PE X a ta)(hb:PE X b tb)(hs:jP b):PE X (.Subscript a b pos) (tOp r ta tb):=by intro J0 s σ H Q I h;exact Subscript_ (zV O hb I h λv u W x y H2 U rx ry q=>Z a b J0 W σ H2 x y v u Q U rx ry q (hs _ _))
def rIxL(K:xA9):R2:=λx y H Q=>∃p xs i v,x=.ref p/\y=.int i/\SqL K H p xs/\atI xs i=ς v/\Q v H
def rIxT(K:xA9):R2:=λx y H Q=>∃p xs i v,x=.ref p/\y=.int i/\SqT K H p xs/\atI xs i=ς v/\Q v H
def rIxS:R2:=λx y H Q=>∃z i c,x=.str z/\y=.int i/\z.length<=qa4/\atI z.cps.toList i=ς c/\Q (.str ⟨#[c]⟩) H
def ix_list:IxR X (rIxL X.K):=by
 intro value slice J0 s σ H x y v u Q I rx ry h hs;have⟨p,xs,i,z,rfl,rfl,hq,he,q⟩:=h;cases rx;have⟨t,rfl⟩:=ry;have⟨J3,r,pl,hz⟩:=I.list hq;have⟨j,h1,h2,h3,h4,h5⟩:=jO he;have⟨w,ew,rw'⟩:=r.get h2;have hl:=r.length;have hn:=eZ;have fin:EP X J0 σ Q w s:=⟨z,H,I,rw',q⟩;by_cases h0:0<=i
 .have hj:i.toNat=j:=by rw[seqIndex_of h0 h5]at h1;exact qc9 h1
  exact item_listR pl.isList h0 Θ (by rw[hj];simpa using ew) fin hs
 .have hj:(i+(J3.toArray.size:Int)).toNat=j:=by rw[zf6 Θ h4]at h1;rw[qb4,<- hl];exact qc9 h1
  exact za1 (x:=w) pl.isList.typeIs slot_list_getitem.lookup
   (wpAny_getItem_list_neg (Q:=λr s'=>r=w/\EP X J0 σ Q r s') pl.isList Θ (by rw[qb4]<;>lia) Θ (by rw[hj];simpa using ew) ⟨rfl,fin⟩) hs
def ix_tup:IxR X (rIxT X.K):=by
 intro value slice J0 s σ H x y v u Q I rx ry h hs;have⟨p,xs,i,z,rfl,rfl,hq,he,q⟩:=h;cases rx;have⟨t,rfl⟩:=ry;have⟨J3,r,pl,hz⟩:=I.tuple hq;have⟨j,h1,h2,h3,h4,h5⟩:=jO he;have⟨w,ew,rw'⟩:=r.get h2;have hl:=r.length;have hn:=eZ;have fin:EP X J0 σ Q w s:=⟨z,H,I,rw',q⟩
 exact za1 (x:=w) pl.typeIs slot_tuple_getitem.lookup
  (getItem_tuple (j:=j) (Q:=λr s'=>r=w/\EP X J0 σ Q r s') pl Θ Θ (by rw[qb4,<- hl];exact h1) ‹ew› ⟨rfl,fin⟩) hs
def Al:IxR X rIxS:=by
 intro value slice J0 s σ H x y v u Q I rx ry h hs;have⟨z,i,c,rfl,rfl,hz,he,q⟩:=h;have⟨t,rfl⟩:=rx;have⟨t',rfl⟩:=ry;have⟨j,h1,h2,h3,h4,h5⟩:=jO he;have hl:z.cps.toList.length=z.length:=by simp[Str.length]
 rw[hl]at h1 h4 h5;have hn:=eZ
 exact tail_any (typeIs_str s z t) slot_str_getitem.lookup (getItem_str (c:=c) (by have e1:decide (i < -(2^63:Int))=ξ:=decide_eq_false Θ;have e2:decide (i ≥ 2^63)=ξ:=decide_eq_false Θ;rw[e1,e2,Bool.or_false]) (by rw[h1];simpa using h2) ⟨.str ⟨#[c]⟩,H,I.tok _,⟨_,rfl⟩,q⟩) hs
def rIx(K:xA9):R2:=λx y H Q=>rIxL K x y H Q\/rIxT K x y H Q\/rIxS x y H Q
def Am:IxR X (rIx X.K):=ix_list.or (ix_tup.or Al)
theorem mP(J3:η Value)(n j:Nat)(u:Value):qk5 (·.setIfInBounds j u) {cls:=.type "list",data:=.seq J3.toArray n}={cls:=.type "list",data:=.seq (J3.set j u).toArray n}:=by simp[qk5]
def Inv.lst {s:qa8} {p:J4} (I:Inv X J0 σ H s) (h:H p=ς (.e xs)) :
  ∃(J3:η Value)(n:Nat),Vals xs J3/\s.heap.get? p=ς {cls:=.type "list",data:=.seq J3.toArray n}/\xs.length<=qa4:=by
 have⟨z,J3,n,r,e⟩:=I.hok p _ h;exact⟨J3,n,r,e,z⟩
def Inv.lstUpd{s:qa8}{p:J4}{ys:η V}{n':Nat}{f:Obj->Obj}(I:Inv X J0 σ H s)(h:H p=ς (.e xs))
 (U:s.heap.get? p=ς {cls:=.type "list",data:=.seq J3.toArray n}) (O:f {cls:=.type "list",data:=.seq J3.toArray n}={cls:=.type "list",data:=.seq its'.toArray n'}) (r:Vals ys its') (hz:ys.length<=qa4) (t:Nat) :
  Inv X J0 σ (upd H p (.e ys)) {s with heap:=s.heap.update p f,toks:=t}:=by
 have e:(s.heap.update p f).get? p=ς {cls:=.type "list",data:=.seq its'.toArray n'}:=by rw[qf8 f U (by rw[O]<;>rfl),O]
 refine I.write (x:=p) (e:=p) (by rw[h];trivial) (.inl rfl) (λb u hb q=>(qi2 _ _ (qk7 hb)).trans q) ⟨_,e⟩ ?_;exact⟨hz,its',n',r,e⟩
def yD:V->V->V->Hp->(Hp->Prop)->Prop:=λo i v H Q=>∃p xs k j,o=.ref p/\i=.int k/\H p=ς (.e xs)/\ixN xs.length k=ς j/\Q (upd H p (.e (xs.set j v)))
def rT:PSet X yD:=by
 intro J0 s σ H o i v ov iv u Q I ro ri rv h;have⟨p,xs,k,j,rfl,rfl,hp,hj,q⟩:=h;cases ro;have⟨t,rfl⟩:=ri;have⟨J3,n,r,ho,hz⟩:=I.lst hp;have⟨h1,h2,h3,h4⟩:=oe hj;have hl:=r.length;have hn:=eZ
 have I':Inv X J0 σ (upd H p (.e (xs.set j v))) {s with heap:=s.heap.update p (qk5 (·.setIfInBounds j u))}:=I.lstUpd hp ho (mP J3 n j u) (r.set rv j) (by rw[qu8];exact hz) s.toks
 by_cases h0:0<=k
 .have hk:k.toNat=j:=by rw[seqIndex_of h0 h4]at h1;exact qc9 h1
  exact PySem.W.ki_setAt ho h0 Θ (by rw[qb4,<- hl];exact h4) (by rw[hk];exact⟨_,I',q⟩)
 .have hk:(k+(J3.toArray.size:Int)).toNat=j:=by rw[zf6 Θ h3]at h1;rw[qb4,<- hl];exact qc9 h1
  exact PySem.W.ki_setBack ho Θ (by rw[qb4,<- hl];exact h3) Θ (by rw[hk];exact⟨_,I',q⟩)
theorem jQ(lo hi:ζ Int)(n:Nat):(qs5 lo hi ψ n).1=((HT.sIx n 0 lo:Nat):Int)/\(qs5 lo hi ψ n).2.1=((HT.sIx n n hi:Nat):Int)/\(qs5 lo hi ψ n).2.2=1:=by
 refine⟨?_,?_,rfl⟩
 .cases lo with
  |none=>simp[qs5,HT.sIx]
  |some i=>
   rwa[qs5,HT.sIx,qz6,show(1:Int) > 0 by decide,if_true];by_cases h:i<0
   .rwa[h,if_true]<;>lia
   .rwa[h,if_false]<;>lia
 .cases hi with
  |none=>simp[qs5,HT.sIx]
  |some i=>
   rwa[qs5,HT.sIx,qz6,show(1:Int) > 0 by decide,if_true];by_cases h:i<0
   .rwa[h,if_true]<;>lia
   .rwa[h,if_false]<;>lia
theorem iK(J3:η Value)(lo hi:ζ Int):slicePick J3.toArray lo hi ψ=((J3.drop (HT.sIx J3.length 0 lo)).take (HT.sIx J3.length J3.length hi-HT.sIx J3.length 0 lo)).toArray:=by have⟨h1,h2,O⟩:=jQ lo hi J3.toArray.size;unfold slicePick;rw[h1,h2,O];rwa[sliceRange_one,pick_run,qb4]<;>rfl
def rSlL(K:xA9):V->ζ Int->ζ Int->Hp->VK->Prop:=λx lo hi H Q=>∃a xs,x=.ref a/\SqL K H a xs/\∀p,H p=ψ->Q (.ref p) (upd H p (.e (lj xs lo hi)))
theorem wb:SlR X (rSlL X.K):=by intro J0 s σ H x v vl vu lo hi sl Q I rx hs pl Z h;have⟨a,xs,rfl,W,q⟩:=h;cases rx;have⟨J3,r,U,hz⟩:=I.list W;have O:=r.length;refine⟨"list",_,slot_list_getitem.lookup,U.isList.typeIs,?_⟩;refine wpAny_getItem_list_slice U.isList hs pl Z .none Ξ ?_ (by rw[qb4]<;>lia);rw[iK,<- O];refine⟨.ref s.heap.objs.size,_,I.laid (t':=s.toks) (o:=.e (lj xs lo hi)) (λb ob q=>gP _ q) (nL _) ?_,rfl,q _ (I.hok.fresh (nL _))⟩;exact⟨qd2 (f7 xs lo hi) hz,_,0,(r.drop (HT.sIx xs.length 0 lo)).take (HT.sIx xs.length xs.length hi-HT.sIx xs.length 0 lo),qb8 _ rfl⟩
noncomputable def dL:V->Bool
 |.non=>θ
 |.bl _=>θ
 |.int _=>θ
 |.str _=>θ
 |_=>ξ
noncomputable def eqV:V->V->Bool
 |.non,.non=>θ
 |.bl a,.bl b=>a==b
 |.bl a,.int b=>(if a then 1 else 0)==b
 |.int a,.bl b=>a==(if b then 1 else 0)
 |.int a,.int b=>a==b
 |.str a,.str b=>a==b
 |_,_=>ξ
def fm{s:qa8}{v:Value}(U:RelV y u)(O:RelV x v)(W:dL y=θ)(fx:dL x=θ):qf3 A s u v (eqV y x):=by
 cases y with
 |non=>
  cases U;cases x with
  |non=>cases O;exact zb6 _
  |bl b=>cases O;exact qf3.none_bool b
  |int b=>have⟨t,rfl⟩:=O;exact qf3.none_int b t
  |str b=>have⟨t,rfl⟩:=O;exact qf3.none_str b t
  |_=>exact absurd (show ξ=θ from fx) qb5
 |bl a=>
  cases U;cases x with
  |non=>cases O;exact qf3.bool_none a
  |bl b=>cases O;exact qf3.bool_bool a b
  |int b=>have⟨t,rfl⟩:=O;exact qf3.bool_int a b t
  |str b=>have⟨t,rfl⟩:=O;exact qf3.bool_str a b t
  |_=>exact absurd (show ξ=θ from fx) qb5
 |int a=>
  have⟨t',rfl⟩:=U;cases x with
  |non=>cases O;exact qf3.int_none a t'
  |bl b=>cases O;exact qf3.int_bool a t' b
  |int b=>have⟨t,rfl⟩:=O;exact qf3.int_int a t' b t
  |str b=>have⟨t,rfl⟩:=O;exact qf3.int_str a t' b t
  |_=>exact absurd (show ξ=θ from fx) qb5
 |str a=>
  have⟨t',rfl⟩:=U;cases x with
  |non=>cases O;exact qf3.str_none a t'
  |bl b=>cases O;exact qf3.str_bool a t' b
  |int b=>have⟨t,rfl⟩:=O;exact qf3.str_int a t' b t
  |str b=>have⟨t,rfl⟩:=O;exact qf3.str_str a t' b t
  |_=>exact absurd (show ξ=θ from fx) qb5
 |_=>exact absurd (show ξ=θ from W) qb5
def eqU(x:V)(u:Value):Bool:=match u with
 |.none=>eqV .non x
 |.bool b=>eqV (.bl b) x
 |.int i _=>eqV (.int i) x
 |.str z _=>eqV (.str z) x
 |_=>ξ
def rV(r:RelV y u)(f:dL y=θ):eqU x u=eqV y x:=by
 cases y with
 |non=>cases r;rfl
 |bl b=>cases r;rfl
 |int i=>have⟨t,rfl⟩:=r;rfl
 |str z=>have⟨t,rfl⟩:=r;rfl
 |_=>exact absurd (show ξ=θ from f) qb5
theorem ej:∀{xs:η V}{us:η Value},Vals xs us->xs.all dL=θ->us.any (eqU x)=xs.any λy=>eqV y x
 |_,_,.nil,_=>rfl
 |y::xs,u::us,.cons r t,f=>by rw[qc7,qa1]at f;rw[ql7,ql7,rV r f.1,ej t f.2]
theorem cR{s:qa8}{v:Value}(U:RelV x v)(fx:dL x=θ):∀{xs:η V}{us:η Value},Vals xs us->xs.all dL=θ->∀u∈us,qf3 A s u v (eqU x u)
 |_,_,.nil,_=>λu O=>by cases O
 |y::xs,u::us,.cons r t,f=>λW O=>by
  rw[qc7,qa1]at f;rcases qc4.mp O with rfl|O
  .rw[rV r f.1];exact fm r U f.1 fx
  .exact cR U fx t f.2 W O
def inV(x:V)(xs:η V):Bool:=xs.any λy=>eqV y x
def rIn(K:xA9)(O:Bool):R2:=λx y H Q=>∃p xs,y=.ref p/\(SqL K H p xs\/SqT K H p xs)/\dL x=θ/\xs.all dL=θ/\Q (.bl (if O then !inV x xs else inV x xs)) H
def pZ:OpR X (qf1 .In) (rIn X.K ξ):=by
 intro J0 s σ H x y v u Q I W ry h;have⟨p,xs,rfl,O,fx,fs,q⟩:=h;cases ry;rcases O with O|O
 .have⟨J3,r,pl,Z⟩:=I.list O;refine SeqAt.in_listAt (eqU x) pl.isList (λw U=>cR W fx r fs w ‹U›) ⟨.bl _,H,I,rfl,?_⟩;rw[show J3.toArray.any (eqU x)=J3.any (eqU x)by simp,ej r fs];exact q
 .have⟨J3,r,pl,Z⟩:=I.tuple O;refine SeqAt.in_tupleAt (eqU x) pl (λw U=>cR W fx r fs w ‹U›) ⟨.bl _,H,I,rfl,?_⟩;rw[show J3.toArray.any (eqU x)=J3.any (eqU x)by simp,ej r fs];exact q
def jR:OpR X (qf1 .NotIn) (rIn X.K θ):=by
 intro J0 s σ H x y v u Q I W ry h;have⟨p,xs,rfl,O,fx,fs,q⟩:=h;cases ry;rcases O with O|O
 .have⟨J3,r,pl,Z⟩:=I.list O;refine SeqAt.notIn_listAt (eqU x) pl.isList (λw U=>cR W fx r fs w ‹U›) ⟨.bl _,H,I,rfl,?_⟩;rw[show J3.toArray.any (eqU x)=J3.any (eqU x)by simp,ej r fs];exact q
 .have⟨J3,r,pl,Z⟩:=I.tuple O;refine SeqAt.notIn_tupleAt (eqU x) pl (λw U=>cR W fx r fs w ‹U›) ⟨.bl _,H,I,rfl,?_⟩;rw[show J3.toArray.any (eqU x)=J3.any (eqU x)by simp,ej r fs];exact q
theorem jS:OpR X (qf1 .NotIn) (λx y H Q=>∃i j,x=.str i/\y=.str j/\Q (.bl (!(!(qr6 j i 0 j.length 1).isEmpty))) H):=by intro J0 s σ H x y v u Q I U O h;have⟨i,j,rfl,rfl,q⟩:=h;have⟨t,rfl⟩:=U;have⟨t',rfl⟩:=O;exact notIn_str ⟨.bl _,H,I,rfl,q⟩
theorem CallR.or{f:Value}{r O:η V->Hp->VK->Prop}(h:CallR X f r)(h':CallR X f O):CallR X f (λxs H Q=>r xs H Q\/O xs H Q):=by
 intro J0 s σ H xs us Q I rs q;rcases q with q|q
 .exact h J0 s σ H xs us Q I rs q
 .exact h' J0 s σ H xs us Q I rs q
theorem jT:CallR X (.type "list") (λxs H Q=>∃p ys,xs=[.ref p]/\(SqL X.K H p ys\/SqT X.K H p ys)/\∀l,H l=ψ->Q (.ref l) (upd H l (.e ys))):=by
 intro J0 s σ H xs us Q I r h;have⟨p,ys,rfl,hq,q⟩:=h;have⟨u,rfl,rx⟩:=cQ r;cases rx
 have fin:∀ (J3:η Value),Vals ys J3->ys.length<=qa4->∀ (h':Heap) (O:Nat),(∀ b o',s.heap.get? b=ς o'->h'.get? b=ς o')→
     h'.get? s.heap.objs.size=ς {cls:=.type "list",dict:=ψ,data:=.seq J3.toArray O,slots:=#[]}->EP X J0 σ Q (.ref s.heap.objs.size) {s with heap:=h'}:=λJ3 U Z h' O kp e=>
  ⟨.ref s.heap.objs.size,_,I.laid (t':=s.toks) kp (nL _) (show ObjOk X.prog X.w _ h' _ (.e ys)from⟨Z,J3,O,U,e⟩),rfl,q _ (I.hok.fresh (nL _))⟩
 rcases hq with hq|hq
 .have⟨J3,U,pl,Z⟩:=I.list hq;have W:=U.length;have⟨o,ho,hc,n,hd⟩:=pl.isList;exact call_list_seq p (.inl rfl) ho hc hd (λh' O kp e=>fin J3 U Z h' O kp e) (by rwa[qb4]<;>lia)
 .have⟨J3,U,pl,Z⟩:=I.tuple hq;have W:=U.length;have⟨o,ho,hc,n,hd⟩:=pl;exact call_list_seq p (.inr rfl) ho hc hd (λh' O kp e=>fin J3 U Z h' O kp e) (by rwa[qb4]<;>lia)
theorem iL:CallR X (.type "tuple") (λxs H Q=>∃p ys,xs=[.ref p]/\((SqL X.K H p ys/\∀l,H l=ψ->Q (.ref l) (upd H l (.t ys)))\/(SqT X.K H p ys/\Q (.ref p) H))):=by
 intro J0 s σ H xs us Q I r h;have⟨p,ys,rfl,h⟩:=h;have⟨u,rfl,rx⟩:=cQ r;cases rx;rcases h with ⟨U,q⟩|⟨U,q⟩
 .have⟨J3,O,pl,hz⟩:=I.list U;have W:=O.length;refine call_tuple_list pl.isList (λh' kp=>?_) (by rwa[qb4]<;>lia);have Z:Inv X J0 σ H {s with heap:=h'}:=I.kept (t':=s.toks) kp
  have I2:Inv X J0 σ (upd H h'.objs.size (.t ys)) {s with heap:=h'.push {cls:=.type "tuple",data:=.seq J3.toArray}}:=Z.laid (t':=s.toks) (λb o e=>gP _ e) (nL _) (show ObjOk X.prog X.w _ _ _ (.t ys)from⟨hz,J3,O,IsTu.new _ _⟩)
  exact⟨.ref h'.objs.size,_,I2,rfl,q _ (Z.hok.fresh (nL _))⟩
 .have⟨J3,O,pl,hz⟩:=I.tuple U;exact call_tuple_same pl ⟨.ref p,H,I,rfl,q⟩
def tyV(K:xA9)(T:String)(x:V)(H:Hp):Prop:=match x with
 |.str _=>T="str"
 |.int _=>T="int"
 |.ref p=>(T="list"/\∃xs,SqL K H p xs)\/(T="tuple"/\∃o,K.lookup p=ς o/\o.cls=.type "tuple"/\o.dict=ψ)\/(T="dict"/\((∃J1,H p=ς (.dK J1))\/∃J1,H p=ς (.dT J1)))\/(T="set"/\∃S n,H p=ς (.set S n))
 |_=>False
def rW {s:qa8} {T:String} {v:Value} (I:Inv X J0 σ H s) (r:RelV x v) (ty:tyV X.K T x H) :
  s.TypeIs v T/\∀a,v=.ref a->∃ob,s.heap.get? a=ς ob/\ob.dict=ψ:=by
 cases x with
 |str z=>have⟨t,rfl⟩:=r;cases (show T="str" from ty);exact⟨typeIs_str s z t,λ_ e=>nomatch e⟩
 |int i=>have⟨t,rfl⟩:=r;cases (show T="int" from ty);exact⟨typeIs_int s i t,λ_ e=>nomatch e⟩
 |ref p=>
  cases r;rcases ty with ⟨rfl,xs,W⟩|⟨rfl,o,O,hc,U⟩|⟨rfl,O⟩|⟨rfl,S,n,O⟩
  .have⟨J3,_,pl,_⟩:=I.list W;refine⟨pl.isList.typeIs,λa e=>?_⟩;cases e;have⟨o,n,e,c,U,_⟩:=pl;exact⟨o,e,U⟩
  .refine⟨⟨o,I.kIn p o O,hc⟩,λa e=>?_⟩;cases e;exact⟨o,I.kIn _ o O,U⟩
  .have z:∃o,s.heap.get? p=ς o/\o.ExactDict:=by
    rcases O with ⟨J1,O⟩|⟨J1,O⟩
    .have⟨_,_,_,_,o,_,_,e,ex,_⟩:=I.hok p _ O;exact⟨o,e,ex⟩
    .have⟨_,_,_,_,o,_,_,e,ex,_⟩:=I.hok p _ O;exact⟨o,e,ex⟩
   have⟨o,e,ex⟩:=z;refine⟨⟨o,e,ex.1⟩,λa e2=>?_⟩;cases e2;exact⟨o,e,ex.2.1⟩
  .have⟨o,_,_,_,e,ex,_⟩:=I.hok p _ O;refine⟨⟨o,e,ex.1⟩,λa e2=>?_⟩;cases e2;exact⟨o,e,ex.2.1⟩
 |_=>exact qk4 ty
def tBM0(K:xA9)(T:String)(r:V->η V->Hp->VK->Prop)(to:TE):TE:=λσ H Q=>to σ H λx H1=>tyV K T x H1/\r x [] H1 Q
def tBM(K:xA9)(T:String)(r:V->η V->Hp->VK->Prop)(to:TE)(t:TA):TE:=λσ H Q=>to σ H λx H1=>tyV K T x H1/\t σ H1 λxs H2=>r x xs H2 Q
variable{o e:J8}{es:η J8}{to:TE}{t:TA}{name:Str}{apos cpos:Pos}{T id:String}{r:V->η V->Hp->VK->Prop}
theorem mQ (pa:PlainAttrs T) (W:Slot T name id) (hty:typeOf (.builtin id)=pure (.type "method_descriptor")) (hm:MtR X id r) (ho:PE X o to)
  (O:qi8 o name X.env (eval o X.env)=eval o X.env:=by rfl) (U:(apos.endLine==cpos.line)=θ:=by rfl):PE X (.Call (.Attribute o name apos) [] [] cpos) (tBM0 X.K T r to):=by
 intro J0 s σ H Q I h;refine wpAny_Call_method0_late O U (thn (ho J0 s σ H _ I h) λv s1 Z=>?_);have⟨x,H1,I1,r1,ty,q1⟩:=Z;have⟨h1,h2⟩:=rW I1 r1 ty;exact⟨T,id,pa,W,hty,h1,h2,qs1 rfl (PySem.evalArgs_none (hm J0 s1 σ H1 x [] v [] Q I1 r1 .nil q1))⟩
theorem ll (pa:PlainAttrs T) (slot:Slot T name id) (hty:typeOf (.builtin id)=pure (.type "method_descriptor")) (hm:MtR X id r) (ho:PE X o to) (ha:PA X (e::es) t)
  (U:qi8 o name X.env (eval o X.env)=eval o X.env:=by rfl)
  (hfew:((qh6 cpos (qb1 (e::es) X.env)).all (λx=>!x.1)&&(qo9 cpos (qi4 [] X.env)).all (λx=>x.1.isSome)
   && decide ((e::es).length+([]:η qw8).length+(if([]:η qw8).isEmpty then 0 else 1)<30))=θ:=by rfl)
  (W:(apos.endLine==cpos.line)=θ:=by rfl) (hs:qb1 (e::es) X.env=(ξ,eval e X.env)::qb1 es X.env:=by rfl) (O:(qh6 cpos (qb1 es X.env)).any (·.1)=ξ:=by rfl) :
  PE X (.Call (.Attribute o name apos) (e::es) [] cpos) (tBM X.K T r to t):=by
 intro J0 s σ H Q I h;refine wpAny_Call_method_late U hfew W rfl (thn (ho J0 s σ H _ I h) λv s1 hq89=>?_);have⟨x,H1,I1,r1,ty,q1⟩:=hq89;have⟨h1,h2⟩:=rW I1 r1 ty;refine⟨T,id,pa,slot,hty,h1,h2,?_⟩;have hA:=ha cpos J0 s1 σ H1 _ I1 q1;rw[hs]at hA ⊢;refine qs1 (by show(ξ||(qh6 cpos (qb1 es X.env)).any (·.1))=ξ;rw[O]<;>rfl) (Calls.evalArgs_plain ?_);exact thn hA λus s2 Z=>by have⟨vs,H2,I2,r2,q2⟩:=Z;exact hm J0 s2 σ H2 x vs v us Q I2 r1 r2 q2
end
def MtM(X:Cx)(id:String)(r:V->η V->Hp->VK->Prop):Prop:=
 ∀(J0:η (J4×Obj))(s:qa8)(σ:ae)(H:Hp)(x:V)(xs:η V)(v:Value)(us:η Value)(Q:VK),Inv X J0 σ H s->RelV x v->Vals xs us->r x xs H Q→
  wpAny (model X.prog X.w) X.A (call (.builtin id) (v::us)) (EP X J0 σ Q) X.xe s
def Vals.one:∀{x:V}{us:η Value},Vals [x] us->∃u,us=[u]/\RelV x u
 |_,_,.cons r .nil=>⟨_,rfl,r⟩
def Vals.zero:∀{us:η Value},Vals [] us->us=[]
 |_,.nil=>rfl
theorem Vals.eraseIdx:∀{xs:η V}{us:η Value}(i:Nat),Vals xs us->Vals (xs.eraseIdx i) (us.eraseIdx i)
 |_,_,_,.nil=>.nil
 |_,_,0,.cons _ t=>t
 |_,_,i+1,.cons r t=>.cons r (Vals.eraseIdx i t)
theorem Vals.rep(h:Vals xs us):∀k:Nat,Vals (qa9 k xs).flatten (qa9 k us).flatten
 |0=>.nil
 |k+1=>by rw[qf9,qf9,qk6,qk6];exact Vals.append h (Vals.rep h k)
theorem jb{α:Type}:∀(l:η α)(i:Nat),(l.eraseIdx i).length<=l.length
 |[],_=>nL _
 |_::_,0=>qi5 _
 |_::r,i+1=>qn3 (jb r i)
theorem jc (J3:η Value):∀ (k:Nat) (O:η Value),
  zc9 (λU W=>U++W) O.toArray (qa9 k J3.toArray)=(O++(qa9 k J3).flatten).toArray
 |0,O=>by simp
 |k+1,O=>by
  have e:O.toArray++J3.toArray=(O++J3).toArray:=by simp
  have e2:(O++J3)++(qa9 k J3).flatten=O++(qa9 (k+1) J3).flatten:=by rw[qf9,qk6,qd9]
  rw[<- e2,<- jc J3 k (O++J3),<- e,qf9,qr7]
variable{t':Nat}
section
variable{X:Cx}{J0:η (J4×Obj)}{σ:ae}{H:Hp}{s:qa8}{l b:J4}{xs ys zs:η V}
def Inv.lset{f:Array Value->Array Value}(I:Inv X J0 σ H s)(U:H l=ς (.e xs))
 (e:s.heap.get? l=ς {cls:=.type "list",data:=.seq J3.toArray n}) (W:f J3.toArray=its'.toArray) (O:Vals ys its') (hz:ys.length<=qa4) :
  Inv X J0 σ (upd H l (.e ys)) {s with heap:=s.heap.update l (qk5 f),toks:=t'}:=by
 have q:=PySem.IsL.update e f;rw[W]at q;refine I.write (x:=l) (e:=l) (by rw[U];exact trivial) (.inl rfl) (λb' u hb Z=>(qi2 s.heap (qk5 f) (qk7 hb)).trans Z) ⟨_,q⟩ ?_;exact⟨hz,its',_,O,q⟩
def Inv.lnew (I:Inv X J0 σ H s) (O:Vals ys J3) (hz:ys.length<=qa4) :
  Inv X J0 σ (upd H s.heap.objs.size (.e ys)) {s with heap:=s.heap.push {cls:=.type "list",data:=.seq J3.toArray},toks:=t'}:=
 I.laid (λ_ _ q=>gP _ q) (nL _) ⟨hz,J3,0,O,qb8 _ rfl⟩
def Inv.fresh(I:Inv X J0 σ H s):H s.heap.objs.size=ψ:=I.hok.fresh (nL _)
theorem Inv.lstM(I:Inv X J0 σ H s)(O:H l=ς (.e xs)):xs.length<=qa4/\∃(J3:η Value)(n:Nat),Vals xs J3/\xs.length=J3.length/\s.heap.get? l=ς {cls:=.type "list",data:=.seq J3.toArray n}:=by have⟨z,J3,n,r,e⟩:=I.hok l _ O;exact⟨z,J3,n,r,r.length,e⟩
def rX(h:n<=qa4):qq9 n=ξ:=by unfold qq9;exact decide_eq_false Θ
end
section
variable{X:Cx}
def wc:V->η V->Hp->VK->Prop:=λx vs H Q=>∃l xs y,x=.ref l/\vs=[y]/\H l=ς (.e xs)/\xs.length<qa4/\Q .non (upd H l (.e (xs++[y])))
theorem fq:MtM X "list.append" wc:=by intro J0 s σ H x vs v us Q I Z U h;have⟨l,xs,y,rfl,rfl,O,hz,q⟩:=h;cases Z;have⟨u,rfl,W⟩:=U.one;have⟨z,J3,n,r,hl,e⟩:=I.lstM O;refine qu3 F.slot_list_append ⟨_,e,rfl⟩ F.entry_list_append (F.args_list_append_2 _ _) (PySem.list_append l J3.toArray n u (by rw[qb4];lia)) ⟨e,?_⟩;refine⟨.non,_,I.lset (its':=J3++[u]) O e Ξ (r.append (.cons W .nil)) ?_,rfl,q⟩;rw[qc5,qj1];lia
def Ao:V->η V->Hp->VK->Prop:=λx vs H Q=>∃l xs i k y,x=.ref l/\vs=[.int i]/\H l=ς (.e xs)/\-(2^63)<=i/\i<2^63/\ze3 i xs.length=ς k/\xs[k]?=ς y/\Q y (upd H l (.e (xs.eraseIdx k)))
def rY:MtM X "list.pop" Ao:=by
 intro J0 s σ H x vs v us Q I rx rv h;have⟨l,xs,i,k,y,rfl,rfl,U,h1,h2,hk,hy,q⟩:=h;cases rx;have⟨u,rfl,Z⟩:=rv.one;have⟨t,rfl⟩:=Z;have⟨z,J3,n,r,hl,e⟩:=I.lstM U;have⟨w,W,O⟩:=r.get hy
 refine qu3 F.slot_list_pop ⟨_,e,rfl⟩ F.entry_list_pop (F.args_list_pop_2 _ _)
  (MeetsSeq.list_pop_at l J3.toArray n i t k w (fitsIndex_both h1 h2) (by rw[qb4,<- hl];exact hk) (by rw[<- zb7];exact W) (by rw[qb4];lia)) ⟨e,?_⟩
 refine⟨y,_,I.lset (its':=J3.eraseIdx k) U e ?_ (r.eraseIdx k) ?_,O,q⟩
 .show J3.toArray.eraseIdxIfInBounds k=(J3.eraseIdx k).toArray;rw[List.eraseIdxIfInBounds_toArray]
 .have:=jb xs k;lia
def Ap:V->η V->Hp->VK->Prop:=λx vs H Q=>∃l xs,x=.ref l/\vs=[]/\H l=ς (.e xs)/\Q .non (upd H l (.e []))
theorem rZ:MtM X "list.clear" Ap:=by intro J0 s σ H x vs v us Q I Z W h;have⟨l,xs,rfl,rfl,U,q⟩:=h;cases Z;have O:=W.zero;subst O;have⟨z,J3,n,r,hl,e⟩:=I.lstM U;refine qu3 F.slot_list_clear ⟨_,e,rfl⟩ F.entry_list_clear (F.args_list_clear_1 _) (AutoSeq1.list_clear_list_0 l J3.toArray n (by rw[qb4];lia)) ⟨e,?_⟩;exact⟨.non,_,I.lset (its':=[]) (ys:=[]) U e rfl .nil (qh2 _),rfl,q⟩
def oh{α:Type}(xs:η α)(k:Nat):(qa9 k xs).flatten.length=k*xs.length:=by
 induction k with
 |zero=>simp
 |succ k O=>rw[qf9,qk6,qc5,O,Nat.succ_mul,zb8]
end
section
variable{κ:Type}[DecidableEq κ]
noncomputable def bH(J1:η (κ×V))(k:κ):ζ V:=(J1.find? λkv=>decide (kv.1=k)).map (·.2)
noncomputable def aA(J1:η (κ×V))(k:κ)(v:V):η (κ×V):=if(J1.any λkv=>decide (kv.1=k))=θ then J1.map (λkv=>if kv.1=k then(kv.1,v)else kv)else J1++[(k,v)]
def el{p:κ×V}{r:η (κ×V)}{k:κ}(e:p.1=k):bH (p::r) k=ς p.2:=by simp[bH,qk8,e]
def cS{p:κ×V}{r:η (κ×V)}{k:κ}(e:¬ p.1=k):bH (p::r) k=bH r k:=by simp[bH,qk8,e]
theorem er(k:κ):∀J1:η (κ×V),(J1.any λkv=>decide (kv.1=k))=(bH J1 k).isSome
 |[]=>rfl
 |p::r=>by
  rw[ql7];by_cases e:p.1=k
  .rwa[el e,decide_eq_true e,Bool.true_or,Option.isSome_some]
  .rw[cS e,decide_eq_false e,ze4];exact er k r
def cT(J1:η (κ×V))(k:κ)(v:V):(aA J1 k v).length<=J1.length+1:=by
 unfold aA;split
 .rw[qa3];lia
 .rw[qc5,qb6,qg6];lia
def r0{J1:η (κ×V)}{k:κ}(v:V)(h:bH J1 k=ψ):aA J1 k v=J1++[(k,v)]:=by unfold aA;rw[er,h];exact if_neg Ω
def RelO.isSome_eq{o:ζ V}{u:ζ Value}(r:RelO o u):o.isSome=u.isSome:=by
 cases o with
 |none=>cases u with
  |none=>rfl
  |some _=>exact(show False from r).elim
 |some _=>cases u with
  |none=>exact(show False from r).elim
  |some _=>rfl
def RelO.getD{o:ζ V}{u:ζ Value}{d:V}{d':Value}(r:RelO o u)(rd:RelV d d'):RelV (o.getD d) (u.getD d'):=by
 cases o with
 |none=>cases u with
  |none=>exact rd
  |some _=>exact(show False from r).elim
 |some _=>cases u with
  |none=>exact(show False from r).elim
  |some _=>exact r
def KV.val{J1:η (κ×V)}{vs:η (κ×Value)}(r:KV J1 vs)(k:κ):RelO (bH J1 k) (zf1 vs k):=by
 unfold KV at r;induction r with
 |nil=>exact ql1
 |@cons p q ps O h t W=>
  have⟨h1,h2⟩:=h;by_cases e:p.1=k
  .have U:q.1=k:=h1.symm.trans e;have b:zf1 (q::O) k=ς q.2:=by simp[zf1,qk8,U]
   rw[el e,b];exact h2
  .have U:¬ q.1=k:=λz=>e (h1.trans z)
   have b:zf1 (q::O) k=zf1 O k:=by simp[zf1,qk8,U]
   rw[cS e,b];exact W
theorem KV.any{J1:η (κ×V)}{vs:η (κ×Value)}(r:KV J1 vs)(k:κ):(J1.any λkv=>decide (kv.1=k))=vs.any λkv=>decide (kv.1=k):=by
 unfold KV at r;induction r with
 |nil=>rfl
 |cons h t O=>rw[ql7,ql7,O,h.1]
def KV.repl {J1:η (κ×V)} {vs:η (κ×Value)} (r:KV J1 vs) (k:κ) (O:RelV y u) :
  KV (J1.map λkv=>if kv.1=k then(kv.1,y)else kv) (vs.map λkv=>if kv.1=k then(kv.1,u)else kv):=by
 unfold KV at r ⊢;induction r with
 |nil=>exact .nil
 |@cons p q ps W h t U=>
  rw[qa2,qa2];refine .cons ?_ U;have⟨h1,h2⟩:=h;by_cases e:p.1=k
  .rw[if_pos e,if_pos (h1.symm.trans e)];exact⟨h1,O⟩
  .rw[if_neg e,if_neg (λz=>e (h1.trans z))];exact⟨h1,h2⟩
def KV.put{J1:η (κ×V)}{vs:η (κ×Value)}(r:KV J1 vs)(k:κ)(O:RelV y u):KV (aA J1 k y) (stored vs k u):=by
 unfold aA stored;rw[r.any k];by_cases e:(vs.any λkv=>decide (kv.1=k))=θ
 .rw[if_pos e,if_pos e];exact r.repl k O
 .rw[if_neg e,if_neg e];exact Paired.snoc r ⟨rfl,O⟩
def KV.length{J1:η (κ×V)}{vs:η (κ×Value)}(r:KV J1 vs):J1.length=vs.length:=Paired.length r
end
variable{P:qe7}
def gY{w:J5}{k:Key}(r:RelV (kV k) u):(aq P w).is k u=θ:=by
 cases k with
 |inl i=>have⟨t,e⟩:=(show ∃t,u=zd7 i t from r);subst e;exact k9 P w i t
 |inr x=>have⟨t,e⟩:=(show ∃t,u=zd8 x t from r);subst e;exact lb P w x t
theorem jd{w:J5}:∀{ks:η Key}{us:η Value},Vals (ks.map kV) us->ItemsAre (aq P w) ks us
 |[],_,r=>by rw[qe3]at r;cases r;exact .nil
 |k::ks,_,r=>by
  rw[qa2]at r;cases r with
  |cons h t=>exact .cons (gY h) (jd t)
abbrev KT(H:Hp):η (η Key×V)->η (η Key×J4×Value)->Prop:=Paired λp q=>p.1=q.1/\H q.2.1=ς (.t (p.1.map kV))/\RelV p.2 q.2.2
variable{J1:η (η Key×V)}
def KT.val{xs:η (η Key×J4×Value)}(r:KT H J1 xs)(k:η Key):RelO (bH J1 k) ((atKey xs k).map (·.2)):=by
 induction r with
 |nil=>exact ql1
 |@cons p q ps O h t W=>
  have⟨h1,_,h2⟩:=h;by_cases e:p.1=k
  .have U:q.1=k:=h1.symm.trans e;have b:atKey (q::O) k=ς q.2:=by simp[atKey,qk8,U]
   rw[el e,b];exact h2
  .have U:¬ q.1=k:=λz=>e (h1.trans z)
   have b:atKey (q::O) k=atKey O k:=by simp[atKey,qk8,U]
   rw[cS e,b];exact W
def KT.repl {xs:η (η Key×J4×Value)} (r:KT H J1 xs) (k:η Key) (U:RelV y u) :
  KT H (J1.map λkv=>if kv.1=k then(kv.1,y)else kv) (xs.map (putAt k u)):=by
 induction r with
 |nil=>exact .nil
 |@cons p q ps Z h t W=>
  rw[qa2,qa2];refine .cons ?_ W;have⟨h1,h2,O⟩:=h;unfold putAt;by_cases e:p.1=k
  .rw[if_pos e,if_pos (h1.symm.trans e)];exact⟨h1,h2,U⟩
  .rw[if_neg e,if_neg (λz=>e (h1.trans z))];exact⟨h1,h2,O⟩
def KT.put {xs:η (η Key×J4×Value)} (r:KT H J1 xs) (k:η Key) {b:J4} (hb:H b=ς (.t (k.map kV))) (O:RelV y u) :
  KT H (aA J1 k y) (storedH xs k b u):=by
 have e:(J1.any λkv=>decide (kv.1=k))=(atKey xs k).isSome:=by rw[er,(r.val k).isSome_eq,qx7]
 unfold aA storedH;rw[e];by_cases q:(atKey xs k).isSome=θ
 .rw[if_pos q,if_pos q];exact r.repl k O
 .rw[if_neg q,if_neg q];exact Paired.snoc r ⟨rfl,hb,O⟩
variable{H':Hp}
theorem KT.keeps{xs:η (η Key×J4×Value)}(r:KT H J1 xs)(O:∀b ys,H b=ς (.t ys)->H' b=ς (.t ys)):KT H' J1 xs:=Paired.mapP r λ_ _ z=>⟨z.1,O _ _ z.2.1,z.2.2⟩
section
variable{P:qe7}{w:J5}{H:Hp}{h:Heap}{a:J4}
def yE{u:HO}(ok:HOk P w H h)(e:Rd H a u):ObjOk P w H h a u:=e.ok ok
theorem f8{J1:η (Key×V)}(ok:HOk P w H h)(e:Rd H a (.dK J1)):J1.length<=qa4/\(a==qk3)=ξ/\∃vs,KV J1 vs/\h.DictOf (aq P w) a vs:=show ObjOk P w H h a (.dK J1)from yE ok e
theorem yF{J1:η (Key×V)}(ok:HOk P w H h)(e:H a=ς (.dK J1)):J1.length<=qa4/\(a==qk3)=ξ/\∃vs,KV J1 vs/\h.DictOf (aq P w) a vs:=f8 ok (.inl e)
theorem fw{ks:η Key}(ok:HOk P w H h)(e:H a=ς (.t (ks.map kV))):(za7 (aq P w)).is h ks a:=by have⟨_,J3,r,⟨o,h1,h2,n,O⟩,_⟩:=(show ObjOk P w H h a (.t (ks.map kV))from ok a _ e);exact⟨o,J3.toArray,n,h1,h2,O,‹jd r›⟩
def gZ (ok:HOk P w H h) (e:Rd H a (.dT J1)):J1.length<=qa4/\(a==qk3)=ξ∧
  ∃xs,KT H J1 xs/\h.DictOfH (za7 (aq P w)) a xs:=by
 have⟨z,y,xs,r,o,es,ep,h1,h2,Z,h4,W⟩:=(show ObjOk P w H h a (.dT J1)from yE ok e);refine⟨z,y,xs,r,o,es,ep,h1,h2,Z,h4,λx O=>?_,W⟩
 have all:∀{l:η (η Key×V)}{m:η (η Key×J4×Value)},KT H l m->∀x∈m,(za7 (aq P w)).is h x.1 x.2.1:=by
  intro l m q;induction q with
  |nil=>intro x O;exact nomatch O
  |@cons p q ps qs U t ih=>
   intro x O;rcases qc4.mp O with e|O
   .subst e;exact fw ok (by rw[<- U.1];exact U.2.1)
   .exact ih x O
 exact all r x O
theorem CW(ok:HOk P w H h)(e:H a=ς (.dT J1)):J1.length<=qa4/\(a==qk3)=ξ∧∃xs,KT H J1 xs/\h.DictOfH (za7 (aq P w)) a xs:=gZ ok (.inl e)
end
def DGet(H:Hp)(a:J4)(y:V)(r:ζ V):Prop:=(∃J1 k,Rd H a (.dK J1)/\y=kV k/\r=bH J1 k)\/∃J1 k b,Rd H a (.dT J1)/\y=.ref b/\H b=ς (.t (k.map kV))/\r=bH J1 k
def DPut(H:Hp)(a:J4)(y v:V)(H':Hp):Prop:=
 (∃J1 k,H a=ς (.dK J1)/\y=kV k/\J1.length<qa4/\H'=upd H a (.dK (aA J1 k v)))\/
 ∃J1 k b,H a=ς (.dT J1)/\y=.ref b/\H b=ς (.t (k.map kV))/\J1.length<qa4/\H'=upd H a (.dT (aA J1 k v))
variable{a:J4}
def DGet.k{J1:η (Key×V)}{k:Key}(e:H a=ς (.dK J1)):DGet H a (kV k) (bH J1 k):=.inl ⟨J1,k,.inl e,rfl,rfl⟩
theorem DGet.t{b:J4}{k:η Key}(e:H a=ς (.dT J1))(O:H b=ς (.t (k.map kV))):DGet H a (.ref b) (bH J1 k):=.inr ⟨J1,k,b,.inl e,rfl,O,rfl⟩
theorem DPut.k{J1:η (Key×V)}{k:Key}{v:V}(e:H a=ς (.dK J1))(hl:J1.length<qa4):DPut H a (kV k) v (upd H a (.dK (aA J1 k v))):=.inl ⟨J1,k,e,rfl,hl,rfl⟩
def DPut.t {b:J4} {k:η Key} {v:V} (e:H a=ς (.dT J1)) (O:H b=ς (.t (k.map kV))) (hl:J1.length<qa4) :
  DPut H a (.ref b) v (upd H a (.dT (aA J1 k v))):=.inr ⟨J1,k,b,e,rfl,O,hl,rfl⟩
variable{Q:Value->qa8->Prop}{h':Heap}
section
variable{X:Cx}{J0:η (J4×Obj)}{σ:ae}{H:Hp}{s:qa8}{a:J4}{y v:V}{u r:Value}{o:ζ V}{A:ql5}{E:Value->qa8->Prop}
theorem Inv.big(I:Inv X J0 σ H s):qk3<s.heap.objs.size:=by have h:qe8<s.heap.objs.size:=(I.mod.glob.keeps I.bk).lt;exact ql8 Ω h
theorem p4 (hu:A.units+1<cLine) (I:Inv X J0 σ H s) (g:DGet H a y (ς v)) (ry:RelV y u) (h:∀ W s',Inv X J0 σ H s'->RelV v W->Q W s') :
  wpAny (model X.prog X.w) A (zg5 (.ref a) u) Q E s:=by
 rcases g with ⟨J1,k,e,ey,l⟩|⟨J1,k,b,e,ey,eb,l⟩
 .subst ey;have⟨z,hd,vs,U,dd⟩:=f8 I.hok e;have⟨W,Z,O⟩:=RelO.some_of (v:=v) (o:=zf1 vs k) (by rw[l];exact U.val k);exact wpAny_getItem_of (gY ry) dd.mapOf Z (h W _ (I.tok _) O)
 .subst ey;cases (show u=qc1 b from ry);have⟨z,hd,xs,U,dd⟩:=gZ I.hok e;have⟨W,Z,O⟩:=RelO.some_of (v:=v) (o:=(atKey xs k).map (·.2)) (by rw[l];exact U.val k);have⟨p,hp,hp2⟩:=qd4.mp Z;refine wpAny_getItem_heap (qn9 hu) (fw I.hok eb) dd hp ?_;rw[hp2];exact h W _ (I.tok _) O
theorem d_in (hu:A.units+1<cLine) (I:Inv X J0 σ H s) (g:DGet H a y o) (ry:RelV y u) (h:∀ s',Inv X J0 σ H s'->Q (.bool o.isSome) s') :
  wpAny (model X.prog X.w) A (qf1 .In u (.ref a)) Q E s:=by
 rcases g with ⟨J1,k,e,Z,l⟩|⟨J1,k,b,e,Z,eb,l⟩
 .subst Z;have⟨z,W,vs,O,U⟩:=f8 I.hok e;refine wpAny_in_of (gY ry) W U.mapOf ?_;rw[<- (O.val k).isSome_eq,<- l];exact h _ (I.tok _)
 .subst Z;cases (show u=qc1 b from ry);have⟨z,W,xs,O,U⟩:=gZ I.hok e;refine wpAny_in_heap (qn9 hu) (fw I.hok eb) W U ?_;have q:=(O.val k).isSome_eq;rw[qx7]at q;rw[<- q,<- l];exact h _ (I.tok _)
theorem we (hu:A.units+1<cLine) (I:Inv X J0 σ H s) (g:DGet H a y o) (ry:RelV y u) (h:∀ s',Inv X J0 σ H s'->Q (.bool (!o.isSome)) s') :
  wpAny (model X.prog X.w) A (qf1 .NotIn u (.ref a)) Q E s:=by
 rcases g with ⟨J1,k,e,Z,l⟩|⟨J1,k,b,e,Z,eb,l⟩
 .subst Z;have⟨z,W,vs,O,U⟩:=f8 I.hok e;refine wpAny_notIn_of (gY ry) W U.mapOf ?_;rw[<- (O.val k).isSome_eq,<- l];exact h _ (I.tok _)
 .subst Z;cases (show u=qc1 b from ry);have⟨z,W,xs,O,U⟩:=gZ I.hok e;refine wpAny_notIn_heap (qn9 hu) (fw I.hok eb) W U ?_;have q:=(O.val k).isSome_eq;rw[qx7]at q;rw[<- q,<- l];exact h _ (I.tok _)
theorem gq {ob:HO} (I:Inv X J0 σ H s) (O:Mut (H a)) (hs:qg2 a s.heap h') (U:∃ q,h'.get? a=ς q) (new:ObjOk X.prog X.w (upd H a ob) h' a ob) :
  Inv X J0 σ (upd H a ob) {s with heap:=h',toks:=t'}:=
 I.write (x:=a) (e:=a) O (.inl rfl) (λb q hb z=>(hs.2 b hb).trans z) U new
theorem mR {w:J5} {J1:η (Key×V)} {vs:η (Key×Value)} (z:J1.length<=qa4) (W:(a==qk3)=ξ) (O:KV J1 vs) (U:h'.DictOf (aq P w) a vs) :
  ObjOk P w H' h' a (.dK J1):=⟨z,W,vs,O,U⟩
theorem p5 {Q:Unit->qa8->Prop} (hu:A.units+1<cLine) (I:Inv X J0 σ H s) (g:DPut H a y v H') (ry:RelV y u) (rv:RelV v r) (h:∀ s',Inv X J0 σ H' s'->Q () s') :
  wpAny (model X.prog X.w) A (setItem (.ref a) u r) Q E s:=by
 rcases g with ⟨J1,k,e,ey,l,eH⟩|⟨J1,k,b,e,ey,eb,l,eH⟩
 .subst ey eH;have⟨z,hd,vs,O,dd⟩:=yF I.hok e;have hz:vs.length<=qa4:=by rw[<- O.length];exact z
  have hl:(aA J1 k v).length<=qa4:=by have:=cT J1 k v;lia
  refine wpAny_setItem_pairs (hsz:=hz) (gY ry) dd λh' U Z=>h _ ?_
  have he:∃q,h'.get? a=ς q:=let ⟨q,_,_,W,_⟩:=U;⟨q,W⟩;exact gq I (by rw[e];exact ql1) Z he (mR hl hd (O.put k rv) U)
 .subst ey eH;cases (show u=qc1 b from ry);have⟨z,hd,xs,O,dd⟩:=CW I.hok e;have hz:xs.length<=qa4:=by rw[<- Paired.length O];exact z
  have hl:(aA J1 k v).length<=qa4:=by have:=cT J1 k v;lia
  refine wpAny_setItem_heap (hsz:=hz) (qn9 hu) (fw I.hok eb) dd λh' U Z=>h _ ?_
  have⟨q,es,ep,W,h2,h3,h4,_,h5⟩:=U;refine gq I (by rw[e];exact ql1) Z ⟨q,W⟩ ⟨hl,hd,_,(O.put k eb rv).keeps λc ys ec=>?_,q,es,ep,W,h2,h3,h4,h5⟩;rw[ai (vH ec e (λz=>nomatch z))];exact ec
end
section
variable{X:Cx}{J0:η (J4×Obj)}{σ:ae}{H:Hp}{s:qa8}{a:J4}{J1:η (Key×V)}{k:Key}{u:Value}{A:ql5}{E:Value->qa8->Prop}
theorem wf(I:Inv X J0 σ H s)(e:H a=ς (.dK J1))(h:∀s',Inv X J0 σ (upd H a (.dK [])) s'->Q .none s'):wpAny (model X.prog X.w) A (call (.builtin "dict.clear") [.ref a]) Q E s:=by have⟨z,Z,vs,U,W⟩:=yF I.hok e;refine zb9 PySem.F.slot_dict_clear W.typeIs PySem.F.entry_dict_clear (PySem.F.args_dict_clear_1 _) (meets_dict_clear (aq X.prog X.w) a) ⟨vs,W,by rw[<- U.length];exact z,λh' O hs=>h _ ?_⟩;have he:∃q,h'.get? a=ς q:=let ⟨q,_,_,hq,_⟩:=O;⟨q,hq⟩;exact gq (t':=s.toks) I (by rw[e];exact ql1) hs he (mR (qh2 _) Z .nil O)
end
variable{X:Cx}
def lm{s:qa8}{o:ζ V}(I:Inv X J0 σ H s)(g:DGet H a y o):s.TypeIs (.ref a) "dict":=by
 rcases g with ⟨J1,k,e,_,_⟩|⟨J1,k,b,e,_,_,_⟩
 .have⟨_,_,vs,_,O⟩:=f8 I.hok e;exact O.typeIs
 .have⟨_,_,xs,_,O⟩:=gZ I.hok e;exact O.typeIs
theorem r8{w:J5}(h:Heap)(hb:qk3<h.objs.size):ObjOk P w H (h.push {cls:=.type "dict",data:=.dict #[]}) h.objs.size (.dK []):=⟨qh2 _,beq_eq_false_iff_ne.mpr (qk7 (qc2 hb)),[],.nil,Heap.DictOf.new h⟩
theorem r9{w:J5}(h:Heap)(hb:qk3<h.objs.size):ObjOk P w H (h.push {cls:=.type "dict",data:=.dict #[]}) h.objs.size (.dT []):=⟨qh2 _,beq_eq_false_iff_ne.mpr (qk7 (qc2 hb)),[],.nil,_,#[],0,qb8 _ rfl,⟨rfl,rfl,rfl⟩,rfl,rfl,qw9⟩
def Aq:TE:=λ_ H Q=>∀p,H p=ψ->Q (.ref p) (upd H p (.dK []))
def Ar:TE:=λ_ H Q=>∀p,H p=ψ->Q (.ref p) (upd H p (.dT []))
section
variable{X:Cx}{pos:Pos}
theorem sd:PE X (.Dict [] [] pos) Aq:=λJ0 s σ H Q I h=>wpAny_Dict_empty ⟨.ref s.heap.objs.size,_,I.laid (a:=s.heap.objs.size) (o:=.dK []) (t':=s.toks) (λ_ _ q=>gP _ q) (nL _) (r8 s.heap I.big),rfl,h _ (I.hok.fresh (nL _))⟩
theorem se:PE X (.Dict [] [] pos) Ar:=λJ0 s σ H Q I h=>wpAny_Dict_empty ⟨.ref s.heap.objs.size,_,I.laid (a:=s.heap.objs.size) (o:=.dT []) (t':=s.toks) (λ_ _ q=>gP _ q) (nL _) (r9 s.heap I.big),rfl,h _ (I.hok.fresh (nL _))⟩
end
structure M2(X:Cx)(o:J8)(m:Str)(apos:Pos)(e f:J8)(cpos:Pos):Prop where
 base:qi8 o m X.env (eval o X.env)=eval o X.env
 few:((qh6 cpos (qb1 [e,f] X.env)).all (λx=>!x.1)&&(qo9 cpos (qi4 [] X.env)).all (λx=>x.1.isSome)
  && decide (([e,f]:List J8).length+([]:List qw8).length+(if([]:List qw8).isEmpty then 0 else 1)<30))=θ
 line:(apos.endLine==cpos.line)=θ
 trees:qh6 cpos (qb1 [e,f] X.env)=[(ξ,eval e X.env),(ξ,eval f X.env)]
def IsD(H:Hp)(a:J4):Prop:=(∃J1,Rd H a (.dK J1))\/∃J1,Rd H a (.dT J1)
def As {s:qa8} (I:Inv X J0 σ H s) (d:IsD H a) :
  s.TypeIs (.ref a) "dict"/\(∀b,qc1 a=.ref b->∃ob,s.heap.get? b=ς ob/\ob.dict=ψ)/\(a==qk3)=ξ:=by
 rcases d with ⟨J1,e⟩|⟨J1,e⟩
 .have⟨_,U,vs,_,O⟩:=f8 I.hok e;refine⟨O.typeIs,λb q=>?_,U⟩;cases q;have⟨ob,_,_,h1,h2,_⟩:=O;exact⟨ob,h1,h2.2.1⟩
 .have⟨_,U,xs,_,O⟩:=gZ I.hok e;refine⟨O.typeIs,λb q=>?_,U⟩;cases q;have⟨ob,_,_,h1,h2,_⟩:=O;exact⟨ob,h1,h2.2.1⟩
section
variable{X:Cx}{J0:η (J4×Obj)}{σ:ae}{H:Hp}{s:qa8}{a:J4}{y d:V}{u r:Value}{o:ζ V}{A:ql5}{E:Value->qa8->Prop}
theorem Au (hu:A.units+1<cLine) (I:Inv X J0 σ H s) (g:DGet H a y o) (ry:RelV y u) (rd:RelV d r) (h:∀ w' s',Inv X J0 σ H s'->RelV (o.getD d) w'->Q w' s') :
  wpAny (model X.prog X.w) A (call (.builtin "dict.get") [.ref a,u,r]) Q E s:=by
 rcases g with ⟨J1,k,e,Z,l⟩|⟨J1,k,b,e,Z,eb,l⟩
 .subst Z;have⟨z,W,vs,O,U⟩:=f8 I.hok e;refine zb9 PySem.F.slot_dict_get U.typeIs PySem.F.entry_dict_get (PySem.F.args_dict_get_3 _ _ _) (meets_dict_get_default (aq X.prog X.w) a (gY ry) W r) ⟨_,U.mapOf,h _ _ (I.tok _) ?_⟩;rw[l];exact(O.val k).getD rd
 .subst Z;cases (show u=qc1 b from ry);have⟨z,W,xs,O,U⟩:=gZ I.hok e;refine zb9 PySem.F.slot_dict_get U.typeIs PySem.F.entry_dict_get (PySem.F.args_dict_get_3 _ _ _) (meetsH_dict_get_default (za7 (aq X.prog X.w)) a b W r) ⟨qn9 hu,k,xs,fw I.hok eb,U,h _ _ (I.tok _) ?_⟩;rw[l];exact(O.val k).getD rd
end
def Av(td ty tx:TE):TE:=λσ H Q=>td σ H λx H1=>∃a,x=.ref a/\IsD H1 a/\ty σ H1 λy H2=>tx σ H2 λz O=>∃o,DGet O a y o/\Q (o.getD z) O
section
variable{X:Cx}{o e f:J8}{apos cpos:Pos}{td ty tx:TE}
theorem sf(hu:X.A.units+1<cLine)(ho:PE X o td)(he:PE X e ty)(hf:PE X f tx)(m:M2 X o "get" apos e f cpos):PE X (.Call (.Attribute o "get" apos) [e,f] [] cpos) (Av td ty tx):=by
 intro J0 s σ H Q I h;refine wpAny_Call_method m.base m.few m.line PySem.F.plainAttrs_dict PySem.F.slot_dict_get PySem.F.type_dict_get (thn (ho J0 s σ H _ I h) λu s1 O=>?_);have⟨x,H1,W,rx,a,ex,d,q1⟩:=O;subst ex;obtain rfl:u=qc1 a:=rx;have⟨t1,t2,_⟩:=As W d;refine⟨t1,t2,?_⟩;rw[m.trees]
 refine qs1 rfl (Calls.evalArgs_plain (qv7 (thn (he J0 s1 σ H1 _ W q1) λiv s2 ⟨y,H2,I2,ry,q2⟩=>qv7 (thn (hf J0 s2 σ H2 _ I2 q2) λfv s3 ⟨z,H3,Z,rz,ov,g,q3⟩=>Calls.spliced_nil ?_))))
 exact Au hu Z g ry rz λw' s4 I4 U=>⟨_,H3,I4,U,q3⟩
end
end L2
namespace Att
open PySem PySem.W PySem.Calls PyProof.Rows
variable{P:Params}
def gi{h:Heap}:∀(ns:η Int)(vs:η Value),WellAll P h vs (ns.map WData.int)->zf0 vs ns:=by
 intro ns;induction ns with
 |nil=>intro vs w;rw[qe3]at w;cases w;exact .nil
 |cons n ns O=>
  intro vs w;rw[qa2]at w;cases w with
  |cons a b=>cases a;exact .cons _ _ (O _ b)
variable{l:OpenLaw}{n:Nat}
def p6(hn:l.most=ς n){h:Heap}{args:η WData}{U:η Value}
 (O:l.row.toRowW.claim.pre args=θ) (hwl:WellAll P h U args) :
  ∃a vs ns,U=[qc1 a]/\args=[WData.list (ns.map WData.int)]/\h.get? a=ς {cls:=.type "list",data:=.seq vs.toArray}/\zf0 vs ns/\ns.length<=n:=by
 have hsh:WShape.hasAll [] args [.list .int]=θ:=(pre_splitW O).1;have hc:l.pre.holds [] {args:=args}=θ:=(pre_splitW O).2;have⟨d,r,rfl,h1,h2⟩:=hasAllW_cons hsh;obtain rfl:=hasAllW_nil h2;have⟨xs,rfl,h3⟩:=hasW_list h1;have⟨ns,rfl⟩:=items_int h3
 have Z:ns.length<=n:=by
  unfold OpenLaw.pre at hc
  have h4:(WTm.not (.lt (.lit (.int (n:Int))) (.len (.arg 0)))).holds [] {args:=[.list (ns.map .int)]}=θ:=by have h4:=(holds_andW hc).1;rw[hn]at h4;exact h4
  have h5:=condW_of h4 (w_not (w_lt w_lit (w_len_list (w_arg rfl))));rw[qa3]at h5;refine Nat.le_of_not_lt λq=>?_
  have q':(n:Int)<((ns.length:Nat):Int):=by lia
  first
   |(rw[decide_eq_true q']at h5;exact absurd h5 Ω)
   |(simp at h5;lia)
 cases hwl with
 |cons w1 w2=>
  cases w2;cases w1 with
  |list ho W=>exact⟨_,_,ns,rfl,rfl,ho,gi ns _ W,Z⟩
def p7(l:OpenLaw)(args:η WData):l.row.toRowW.claim.post args (.bool θ) args=θ:=
 postW_of (r:=l.row.toRowW) (X:=(θ==θ))
  (show WShape.has [] (.bool θ) .bool=θ by first|rfl|decide|simp[WShape.has,WShape.arms,WShape.armsAll])
  (show(WTm.eq .res (.lit (.bool θ))).value [] {args:=args,res:=ς (.bool θ),after:=args}=ς (.bool (θ==θ))from w_eq_bool (w_res rfl) w_lit) rfl
def yG{q:qe7}{W:η Str}{XP:(Str->ζ Value)->Heap->Prop}{YP:J5->Heap->Prop}{d:DefRec}
 (hn:l.most=ς n) (hdf:d.params.defaults=[])
 (call:∀(w:J5)(U O:qa8)(mg mb:Str->ζ Value)(fa:J4)(o:Obj)(pm cd doc:Value)(a:J4)(vs:η Value)(ns:η Int),
 Ground q W [] XP w U mg mb O.heap->YP w O.heap→
 O.heap.get? fa=ς o->o.data=.func (docDef d.name d.params d.body d.scope pm cd doc)->O.heap.CodeRec cd d.name->mg d.name=ς (.ref fa)→
 O.heap.get? a=ς {cls:=.type "list",data:=.seq vs.toArray}->zf0 vs ns->ns.length<=n->O.gens=#[]→
 qu7 (model l.prog w) zd5 (.call (.ref fa) ⟨[.ref a],[]⟩) (λr s'=>r=.ok (.ret (.bool θ))/\OldK O.heap s'.heap/\s'.os=O.os/\za9 s'.gens) O) :
  WalkO q W XP YP l.row.toRowW d [] (λf vs=>PySem.call f vs):=by
 intro w U O mg mb G Y fa o pm cd doc dV kV ho hd hcd hD hmg hg args vals as hpre hlay hrd hwl hlo;obtain rfl:dV=.none:=Dflts.none hD hdf;obtain rfl:kV=.none:=Dflts.noKw hD;have⟨a,vs,ns,rfl,rfl,hobj,Z,hlen⟩:=p6 hn hpre hwl;refine enter_call (zb3 (call w U O mg mb fa o pm cd doc a vs ns G Y ho (fd_plain hd) hcd hmg hobj Z hlen hg) λr s' hq=>?_);have⟨rfl,h2,h3,h4⟩:=hq;exact⟨.inl ⟨.bool θ,.bool θ,[],rfl,λ_=>rfl,.bool θ,p7 l _,λ_=>⟨qx8,λ_ hm=>(nomatch hm)⟩⟩,h2,h3,h4⟩
end Att
namespace L2
open PySem PySem.Spec PyProof.Rows
theorem je:∀{vs:η Value}{ns:η Int},zf0 vs ns->Vals (ns.map V.int) vs
 |_,_,.nil=>.nil
 |_,_,.cons n t h=>.cons ⟨t,rfl⟩ (je h)
def mT(H:Hp):Prop:=∀b,H b=ψ\/∃o xs,H b=ς (.frz o (.e xs))
variable{x:Str}
omit x in
def si{P:qe7}{w:J5}{K:xA9}{mg mb:Str->ζ Value}{CX:CXT}{k:Nat}{fa a:J4}{fd:qn1}{sp:Sp}{s₁:qa8}{vs:η Value}{ns:η Int}
 (KX:K.In s₁.heap) (hns:s₁.heap.Ns qe8 mg) (hb:s₁.heap.Ns ze9 mb) (hbb:∀x:Str,x≠"__name__"->mb x=qf6 x) (hlim:s₁.heap.NoLimit) (hg:s₁.gens=#[]) (hT0:lc K=[])
 (ha:s₁.heap.get? a=ς {cls:=.type "list",data:=.seq vs.toArray}) (hi:zf0 vs ns) (hl:ns.length<=qa4) (hr:Room k zd5)
 (F:∀base:Heap,K.In base->base.Ns qe8 mg->FnOk P w K mg base CX k fa fd [x] sp) (hbind:∀(s:qa8)(u:Value),zg3 s fd ⟨[u],[]⟩ [(x,u)])
 (hsp:∀H:Hp,mT H->SqL K H a (ns.map V.int)->sp [.ref a] H (λv _=>v=.bl θ) λ_ _ _=>False)
 (hCX:∀H e s',CX [] H s₁ (λ_ _ _=>False) e s'->False) :
  qu7 (model P w) zd5 (.call (.ref fa) ⟨[.ref a],[]⟩) (λr s'=>r=.ok (.ret (.bool θ))/\OldK s₁.heap s'.heap/\s'.os=s₁.os/\za9 s'.gens) s₁:=by
 have rv:=je hi;have lenV:=hi.length
 -- from an abstract heap in which nothing but the script may be tracked
 have U:∀ H:Hp,mT H->SqL K H a (ns.map V.int)->HOk P w H s₁.heap->(∀ b,H b≠ψ->b=a)->(H a≠ψ->K.lookup a=ψ)→
     qu7 (model P w) zd5 (.call (.ref fa) ⟨[.ref a],[]⟩) (λr s'=>r=.ok (.ret (.bool θ))/\OldK s₁.heap s'.heap/\s'.os=s₁.os/\za9 s'.gens) s₁:=by
  intro H hO hS hok hA hK;have base_of:∀{b:J4}{o:Obj},s₁.heap.get? b=ς o->H b=ψ->(jL s₁.heap H).get? b=ς o:=λe n=>qS e n
  have noA:∀{b:J4}{o:Obj}{es:Array DictEntry}{ep:Nat},s₁.heap.get? b=ς o->o.data=.dict es ep->H b=ψ:=λ{b o es ep} e d=>by
   cases q:H b with
   |none=>rfl
   |some u=>
    have e':b=a:=hA b (by rw[q];simp);subst e';rw[ha]at e;cases e
    have d':Data.seq vs.toArray _=Data.dict es ep:=d;cases d'
  have O:∀{b:J4}{m:Str->ζ Value},s₁.heap.Ns b m->(jL s₁.heap H).Ns b m:=λ{b m} Z=>by have⟨o,es,ep,e,d,r⟩:=Z;exact⟨o,es,ep,base_of e (noA e d),d,r⟩
  have hKb:K.In (jL s₁.heap H):=λb o e=>base_of (KX b o e) (by
   cases q:H b with
   |none=>rfl
   |some u=>have e':b=a:=hA b (by rw[q];simp);subst e';rw[hK (by rw[q];simp)]at e;cases e)
  have hM:Mod K mg (jL s₁.heap H):=⟨hKb,O hns,⟨mb,O hb,hbb⟩,let ⟨mc,h1,h2⟩:=hlim;⟨mc,O h1,h2⟩⟩;have e0:Env0 P w K mg (jL s₁.heap H) zd5 [] s₁ H:=⟨rfl,hM,λb o e=>vI e,Nat.le_of_eq (pM _ _),trivial,λb hb=>absurd (show b∈([]:η J4)from hb) Ξ,hok,.of_eq hg,λp hp=>by rw[hT0]at hp;cases hp⟩;refine zb3 ((F _ hKb (O hns)).run zd5 [] s₁ H ⟨[.ref a],[]⟩ [.ref a] [.ref a] _ _ hr e0 (hbind s₁ (.ref a)) (.cons rfl .nil) (hsp H hO hS)) λr s' h=>?_
  cases r with
  |error e=>exact(hCX H e s' h).elim
  |ok fl=>
   cases fl with
   |next=>exact qk4 h
   |brk=>exact qk4 h
   |cont=>exact qk4 h
   |ret u=>
    have⟨v,H',os,bare,un,hok',r',q⟩:=h;have q':v=.bl θ:=q;subst q';obtain rfl:u=qs3 θ:=r';refine⟨rfl,OldK.of_keep λb o e=>?_,os,bare⟩;cases q:H b with
    |none=>exact un.keep b o e q (by intro z;exact absurd (show b∈([]:η J4)from z) Ξ) Ξ
    |some u=>
     rcases hO b with z|⟨ob,xs,z⟩
     .rw[q]at z;cases z
     .have z2:=un.frzs b ob _ z;have⟨e1,_⟩:=hok b _ z;have⟨e2,_⟩:=hok' b _ z2;rw[e]at e1;cases e1
      exact e2
 cases hk:K.lookup a with
 |some o=>
  -- the script is one of the module's own objects
  have e:=KX a o hk;rw[ha]at e;cases e;refine U (λ_=>ψ) (λ_=>.inl rfl) (.inr ⟨_,vs.toArray,_,hk,rfl,rfl,rfl,by rw[qb4,lenV];exact hl,‹rv›⟩) (λb u z=>by have z':(ψ:ζ HO)=ς u:=z;cases z') (λb z=>absurd rfl z) λz=>absurd rfl z
 |none=>
  refine U (λb=>if b=a then ς (.frz {cls:=.type "list",data:=.seq vs.toArray} (.e (ns.map V.int)))else ψ) (λb=>?_) (.inl (.inr ⟨{cls:=.type "list",data:=.seq vs.toArray},if_pos rfl⟩)) (λb u z=>?_) (λb z=>?_) λ_=>hk
  .by_cases hb:b=a
   .exact .inr ⟨_,_,if_pos hb⟩
   .exact .inl (if_neg hb)
  .by_cases hb:b=a
   .have z':=(if_pos hb).symm.trans z;cases z';subst hb;exact⟨ha,by rw[qa3];exact hl,vs,_,rv,ha⟩
   .have z':=(if_neg hb).symm.trans z;cases z'
  .by_cases hb:b=a
   .exact hb
   .exact absurd (if_neg hb) z
theorem EG{l:PySem.W.OpenLaw}{n k:Nat}{q:qe7}{U:η Str}{XP:(Str->ζ Value)->Heap->Prop}{YP:J5->Heap->Prop}{d:DefRec}{K:Params->xA9}{CX:J5->CXT}{sp:J5->Sp} 
 (hn:l.most=ς n) (hn2:n<=qa4) (hdf:d.params.defaults=[]) (hr:Room k zd5)
 (hY:∀(w:J5)(h:Heap),YP w h->(K w.params).In h) (hT0:∀w:J5,lc (K w.params)=[])
 (F:∀(w:J5)(mg:Str->ζ Value)(fa:J4)(h:Heap),(K w.params).In h->h.Ns qe8 mg->mg d.name=ς (.ref fa)→
 ∃fd:qn1,(∀(s:qa8)(u:Value),zg3 s fd ⟨[u],[]⟩ [(x,u)])∧
 ∀base:Heap,(K w.params).In base->base.Ns qe8 mg->FnOk l.prog w (K w.params) mg base (CX w) k fa fd [x] (sp w))
 (hsp:∀(w:J5)(H:Hp)(a:J4)(ns:η Int),ns.length<=n->mT H->SqL (K w.params) H a (ns.map V.int)->sp w [.ref a] H (λv _=>v=.bl θ) λ_ _ _=>False)
 (hCX:∀(w:J5)(H:Hp)(s:qa8)(e:Value)(s':qa8),CX w [] H s (λ_ _ _=>False) e s'->False) :
  PySem.W.WalkO q U XP YP l.row.toRowW d [] (λf vs=>PySem.call f vs):=by
 refine Att.yG hn hdf λw s₀ s₁ mg mb fa o pm cd doc a vs ns G Y ho hd hcd hmg hobj Z O hg=>?_
 have KX:=hY w _ Y;have⟨fd,hb,hF⟩:=F w mg fa _ KX G.T.g hmg;exact si KX G.T.g G.T.b G.T.builtins G.T.nolimit hg (hT0 w) hobj Z (qd2 O hn2) hr hF hb (λH hO hS=>hsp w H a ns O hO hS) λH e s'=>hCX w H s₁ e s'
end L2
namespace L2
open PySem PySem.Spec PyProof.Rows
abbrev CX0:CXT:=λ_ _ _ _ _ _=>False
abbrev E0:XK:=λ_ _ _=>False
variable{X:Cx}
def g9:cr CX0 X E0:=λ_ _ _ _ _ _ _ h=>h.elim
variable{A:ql5}
def lp{k:Nat}(O:Room k A):A.units+1<cLine:=qe4 (Nat.add_le_add_left (by decide:1<=64) _) O.units
def Same(H H':Hp):Prop:=∀b o,H b=ς o->H' b=ς o
def Same.refl(H:Hp):Same H H:=λ_ _ h=>h
variable{H:Hp}
def Same.trans{H1 H2:Hp}(a:Same H H1)(b:Same H1 H2):Same H H2:=λc o h=>b c o (a c o h)
variable{H':Hp}
def Same.free(e:Same H H'){l:J4}(h:H' l=Option.none):H l=Option.none:=by
 cases q:H l with
 |none=>rfl
 |some o=>rw[e l o q]at h;cases h
variable{K:xA9}{a:J4}{xs:η V}
def Same.seq(e:Same H H')(h:SqL K H a xs):SqL K H' a xs:=by
 rcases h with (h|⟨o,h⟩)|h
 .exact .inl (.inl (e _ _ h))
 .exact .inl (.inr ⟨o,e _ _ h⟩)
 .exact .inr h
section
variable{κ:Type}[DecidableEq κ]
def wg{J1:η (κ×V)}{k:κ}{v:V}(h:bH J1 k=ς v):k∈J1.map (·.1):=by
 have q:(J1.any λkv=>decide (kv.1=k))=θ:=by
  rw[er,h]
  all_goals rfl
 have⟨p,hp,e⟩:=List.any_eq_true.mp q;exact qc8.mpr ⟨p,hp,of_decide_eq_true e⟩
end
noncomputable def mU(names:η (Str×qv8))(cells:η (Str×J4)):η (Str×J4):=names.foldl (λcs O=>if O.2==qg8 then(O.1,(cells.lookup O.1).getD 0)::cs else cs) []
variable{cells:η (Str×J4)}{env:Env}
theorem oj (hc:env.cells=cells):∀ (names:η (Str×qv8)) (O:η (Str×J4)),(∀ x∈names,x.2=.free->∃ c,cells.lookup x.1=ς c)→
  (forIn names O (λ(x:Str×qv8)(r:η (Str×J4))=>if(x.2==qg8)=θ then(do let c <- cellOf env x.1;pure (qo4 ((x.1,c)::r)))else(pure (qo4 r):Sem _)))
   = (pure (names.foldl (λcs Z=>if Z.2==qg8 then(Z.1,(cells.lookup Z.1).getD 0)::cs else cs) O):Sem (η (Str×J4)))
 |[],O,_=>rfl
 |x::r,O,h=>by
  have ih:=λO=>oj hc r O λy hy=>h y (qe6 _ hy)
  rwa[List.forIn_cons,qr7];cases e:(x.2==qg8)with
  |false=>rwa[qg3,if_false];exact ih O
  |true=>
   have⟨c,W⟩:=h x qj3 ‹e›;have U:cellOf env x.1=pure c:=by unfold cellOf;rw[hc,W]
   rwa[if_true,U,W,qz7];exact ih _
variable{scope:J9}
theorem mV{env:Env}(h:∀x∈scope.names,x.2=.free->∃c,env.cells.lookup x.1=ς c):closureFor scope env=pure (mU scope.names env.cells):=by have:=oj (env:=env) rfl scope.names [] h;unfold closureFor mU;rw[<- this];rwa[bind_pure]
omit x in
theorem jf:∀ {names:η (Str×qv8)} {O:η (Str×J4)} {x:Str} {c:J4},(∀ y∈names,y.2=.free->∃ c,cells.lookup y.1=ς c)→
  (names.foldl (λcs W=>if W.2==qg8 then(W.1,(cells.lookup W.1).getD 0)::cs else cs) O).lookup x=ς c->(∀c,O.lookup x=ς c->cells.lookup x=ς c)->cells.lookup x=ς c
 |[],O,x,c,_,h,U=>U c h
 |y::r,O,x,c,hy,h,U=>by
  rwa[qr7]at h;refine jf (λz hz=>hy z (qe6 _ hz)) h ?_;intro c' h';split at h'
  .rename_i hf;have⟨c0,e0⟩:=hy y qj3 ‹hf›;rw[qj7]at h';split at h'
   .rename_i hx;have Z:x=y.1:=‹hx›
    rw[e0]at h';subst Z;rw[e0];simpa using h'
   .exact U c' h'
  .exact U c' h'
variable{names:η (Str×qv8)}{x:Str}
theorem f9{c:J4}(O:∀y∈names,y.2=.free->∃c,cells.lookup y.1=ς c)(h:(mU names cells).lookup x=ς c):cells.lookup x=ς c:=jf O h λc h=>by simp at h
theorem jg:∀ {names:η (Str×qv8)} {O:η (Str×J4)} {x:Str},((x,qg8)∈names\/(O.lookup x).isSome)→
  ((names.foldl (λcs U=>if U.2==qg8 then(U.1,(cells.lookup U.1).getD 0)::cs else cs) O).lookup x).isSome
 |[],O,x,h=>‹h›
 |y::r,O,x,h=>by
  rwa[qr7];refine jg ?_;rcases h with h|h
  .rcases qc4.mp h with e|h
   .subst e;right;simp[qj7]
   .exact .inl h
  .right;split
   .rw[qj7];split
    .rfl
    .exact h
   .exact h
def lq(h:(x,qg8)∈names):∃c,(mU names cells).lookup x=ς c:=qe9.mp (jg (.inl h))
structure CmpScope(N:List Str)(outer scope:J9)(M:List Str)(src:List (Option Nat)):Prop where
 kind:scope.kind=.function
 nocell:∀y∈scope.names,y.2≠.cell
 free:∀y∈scope.names,y.2=.free->outer.names.lookup y.1=ς .cell\/outer.names.lookup y.1=ς .free
 names:∀y∈scope.names,y.2=.local->scope.names.lookup y.1=ς .local
 lf:∀y∈scope.names,y.2=.free->scope.names.lookup y.1=ς .free
 len:M.length=src.length
 nd:M.Nodup
 src:∀p∈M.zip src,∀j∈p.2,N[j]?=ς p.1/\(p.1,qg8)∈scope.names
noncomputable def aK(src:η (ζ Nat))(σ:ae):ae:=src.map λo=>o.bind λj=>(σ[j]?).join
def cxC(X:Cx)(M:η Str)(scope:J9)(C:J4)(s:qa8)(H:Hp)(ex:η J4):Cx:={X with N:=M,s₀:=s,H₀:=H,env:=compEnvC scope (mU scope.names X.env.cells) C X.env,outer:=X.stack,ex:=ex,fn:=λ_=>ξ,pn:=[],xe:=λ_ _=>False}
def PTs(X:Cx)(ifs:η J8)(t:TT):Prop:=
 ∀(J0:η (J4×Obj))(s:qa8)(σ:ae)(H:Hp)(Q:Bool->Hp->Prop),Inv X J0 σ H s->t σ H Q→
  wpAny (model X.prog X.w) X.A (forIn ifs θ λc r=>if r=θ then do let ok <- isTrue c X.env (eval c X.env);pure (qo4 ok)else pure (qo4 r)) (TP X J0 σ Q) X.xe s
def tYes:TT:=λ_ H Q=>Q θ H
def wj:PTs X [] tYes:=λJ0 s σ H Q I h=>wpAny_tests_nil ⟨H,I,h⟩
def wl{c:J8}{t:TT}(h:PT X c t):PTs X [c] t:=λJ0 s σ H Q I O=>wpAny_tests_one (h J0 s σ H Q I O)
def Wk(a b:ae):Prop:=a.length=b.length/\∀(i:Nat) v,a[i]?=ς (ς v)->b[i]?=ς (ς v)
def jh(src:η (ζ Nat))(wi:TI)(g:TG)(tt:TT)(te:TE):TE:=λσ H Q=>wi σ H λJ H1=>∀D,H1 D=ψ->∃W:Nat->Nat->Hp->Prop,(∃m,W 0 m (upd H1 D (.e [])))/\∀i m H,W i m H→
 (J.stop i H/\Q (.ref D) H)\/(J.go i H/\∃N:Hp->Prop,(∀H',N H'->∃Z,Z<m/\W (i+1) Z H')/\∀x H',J.yld i H x H'→
  g x (aK src σ) H' λO H2=>Wk (aK src σ) O/\tt O H2 λb H3=>if b=θ then te O H3 λv U=>∃ys,U D=ς (.e ys)/\ys.length<qa4/\N (upd U D (.e (ys++[v])))else N H3)
variable{pos:Pos}
omit x in
def mW{prog:qe7}{w:J5}{R:Result->qa8->Prop}{s:qa8}{elt O iter:J8}{ifs:η J8}{it acc:Value}(I:Nat->qa8->Prop)
 (turn:∀n s,I n s->wpAny (model prog w) A (qz5 it) (λr W=>match r with
 |none=>R (.ok .next) W
 |some v=>wpAny (model prog w) A (qu5 O it v) (λ_ U=>wpAny (model prog w) A (qz4 O env v) (λ_ Z=>
 wpAny (model prog w) A (forIn ifs θ λc r=>if r=θ then do let ok <- isTrue c env (eval c env);pure (qo4 ok)else pure (qo4 r)) (λok s₃ =>
 if ok=θ then wpAny (model prog w) A (eval elt env) (λx s₄ =>
 wpAny (model prog w) A (call (.builtin "list.append") [acc,x]) (λ_ s₅=>∃m,m<n/\I m s₅) (λ_ _=>False) s₄) (notedBy (model prog w) A env λe s'=>R (.error e) s') s₃
 else ∃m,m<n/\I m s₃) (λ_ _=>False) Z) (λ_ _=>False) U) (λ_ _=>False) W) (λ_ _=>False) s)
 (n:Nat) (h:I n s) :
  qu7 (model prog w) A (.compLoop (.ListComp elt [⟨O,iter,ifs,0⟩] scope pos) 0 it acc env) R s:=by
 refine codeAny_loop rfl I (λn s hI=>?_) n h;show wpAny _ A ((compTurn (.ListComp elt [⟨O,iter,ifs,0⟩] scope pos) 0 it acc env).onRaise (λx=>do noteFrame x env;theTreesLotGoes x)) _ _ s;refine wpAny_noted ?_;rw[compTurn_list];refine wB (zd9 (wB (qn5 (turn n s hI) (λr W h₁=>?_) λ_ _ h'=>h'.elim)));cases r with
 |none=>exact qa7 h₁
 |some v=>
  refine wB (qn5 h₁ (λ_ U h₁'=>?_) λ_ _ h'=>h'.elim);refine wB (qn5 h₁' (λ_ Z h₂=>wB (qn5 h₂ (λok s₃ h₃=>?_) λ_ _ h'=>h'.elim)) λ_ _ h'=>h'.elim);cases ok with
  |false=>exact qa7 ⟨rfl,h₃⟩
  |true=>exact wB (wB (qn5 h₃ (λx s₄ h₄=>wB (qn5 h₄ (λ_ s₅ h₅=>qa7 (qa7 ⟨rfl,h₅⟩)) λ_ _ h'=>h'.elim)) λ_ _ h'=>h'))
variable{J0:η (J4×Obj)}{σ:ae}{Q:VK}{cpos:Pos}{QQ:Value->qa8->Prop}{use:ζ (Value->Sem Unit)}
section
variable{X:Cx}{elt tg iter:J8}{ifs:η J8}{scope:J9}{pos:Pos}{M:η Str}{src:η (ζ Nat)}{wi:TI}{g:TG}{tt:TT}{te:TE}
omit x in
theorem jU(hn:∀y∈scope.names,y.2≠.cell)(h:(relabel scope env).names.lookup x=ς .cell\/(relabel scope env).names.lookup x=ς .free):(x,qg8)∈scope.names:=by
 have O:∀k,(relabel scope env).names.lookup x=ς k->(k=.cell\/k=.free)->(x,qg8)∈scope.names:=by
  intro k hk W;have Z:=PySem.mem_of_lookup hk;unfold relabel at Z;have⟨⟨n,k0⟩,U,e⟩:=qc8.mp Z;dsimp only at e;split at e
  .rename_i hc;rwa[qa1]at hc;have:k0=.free:=‹hc.1.1›
   subst this;cases e;exact U
  .cases e;rcases W with z|z
   .subst z;exact absurd rfl (hn _ U)
   .subst z;exact U
 rcases h with h|h
 .exact O _ h (.inl rfl)
 .exact O _ h (.inr rfl)
theorem sj{s s1:qa8}{fp:η J4}{m1:Str->ζ Value}(S:CmpScope X.N X.env.scope scope M src)(I:Inv X J0 σ H s)(hf:∀b∈fp,dO X J0 H b)
 (hfl:∀b∈fp,b<s.heap.objs.size) (hn:s1.heap.Ns s.heap.objs.size m1) (hk:∀b o,s.heap.get? b=ς o->s1.heap.get? b=ς o) (hos:s1.os=s.os) (hg:s1.gens=s.gens) :
  Inv (cxC X M scope s.heap.objs.size s H fp) [] (aK src σ) H s1:=by
 have hcells:∀x∈scope.names,x.2=.free->∃c,X.env.cells.lookup x.1=ς c:=λx hx U=>I.ok.has x.1 (S.free x hx U)
 have O:∀x c,(mU scope.names X.env.cells).lookup x=ς c->X.env.cells.lookup x=ς c:=λx c h=>f9 hcells h
 have Z:∀c v,s.heap.IsCell c v->s1.heap.IsCell c v:=λc v hq1=>by have⟨o,ho,hd⟩:=hq1;exact⟨o,hk c o ho,hd⟩
 refine⟨⟨I.ok.mod,S.kind,I.ok.glob,I.ok.blt,nL _,λy z c h1 h2=>I.ok.inj y z c (O _ _ h1) (O _ _ h2),λx hx=>lq (jU S.nocell hx),λx c h=>(nomatch h),I.ok.hd,I.ok.frames,.inl rfl,
  λb hb=>⟨qc2 (hfl b hb),λx c h=>(hf b hb).2.2.2.2.1 x c (O _ _ h)⟩,I.bs,qd2 I.ok.bsz I.sz,λb o e hb=>?_,λb hb z=>?_,I.stack,I.stkFree,λp hp=>I.base.cts _ _ (I.ok.tb p hp)⟩,
  hos,(by rw[hg];exact I.bare),Un.kept hk,⟨m1,hn,λi x v h1 h2 h3=>?_⟩,λx c h=>?_,I.hok.fresh (qu4 _),λx c h=>I.freeC x c (O _ _ h),λp hp=>absurd hp (by simp[cxC]),I.hok.kept hk,?_⟩
 .rcases(hf b hb).2.2.2.1 with z|z
  .exact I.ok.noex b o e z
  .exact absurd (qc6 (qb3 e) (qd2 I.ok.bsz z)) (qm9 _)
 .rcases qc4.mp (I.stkSub b z)with q|q
  .exact(hf b hb).2.1 q
  .exact(hf b hb).2.2.1 q
 . -- a name taken over
   have h1:M[i]?=ς x:=h1;unfold aK at h2;rw[qa6]at h2;cases hs:src[i]? with
   |none=>rw[hs]at h2;cases h2
   |some o=>
    rw[hs]at h2;rwa[qb0,qx9]at h2;cases o with
    |none=>cases h2
    |some j=>
     rwa[qa0]at h2
     have hmem:(x,ς j)∈M.zip src:=by
      have:(M.zip src)[i]?=ς (x,ς j):=by rw[qx0];exact⟨h1,hs⟩
      exact qa5 this
     have⟨hN,U⟩:=S.src _ hmem j rfl
     have hσ:σ[j]?=ς (ς v):=by
      cases e:σ[j]? with
      |none=>rw[e]at h2;cases h2
      |some o=>rw[e]at h2;rwa[qp9]at h2;rw[h2]
     have W:=S.free _ U rfl;have⟨m,hm,hl⟩:=I.loc;have⟨u,r,l⟩:=hl j x v hN hσ (.inr W);refine⟨u,r,?_⟩
     have hloc:X.env.kindOf x≠ς .local:=by show X.env.scope.names.lookup x≠_;rcases W with q|q<;>rw[q]<;>decide
     rcases l with l|⟨_,c,e,z⟩
     .exact absurd l.1 hloc
     .have⟨c',e'⟩:=lq (cells:=X.env.cells) U;have:=O _ _ e';rw[e]at this;cases this;refine .inr ⟨?_,c,e',Z _ _ z⟩;rcases h3 with q|q
      .exact absurd q (by
        -- a name that is free in the block is not local there
        exact(by
         intro q
         have:scope.names.lookup x=ς .local:=by
          have hb:∀(names:η (Str×qv8)),(names.map λ(n,k)=>if(k==qg8&&X.env.scope.kind==.function&&X.env.kindOf n==ς .cell)then(n,qv8.cell)else(n,k)).lookup x=ς .local->names.lookup x=ς .local:=by
           intro names;induction names with
           |nil=>intro h;simp at h
           |cons y r ih=>
            have⟨n,k⟩:=y;intro h;rwa[qa2]at h;by_cases hx:x=n
            .subst hx;split at h
             .simp[qj7]at h
             .simpa[qj7] using h
            .have hx':(x==n)=ξ:=‹hx›
             split at h
             .rwa[qj7,hx']at h ⊢;exact ih h
             .rwa[qj7,hx']at h ⊢;exact ih h
          exact hb _ q
         rw[S.lf _ U rfl]at this;cases this))
      .exact q
 .have⟨v,z⟩:=I.cell x c (O _ _ h);exact⟨v,Z _ _ z⟩
 .show(aK src σ).length=M.length;unfold aK;rw[qa3,S.len]
omit x in
theorem p8{s:qa8}{use:ζ (Value->Sem Unit)}(S:CmpScope X.N X.env.scope scope M src)(hc:X.calm=θ)(hi:PI X tg iter wi)(hg:M.Nodup->∀C s H ex,PG (cxC X M scope C s H ex) tg g)(ht:∀C s H ex,PTs (cxC X M scope C s H ex) ifs tt)
 (he:∀(s3:qa8)(H3:Hp)(fp:η J4)(acc:Value)(pl:η (J4×Obj))(Z:ae)(H9:Hp)(s9:qa8)(Q':VK),Inv X J0 σ H3 s3->(∀b∈fp,dO X J0 H3 b)->Inv (cxC X M scope s3.heap.objs.size s3 H3 fp) pl Z H9 s9->te Z H9 Q'→
 wpAny (model X.prog X.w) X.A (eval elt (cxC X M scope s3.heap.objs.size s3 H3 fp).env) (EP (cxC X M scope s3.heap.objs.size s3 H3 fp) pl Z Q') (notedBy (model X.prog X.w) X.A (cxC X M scope s3.heap.objs.size s3 H3 fp).env (λe s'=>ze5 (model X.prog X.w) X.A X.xe use QQ acc s3.heap.objs.size (.error e) s')) s9) (hs:∀x,qh3 iter X.env x=pure x) (I:Inv X J0 σ H s) (h:jh src wi g tt te σ H Q)
 (hfin:∀(D C:J4)(H':Hp)(s':qa8)(m:Str->ζ Value),Inv X J0 σ H' s'->dO X J0 H' C->s'.heap.Ns C m->Q (.ref D) H'->ze5 (model X.prog X.w) X.A X.xe use QQ (.ref D) C (.ok .next) s') :
  wpAny (model X.prog X.w) X.A (ze6 (.ListComp elt [⟨tg,iter,ifs,0⟩] scope pos) scope X.env cpos (newList []) ξ (eval iter X.env) use) QQ X.xe s:=by
 have hcells:∀x∈scope.names,x.2=.free->∃c,X.env.cells.lookup x.1=ς c:=λx hx hfr=>I.ok.has x.1 (S.free x hx hfr)
 refine wpAny_comprehension_free (use:=use) rfl hs (mV hcells) S.kind S.names (thn (hi J0 s σ H _ I h) λv s1 h1=>thn h1 λitv s2 h2=>?_);have⟨it,fp,tn,J,H2,rfl,I2,T,st2,f2,hq⟩:=h2;refine qf4 ?_;have I3:Inv X J0 σ (upd H2 s2.heap.objs.size (.e [])) {s2 with heap:=s2.heap.push {cls:=.type "list",dict:=ψ,data:=.seq ([]:η Value).toArray},toks:=s2.toks}:=I2.lnew (J3:=[]) (ys:=[]) (t':=s2.toks) .nil Ξ;have hD:H2 s2.heap.objs.size=ψ:=I2.fresh;have⟨W,⟨m0,w0⟩,turn⟩:=hq _ hD;generalize hDn:s2.heap.objs.size=D at*
 generalize hs3:({s2 with heap:=s2.heap.push {cls:=.type "list",dict:=ψ,data:=.seq ([]:η Value).toArray},toks:=s2.toks}:qa8)=s3 at*
 have f3:∀b∈fp,dO X J0 (upd H2 D (.e [])) b:=λb hb=>⟨by have⟨o,e,_⟩:=T.obj _ _ st2 b hb;rw[ai (by rw[<- hDn];exact qc2 (qb3 e))];exact(f2 b hb).1,(f2 b hb).2⟩
 have k23:∀b o,s2.heap.get? b=ς o->s3.heap.get? b=ς o:=λb o e=>by rw[<- hs3];exact gP _ e
 have st3:tn 0 s3.heap:=T.keep _ _ _ st2 λb _ o e=>k23 b o e
 have fl3:∀b∈fp,b<s3.heap.objs.size:=λb hb=>by have⟨o,e,_⟩:=T.obj _ _ st3 b hb;exact qb3 e
 refine wpAny_newFunctionEnv S.nocell (by intro y hy;simp at hy) (λh₁ hns₁ hsb₁=>?_) S.kind;have k34:∀b o,s3.heap.get? b=ς o->h₁.get? b=ς o:=λb o e=>hsb₁.extBut b o (qc2 (qb3 e)) (gP _ e)
 generalize hs4:({s3 with heap:=h₁,toks:=s3.toks+([]:η (Str×Value)).length}:qa8)=s4
 have I4:Inv (cxC X M scope s3.heap.objs.size s3 (upd H2 D (.e [])) fp) [] (aK src σ) (upd H2 D (.e [])) s4:=by rw[<- hs4];exact sj S I3 f3 fl3 hns₁ k34 rfl rfl
 have st4:tn 0 s4.heap:=T.keep _ _ _ st3 λb _ o e=>by rw[<- hs4];exact k34 b o e
 generalize O:cxC X M scope s3.heap.objs.size s3 (upd H2 D (.e [])) fp=U at*
 have hg':PG U tg g:=by rw[<- O];exact hg S.nd _ _ _ _
 have ht':PTs U ifs tt:=by rw[<- O];exact ht _ _ _ _
 have eP:U.prog=X.prog:=by rw[<- O];rfl
 have eW:U.w=X.w:=by rw[<- O];rfl
 have eK:U.K=X.K:=by rw[<- O];rfl
 have eA:U.A=X.A:=by rw[<- O];rfl
 have ex':U.xe=λ_ _=>False:=by rw[<- O];rfl
 have ec:U.calm=θ:=by rw[<- O];exact hc
 have eE:U.env=compEnvC scope (mU scope.names X.env.cells) s3.heap.objs.size X.env:=by rw[<- O];rfl
 have stat:∀{H':Hp},(∀b∈fp,H' b=ψ)->∀b∈fp,dO U [] H' b:=λhn b hb=>by
  rw[<- O];refine⟨hn b hb,qc2 (fl3 b hb),λz=>?_,.inl hb,λx c h=>(f3 b hb).2.2.2.2.1 x c (f9 hcells h),λp hp=>absurd hp (by simp[cxC])⟩;rcases qc4.mp (I3.stkSub b z)with q|q
  .exact(f3 b hb).2.1 q
  .exact(f3 b hb).2.2.1 q
 -- behind the block
 have fin:∀(H':Hp)(s':qa8),Inv U [] (aK src σ) H' s'->Q (.ref D) H'->ze5 (model X.prog X.w) X.A X.xe use QQ (.ref D) s3.heap.objs.size (.ok .next) s':=by
  intro H' s' J' q;rw[<- O]at J';have⟨m,hn,_⟩:=id J'.loc;have hC:H' s3.heap.objs.size=ψ:=J'.free;have un:Un (frs X.stack) fp (upd H2 D (.e [])) H' s3.heap s'.heap:=J'.base;have IA:Inv X J0 σ H' s':=I3.call' (s':=s') (show s'.os=s3.os from J'.os) un J'.hok J'.bare λb hb=>⟨(f3 b hb).2.2.2.1,(f3 b hb).2.1,(f3 b hb).2.2.2.2.1,(f3 b hb).2.2.2.2.2⟩
  exact hfin D _ H' s' m IA (I3.fpOk (nL _) hC) hn q
 have loop:∀s4':qa8,s4'=s4->qu7 (model X.prog X.w) X.A (.compLoop (.ListComp elt [⟨tg,iter,ifs,0⟩] scope pos) 0 (.ref it) (.ref D) U.env) (ze5 (model X.prog X.w) X.A X.xe use QQ (.ref D) s3.heap.objs.size) s4':=by
  rintro _ rfl;refine mW (λn s'=>∃i H',Inv U [] (aK src σ) H' s'/\tn i s'.heap/\(∀b∈fp,H' b=ψ)/\W i n H') ?_ m0 ⟨0,_,I4,st4,λb hb=>(f3 b hb).1,w0⟩;rintro n s5 ⟨i,H5,I5,st5,fr5,w5⟩;rcases turn i n H5 w5 with ⟨stop,qn⟩|⟨go,N,hN,step⟩
  .have:=T.done U eP eW eK ec i [] s5 (aK src σ) H5 (λ_ _=>False) I5 (stat fr5) st5 stop;rw[eA]at this;refine thn this λr s6 hq2=>?_
   have⟨hr,I6⟩:=hq2;subst hr;exact fin H5 s6 I6 qn
  .have:=T.item U eP eW eK ec i [] s5 (aK src σ) H5 (λ_ _=>False) I5 (stat fr5) st5 go;rw[eA]at this;refine thn this λr s6 hq3=>?_
   have⟨u,hr,h6⟩:=hq3;subst hr;refine thn h6 λ_ s7 hq4=>?_
   have⟨x,H7,I7,r7,y7,st7,fr7⟩:=hq4;have I7':=I7.pinned (stat fr7) (T.obj _ _ st7);have a1:=hg' _ s7 (aK src σ) H7 x u _ I7' r7 (step x H7 y7);rw[ex',eP,eW,eA]at a1;refine thn a1 λ_ s8 hq5=>?_
   have⟨Z,H8,I8,wk8,q8⟩:=hq5;have a2:=ht' _ s8 Z H8 _ I8 q8;rw[ex',eP,eW,eA]at a2;refine thn a2 λok s9 hq6=>?_
   have⟨H9,I9,q9⟩:=hq6
   have again:∀{H7':Hp}{s':qa8},Inv U ([]++eY fp s7.heap) Z H7' s'->N H7'->∃m,m<n/\∃i H',Inv U [] (aK src σ) H' s'/\tn i s'.heap/\(∀b∈fp,H' b=ψ)/\W i m H':=λ{H7' s'} J7 n7=>by have⟨m',hm,w7⟩:=hN H7' n7;refine⟨m',hm,i+1,H7',J7.unpinned.weak wk8.1 wk8.2,T.keep _ _ _ st7 λb hb o e=>(J7.pin (b,o) (qe2 _ (qe2 _ (cm hb e)))).1,λb hb=>?_,w7⟩;have⟨o,e,d⟩:=T.obj _ _ st7 b hb;exact(J7.pin (b,o) (qe2 _ (qe2 _ (cm hb e)))).2.1
   cases ok with
   |false=>exact again I9 q9
   |true=>
    have I9':Inv (cxC X M scope s3.heap.objs.size s3 (upd H2 D (.e [])) fp) ([]++eY fp s7.heap) Z H9 s9:=by rw[O];exact I9
    have a3:=he s3 (upd H2 D (.e [])) fp (.ref D) _ Z H9 s9 _ I3 f3 I9' q9;rw[O]at a3;refine thn a3 λv s10 hq7=>?_
    have⟨y,H10,I10,r10,ys,hl,hz,q10⟩:=hq7;have a4:=fq (X:=U) _ s10 Z H10 (.ref D) [y] (.ref D) [v] (λ_ H'=>N H') I10 rfl (.cons r10 .nil) ⟨D,ys,y,rfl,rfl,hl,hz,q10⟩;rw[ex',eP,eW,eA]at a4;refine thn a4 λ_ s11 hq8=>?_
    have⟨_,H11,I11,_,q11⟩:=hq8;exact again I11 q11
 have e4:∀c:Env,c=U.env->qu7 (model X.prog X.w) X.A (.compStart (.ListComp elt [⟨tg,iter,ifs,0⟩] scope pos) 0 (.ref it) (.ref D) c) (ze5 (model X.prog X.w) X.A X.xe use QQ (.ref D) s3.heap.objs.size) s4:=by rintro _ rfl;exact codeAny_compStart_list (loop _ rfl) (T.self _ _ _ _ _ st4 (loop _ rfl))
 exact e4 _ (by rw[eE];rfl)
omit x in
theorem ji{s:qa8}(S:CmpScope X.N X.env.scope scope M src)(hc:X.calm=θ)(hi:PI X tg iter wi)(Z:M.Nodup->∀C s H ex,PG (cxC X M scope C s H ex) tg g)(ht:∀C s H ex,PTs (cxC X M scope C s H ex) ifs tt)
 (he:∀C s H ex,PE (cxC X M scope C s H ex) elt te) (hs:∀x,qh3 iter X.env x=pure x) (I:Inv X J0 σ H s) (h:jh src wi g tt te σ H Q)
 (O:∀(D C:J4)(H':Hp)(s':qa8)(m:Str->ζ Value),Inv X J0 σ H' s'->dO X J0 H' C->s'.heap.Ns C m->Q (.ref D) H'->ze5 (model X.prog X.w) X.A X.xe use QQ (.ref D) C (.ok .next) s') :
  wpAny (model X.prog X.w) X.A (ze6 (.ListComp elt [⟨tg,iter,ifs,0⟩] scope pos) scope X.env cpos (newList []) ξ (eval iter X.env) use) QQ X.xe s:=
 p8 S hc hi Z ht (λs3 H3 fp W pl U H9 s9 Q' _ _ J q=>qn5 (he _ _ _ _ pl s9 U H9 Q' J q) (λ_ _ x=>x) λ_ _ x=>qk4 x) hs I h O
def Inv.but{s:qa8}{C:J4}{W:Heap}(Z:Inv X J0 σ H s)(O:dO X J0 H C)(sb3:qg2 C s.heap W):Inv X J0 σ H {s with heap:=W}:=by
 have kC:∀b o,b≠C->s.heap.get? b=ς o->W.get? b=ς o:=λb o hb e=>sb3.extBut b o hb e
 have nm:∀{b:J4},b∉[C]->b≠C:=λhb z=>hb (by rw[z];exact qj3)
 refine Z.call' (s':={s with heap:=W}) (ch:=[C]) rfl ⟨λb o e n hb U=>kC b o (nm U) e,λb o e n hb U=>⟨o.slots,kC b o (nm U) e⟩,λb o e n U=>n,λb o e U=>⟨o,kC b o (nm U) e⟩,λb xs e=>e,λb o u e=>e,λb ps e=>⟨#[],by rw[Array.append_empty];exact e⟩,λb qs e=>e⟩ ?_ Z.bare λb hb=>?_
 .intro b u e;have nb:b≠C:=λz=>by rw[z,O.1]at e;cases e
  refine(Z.hok b u e).stay (λc v hc' q=>kC c v ?_ q) (λ_ q=>q) (λ_ _ q=>q) λ_ _ _ q=>q
  rcases hc' with z|z
  .rw[z];exact nb
  .intro w;rw[w,O.1]at z;cases z
 .cases qw0.mp hb;exact⟨O.2.2.2.1,O.2.1,O.2.2.2.2.1,O.2.2.2.2.2⟩
theorem so (S:CmpScope X.N X.env.scope scope M src) (hc:X.calm=θ) (hi:PI X tg iter wi) (U:M.Nodup->∀ C s H ex,PG (cxC X M scope C s H ex) tg g) (Z:∀ C s H ex,PTs (cxC X M scope C s H ex) ifs tt)
  (he:∀C s H ex,PE (cxC X M scope C s H ex) elt te) (hs:∀x,qh3 iter X.env x=pure x:=by intro _;rfl) :
  PE X (.ListComp elt [⟨tg,iter,ifs,0⟩] scope pos) (jh src wi g tt te):=by
 intro J0 s σ H Q I h;rw[eval_ListComp];exact ji (use:=ψ) S hc hi U Z he hs I h λD C H' s' m IA O W q=>⟨m,W,λh' sb=>⟨.ref D,H',IA.but O sb,rfl,q⟩⟩
end
noncomputable def Its(x:Str):It:=⟨λi _=>i<x.cps.size,λi H v H'=>H'=H/\∃c,x.cps[i]?=ς c/\v=.str ⟨#[c]⟩,λi _=>i=x.cps.size⟩
section
variable{X:Cx}{tg:J8}
def iStr(tl:TE):TI:=λσ H R=>tl σ H λv H1=>∃x,v=.str x/\R (Its x) H1
theorem jj:∀{ts:η Str}{us:η Value},Vals (ts.map V.str) us->∃l,us=strValues l/\l.map (·.1)=ts
 |[],_,.nil=>⟨[],rfl,rfl⟩
 |x::r,_,.cons h t=>by have⟨O,rfl⟩:=h;have⟨l,U,e2⟩:=jj t;exact⟨(x,O)::l,by rw[U];rfl,by rw[<- e2];rfl⟩
theorem wm:MtR X "str.join" (λx vs H Q=>∃(a:Str)(l:J4)(ts:η Str),x=.str a/\vs=[.ref l]/\SqL X.K H l (ts.map V.str)/\JoinOk a ts=θ/\Q (.str (zg1 a ts)) H):=by intro J0 s σ H x vs v us Q I W rv h;have⟨a,l,ts,rfl,rfl,Z,O,q⟩:=h;have⟨t,rfl⟩:=W;have⟨u,rfl,U⟩:=rv.one;cases U;have⟨J3,r,p,hz⟩:=I.list Z;have⟨ls,rfl,e2⟩:=jj r;exact SC.join p.isList e2 O λt' k=>⟨.str _,H,I.tok _,⟨_,rfl⟩,q⟩
theorem jV:CallR X (.type "int") (λxs H Q=>∃x n,xs=[.str x]/\PySem.intText? x=ς n/\x.length<=640/\Q (.int n) H):=by intro J0 s σ H xs us Q I r h;have⟨x,n,rfl,O,hl,q⟩:=h;have⟨u,rfl,U⟩:=cQ r;have⟨t,rfl⟩:=U;exact PySem.W.KIN.call_text O hl ⟨.int n,H,I.tok _,⟨_,rfl⟩,q⟩
def om{v:Value}{o:ζ Int}(h:zf5 v o):∃p:ζ (Int×Tok),v=partValue p/\o=p.map (·.1):=by
 cases o with
 |none=>exact⟨ψ,by cases h<;>rfl,rfl⟩
 |some i=>cases h;exact⟨ς (i,_),rfl,rfl⟩
def rSlS:V->ζ Int->ζ Int->Hp->VK->Prop:=λx lo hi H Q=>∃z,x=.str z/\z.length<=qa4/\Q (.str (Txt.slice z lo hi)) H
theorem Aw:SlR X rSlS:=by intro J0 s σ H x v vl vu lo hi sl Q I Z W pl O h;have⟨z,rfl,U,q⟩:=h;have⟨t,rfl⟩:=Z;have⟨l,rfl,rfl⟩:=om pl;have⟨u,rfl,rfl⟩:=om O;refine⟨"str",_,F.slot_str_getitem.lookup,typeIs_str _ _ _,?_⟩;exact wpAny_getItem_str_slice (l:=l) (u:=u) (st:=ψ) W rfl (post_val_or_str ⟨qd2 (Txt.slice_le z _ _) U,λt' k=>⟨.str _,H,I.tok _,⟨_,rfl⟩,q⟩⟩)
end
theorem iM:qf6 "isinstance"=ς (.builtin "isinstance"):=by first|exact PySem.boot_isinstance|exact PyProof.Rows.boot_isinstance|decide +kernel
theorem jW:qf6 "enumerate"=ς (.type "enumerate"):=by first|exact PySem.boot_enumerate|exact PyProof.Rows.boot_enumerate|decide +kernel
structure OkF(P:qe7)(w:J5)(K:xA9)(mg:Str->Option Value)(base:Heap)(x:Str)(k:Nat)(ps:List Str)(sp:Sp):Prop where
 ex:∃f fd,mg x=ς (.ref f)/\xD9 K (.ref f)=θ/\Binds K fd ps []/\FnOk P w K mg base CX0 k f fd ps sp
section
variable{X:Cx}{k:Nat}{ps:η Str}{sp:Sp}{x:Str}{p pos:Pos}{e:J8}{es:η J8}{t:TA}
theorem sr (F:OkF X.prog X.w X.K X.mg X.base x k ps sp) (W:Room k X.A) (hg:Gl X x) (Z:PA X (e::es) t) (U:(x==("__debug__":Str))=ξ:=by decide)
  (he:qb1 (e::es) X.env=(ξ,eval e X.env)::qb1 es X.env:=by rfl) (O:(qh6 pos (qb1 es X.env)).any (·.1)=ξ:=by rfl):PE X (.Call (.Name x p) (e::es) [] pos) (iZ sp [] E0 t):=by
 have⟨f,fd,h1,h2,h3,h4⟩:=F.ex;exact n6 h4 W hg h1 h2 h3 .nil g9 Z U he O
theorem p9(F:OkF X.prog X.w X.K X.mg X.base x k ps sp)(U:Room k X.A)(W:Gl X x)(O:(x==("__debug__":Str))=ξ:=by decide):PE X (.Call (.Name x p) [] [] pos) (iZ sp [] E0 mL):=by have⟨f,fd,h1,h2,Z,h4⟩:=F.ex;exact rN h4 U W h1 h2 Z .nil g9 O
end
noncomputable def su(N:η Str)(outer scope:J9)(M:η Str)(src:η (ζ Nat)):Bool:=
 (match scope.kind with|.function=>θ|_=>ξ)&&
 scope.names.all (λy=>decide (y.2≠.cell))&&
 scope.names.all (λy=>!decide (y.2=.free)||(decide (outer.names.lookup y.1=ς .cell)||decide (outer.names.lookup y.1=ς .free)))&&
 scope.names.all (λy=>!decide (y.2=.local)||decide (scope.names.lookup y.1=ς .local))&&
 scope.names.all (λy=>!decide (y.2=.free)||decide (scope.names.lookup y.1=ς .free))&&
 decide (M.length=src.length)&&decide M.Nodup&&
 (M.zip src).all (λp=>match p.2 with|none=>θ|some j=>decide (N[j]?=ς p.1)&&decide ((p.1,qg8)∈scope.names))
variable{src:η (ζ Nat)}
def CmpScope.of{N:η Str}{outer:J9}{M:η Str}(h:su N outer scope M src=θ):CmpScope N outer scope M src:=by
 unfold su at h;rwa[qa1,qb9,qf2,qi7,decide_eq_true_eq,decide_eq_false_iff_not]at h;have⟨⟨⟨⟨⟨⟨⟨h1,h2⟩,h3⟩,h4⟩,W⟩,h6⟩,h7⟩,Z⟩:=h;refine⟨?_,h2,λy O e=>(h3 y O).resolve_left λz=>z e,λy O e=>(h4 y O).resolve_left λz=>z e,λy O e=>(W y O).resolve_left λz=>z e,h6,h7,λp hp j U=>?_⟩
 .revert h1;cases scope.kind<;>simp
 .have:=Z p hp;cases e:p.2 with
  |none=>rw[e]at U;cases U
  |some j'=>rw[e]at U this;cases U;simpa using this
def Plain(J:It)(xs:η V)(ok:Hp->Prop):Prop:=∀i H,ok H->(i<xs.length->J.go i H)/\(i=xs.length->J.stop i H)/\∀x H',i<xs.length->J.yld i H x H'->H'=H/\xs[i]?=ς x
theorem plain_list:Plain (Itl K a) xs (λH=>SqL K H a xs):=λi H h=>⟨λhi=>⟨xs,xs[i],h,by simp[hi]⟩,λe=>⟨xs,h,Θ⟩,λx H' _ y=>⟨y.1,y.2 xs h⟩⟩
theorem plain_tup:Plain (Itt K a) xs (λH=>SqT K H a xs):=λi H h=>⟨λhi=>⟨xs,xs[i],h,by simp[hi]⟩,λe=>⟨xs,h,Θ⟩,λx H' _ y=>⟨y.1,y.2 xs h⟩⟩
noncomputable def jX(lo:Int)(n:Nat):η V:=(qd8 n).map λ(i:Nat)=>V.int (lo+i)
def plain_range{lo:Int}{n:Nat}:Plain (Itr lo n) (jX lo n) (λ_=>True):=λi H h=>by
 refine⟨λhi=>?_,λe=>?_,λx H' hi y=>?_⟩
 .show i<n;simpa[jX] using hi
 .show n<=i;simp[jX]at e;lia
 .have⟨e,rfl⟩:=y;refine⟨e,?_⟩;unfold jX at hi ⊢;rw[qa3,qy0]at hi;rw[qa6,List.getElem?_range hi];rfl
noncomputable def signV(x:Str):η V:=x.cps.toList.map λc=>V.str ⟨#[c]⟩
def yH(src:η (ζ Nat))(g:TG)(tt:TT)(te:TE)(σ:ae)(J:It)(H1:Hp)(Q:VK)(D:J4):Prop:=∃W:Nat->Nat->Hp->Prop,(∃m,W 0 m (upd H1 D (.e [])))/\∀i m H,W i m H→
 (J.stop i H/\Q (.ref D) H)\/(J.go i H/\∃N:Hp->Prop,(∀H',N H'->∃Z,Z<m/\W (i+1) Z H')/\∀x H',J.yld i H x H'→
  g x (aK src σ) H' λO H2=>Wk (aK src σ) O/\tt O H2 λb H3=>if b=θ then te O H3 λv U=>∃ys,U D=ς (.e ys)/\ys.length<qa4/\N (upd U D (.e (ys++[v])))else N H3)
variable{wi:TI}{te:TE}
def sw{g:TG}{tt:TT}:jh src wi g tt te σ H Q=wi σ H λJ H1=>∀D,H1 D=ψ->yH src g tt te σ J H1 Q D:=rfl
def ForW(g:TG)(tb:TS)(D:Ends)(J:It)(σ:ae)(H1:Hp):Prop:=∃W:Nat->Nat->ae->Hp->Prop,(∃m,W 0 m σ H1)/\∀i m σ H,W i m σ H→ (J.stop i H/\D.nx σ H)\/(J.go i H/\∃N:ae->Hp->Prop,(∀O H',N O H'->∃Z,Z<m/\W (i+1) Z O H')/\∀x H',J.yld i H x H'->g x σ H' λU H2=>tb {D with nx:=N,ct:=N,bk:=D.nx} U H2)
def wn{g:TG}{tb:TS}{D:Ends}:tFor wi g tb D σ H=wi σ H λJ H1=>ForW g tb D J σ H1:=rfl
theorem sx{v:V}(W:Gl X x)(O:∃u,X.mg x=ς u/\RelV v u)(U:(x==("__debug__":Str))=ξ:=by decide):PE X (.Name x pos) (tC v):=by have⟨u,h1,h2⟩:=O;exact vK W h1 h2 U
noncomputable def cU(scope outer:J9):J9:={scope with names:=scope.names.map λ(n,k)=>if(k==.free&&outer.kind==.function&&outer.names.lookup n==ς .cell)then(n,.cell)else(n,k)}
noncomputable def b6(sc:J9)(N:η Str)(i:Nat)(x:Str):Bool:=decide (N[i]?=ς x)&&(decide (sc.names.lookup x=ς .local)||(decide (sc.names.lookup x=ς .cell)||decide (sc.names.lookup x=ς .free)))&&!(x==("__debug__":Str))&&!(x==("__classdict__":Str))
noncomputable def iO(sc:J9)(x:Str):Bool:=decide (sc.names.lookup x=ς .local)||decide (sc.names.lookup x=ς .cell)
noncomputable def aL(sc:J9)(x:Str):Bool:=decide (sc.names.lookup x=ς .globalImplicit)&&!(x==("__debug__":Str))&&!decide (x=("__name__":Str))
section
variable{sc:J9}{N:η Str}{i:Nat}{x:Str}
def fC(h:b6 sc N i x=θ):N[i]?=ς x:=by unfold b6 at h;rwa[qa1,decide_eq_true_eq]at h;exact h.1.1.1
def Ax(h:b6 sc N i x=θ):Vis sc x:=by unfold b6 at h;rwa[qa1,qf2,decide_eq_true_eq]at h;exact h.1.1.2
def Ay(h:b6 sc N i x=θ):(x==("__debug__":Str))=ξ:=by unfold b6 at h;rwa[qa1,qi7]at h;exact h.1.2
def CY(h:b6 sc N i x=θ):(x==("__classdict__":Str))=ξ:=by unfold b6 at h;rwa[qa1,qi7]at h;exact h.2
def jY(h:iO sc x=θ):Loc sc x:=by unfold iO at h;rwa[qf2,decide_eq_true_eq]at h;exact h
theorem z5(h:aL sc x=θ):sc.names.lookup x=ς .globalImplicit:=by unfold aL at h;rwa[qa1,decide_eq_true_eq]at h;exact h.1.1
def cu(h:aL sc x=θ):(x==("__debug__":Str))=ξ:=by unfold aL at h;rwa[qa1,qi7]at h;exact h.1.2
def z4(h:aL sc x=θ):x≠("__name__":Str):=by unfold aL at h;rwa[qa1,qi7,decide_eq_false_iff_not]at h;exact h.2
end
def aY(X:Cx)(sc:J9):Prop:=X.env.scope=sc
section
variable{X:Cx}{sc:J9}{N:η Str}{x:Str}{pos p:Pos}
theorem pvD(i:Nat)(h:b6 sc N i x=θ)(O:aY X sc:=by rfl)(e2:X.N=N:=by rfl):PE X (.Name x pos) (qU i):=by have O:X.env.scope=sc:=O;subst O e2;exact zB (fC h) (Ax h) (Ay h) (CY h)
def glD(h:aL sc x=θ)(O:aY X sc:=by rfl):Gl X x:=by have O:X.env.scope=sc:=O;subst O;exact z5 h
theorem wo{i:Nat}{e:J8}{pos':Pos}(h:b6 sc N i x=θ)(hl:iO sc x=θ)(U:N.Nodup)(Z:PE X e te)(O:aY X sc:=by rfl)(e2:X.N=N:=by rfl)(W:X.fn x=θ\/X.env.scope.names.lookup x=ς .local:=by exact .inl rfl)
 (hs:qi9 e (ς (.Name x pos')) pos.line X.env=pure ξ:=by rfl):PSBq X (.Assign [.Name x pos'] e pos) (vR te (ei i)):=by
 have O:X.env.scope=sc:=O;subst O e2;exact zP U (fC h) (jY hl) Z hs W
theorem sC{i:Nat}(h:b6 sc N i x=θ)(hl:iO sc x=θ)(U:N.Nodup)(O:aY X sc:=by rfl)(e2:X.N=N:=by rfl)(W:X.fn x=θ\/X.env.scope.names.lookup x=ς .local:=by exact .inl rfl):PG X (.Name x pos) (ei i):=by have O:X.env.scope=sc:=O;subst O e2;exact nZ U (fC h) (jY hl) W
noncomputable def loOk(sc:J9)(x:Str):Bool:=decide (sc.names.lookup x=ς .local)
theorem sD{i:Nat}(h:b6 sc N i x=θ)(hl:loOk sc x=θ)(U:X.N.Nodup)(O:aY X sc)(e2:X.N=N:=by rfl):PG X (.Name x pos) (ei i):=by have O:X.env.scope=sc:=O;subst O e2;have hl:X.env.scope.names.lookup x=ς .local:=of_decide_eq_true hl;exact nZ U (fC h) (.inl hl) (.inr hl)
def sF{v:V}(h:aL sc x=θ)(O:∃u,X.mg x=ς u/\RelV v u)(U:aY X sc:=by rfl):PE X (.Name x pos) (tC v):=sx (glD h U) O (cu h)
theorem sG{v:V}{u:Value}(h:aL sc x=θ)(O:X.mg x=ψ)(U:qf6 x=ς u)(r:RelV v u)(W:aY X sc:=by rfl):PE X (.Name x pos) (tC v):=vL (glD h W) O U r (z4 h) (cu h)
variable{e:J8}{es:η J8}{t:TA}{id T:String}{r:η V->Hp->VK->Prop}{k:Nat}{ps:η Str}{sp:Sp}
theorem jk (h:aL sc x=θ) (hc:CallR X (.builtin id) r) (U:X.mg x=ψ) (W:qf6 x=ς (.builtin id)) (ha:PA X (e::es) t) (Z:aY X sc:=by rfl)
  (he:qb1 (e::es) X.env=(ξ,eval e X.env)::qb1 es X.env:=by rfl) (O:(qh6 pos (qb1 es X.env)).any (·.1)=ξ:=by rfl):PE X (.Call (.Name x p) (e::es) [] pos) (tCB r t):=
 rQ hc (glD h Z) U W ha (z4 h) (cu h) he O
theorem dQ (h:aL sc x=θ) (hc:CallR X (.type T) r) (U:X.mg x=ψ) (W:qf6 x=ς (.type T)) (ha:PA X (e::es) t) (Z:aY X sc:=by rfl)
  (he:qb1 (e::es) X.env=(ξ,eval e X.env)::qb1 es X.env:=by rfl) (O:(qh6 pos (qb1 es X.env)).any (·.1)=ξ:=by rfl):PE X (.Call (.Name x p) (e::es) [] pos) (tCB r t):=
 pY hc (glD h Z) U W ha (z4 h) (cu h) he O
theorem qa (h:aL sc x=θ) (F:OkF X.prog X.w X.K X.mg X.base x k ps sp) (U:Room k X.A) (ha:PA X (e::es) t) (W:aY X sc:=by rfl)
  (Z:qb1 (e::es) X.env=(ξ,eval e X.env)::qb1 es X.env:=by rfl) (O:(qh6 pos (qb1 es X.env)).any (·.1)=ξ:=by rfl):PE X (.Call (.Name x p) (e::es) [] pos) (iZ sp [] E0 t):=
 sr F U (glD h W) ha (cu h) Z O
theorem mX(h:aL sc x=θ)(F:OkF X.prog X.w X.K X.mg X.base x k ps sp)(O:Room k X.A)(U:aY X sc:=by rfl):PE X (.Call (.Name x p) [] [] pos) (iZ sp [] E0 mL):=p9 F O (glD h U) (cu h)
variable{tg a b:J8}{ta:TA}
theorem mY(h:aL sc "range"=θ)(O:X.mg "range"=ψ)(W:PA X [a] ta)(U:aY X sc:=by rfl)(hs:qb1 [a] X.env=[(ξ,eval a X.env)]:=by rfl):PI X tg (.Call (.Name "range" p) [a] [] pos) (yA ta):=pO (glD h U) O W hs
end
section
variable{X:Cx}{M:η Str}{scope outer:J9}{C:J4}{s:qa8}{H:Hp}{ex:η J4}{x:Str}{pos p:Pos}
def scC(O:aY X outer):aY (cxC X M scope C s H ex) (cU scope outer):=by have O:X.env.scope=outer:=O;subst O;rfl
end
set_option genInjectivity true in
inductive Dt where
 |non|bl (b:Bool)|int (i:Int)|str (x:Str)|t (l:List Dt)|e (l:List Dt)|dct (ks:List Key) (l:List Dt)|dcT (ks:List (List Key)) (l:List Dt)
mutual
noncomputable def peq:Dt->Dt->Bool
 |.non,.non=>θ
 |.bl a,.bl b=>a==b
 |.bl a,.int j=>(if a then(1:Int)else 0)==j
 |.int i,.bl b=>i==(if b then(1:Int)else 0)
 |.int i,.int j=>i==j
 |.str x,.str y=>x==y
 |.t l,.t m=>peqs l m
 |.e l,.e m=>peqs l m
 |.dct ks l,.dct js m=>decide (ks=js)&&peqs l m
 |.dcT ks l,.dcT js m=>decide (ks=js)&&peqs l m
 |_,_=>ξ
noncomputable def peqs:η Dt->η Dt->Bool
 |[],[]=>θ
 |d::l,e::m=>peq d e&&peqs l m
 |_,_=>ξ
end
section
variable{l m:η Dt}{d e:Dt}
def pqt:peq (.t l) (.t m)=peqs l m:=rfl
def pql:peq (.e l) (.e m)=peqs l m:=rfl
def pqc:peqs (d::l) (e::m)=(peq d e&&peqs l m):=rfl
end
mutual
theorem cV:∀d:Dt,peq d d=θ
 |.non=>rfl
 |.bl b=>by cases b<;>rfl
 |.int i=>beq_self_eq_true i
 |.str x=>beq_self_eq_true x
 |.t l=>peqs_selfBq l
 |.e l=>peqs_selfBq l
 |.dct ks l=>qc0.mpr ⟨decide_eq_true rfl,peqs_selfBq l⟩
 |.dcT ks l=>qc0.mpr ⟨decide_eq_true rfl,peqs_selfBq l⟩
theorem peqs_selfBq:∀l:η Dt,peqs l l=θ
 |[]=>rfl
 |d::l=>by show(peq d d&&peqs l l)=θ;rw[cV d,peqs_selfBq l];rfl
end
mutual
noncomputable def cW:Dt->Nat
 |.t l=>deeps l+1
 |.e l=>deeps l+1
 |_=>0
noncomputable def deeps:η Dt->Nat
 |[]=>0
 |d::l=>max (cW d) (deeps l)
end
mutual
def Rep(K:xA9)(H:Hp):Dt->V->Prop
 |.non,v=>v=.non
 |.bl b,v=>v=.bl b
 |.int i,v=>v=.int i
 |.str x,v=>v=.str x
 |.t l,v=>∃a vs,v=.ref a/\SqT K H a vs/\Reps K H l vs
 |.e l,v=>∃a vs,v=.ref a/\SqL K H a vs/\Reps K H l vs
 |.dct ks l,v=>∃a J1,v=.ref a/\Rd H a (.dK J1)/\J1.map (·.1)=ks/\Reps K H l (J1.map (·.2))
 |.dcT ks l,v=>∃a J1,v=.ref a/\Rd H a (.dT J1)/\J1.map (·.1)=ks/\Reps K H l (J1.map (·.2))
def Reps(K:xA9)(H:Hp):η Dt->η V->Prop
 |[],vs=>vs=[]
 |d::l,vs=>∃v ws,vs=v::ws/\Rep K H d v/\Reps K H l ws
end
def Same.tup(e:Same H H')(h:SqT K H a xs):SqT K H' a xs:=by
 rcases h with h|h
 .exact .inl (e _ _ h)
 .exact .inr h
def Same.rd{u:HO}(e:Same H H')(h:Rd H a u):Rd H' a u:=by
 rcases h with h|⟨o,h⟩
 .exact .inl (e _ _ h)
 .exact .inr ⟨o,e _ _ h⟩
mutual
theorem Rep.same{K:xA9}{H H':Hp}(e:Same H H'):∀{d:Dt}{v:V},Rep K H d v->Rep K H' d v
 |.non,v,h=>h
 |.bl _,v,h=>h
 |.int _,v,h=>h
 |.str _,v,h=>h
 |.t l,v,h=>by unfold Rep at h ⊢;have⟨a,vs,h1,h2,h3⟩:=h;exact⟨a,vs,h1,e.tup h2,Reps.same e h3⟩
 |.e l,v,h=>by unfold Rep at h ⊢;have⟨a,vs,h1,h2,h3⟩:=h;exact⟨a,vs,h1,e.seq h2,Reps.same e h3⟩
 |.dct ks l,v,h=>by unfold Rep at h ⊢;have⟨a,vs,h1,h2,h3,h4⟩:=h;exact⟨a,vs,h1,e.rd h2,h3,Reps.same e h4⟩
 |.dcT ks l,v,h=>by unfold Rep at h ⊢;have⟨a,vs,h1,h2,h3,h4⟩:=h;exact⟨a,vs,h1,e.rd h2,h3,Reps.same e h4⟩
theorem Reps.same{K:xA9}{H H':Hp}(e:Same H H'):∀{l:η Dt}{vs:η V},Reps K H l vs->Reps K H' l vs
 |[],vs,h=>h
 |d::l,vs,h=>by unfold Reps at h ⊢;have⟨v,ws,h1,h2,h3⟩:=h;exact⟨v,ws,h1,Rep.same e h2,Reps.same e h3⟩
end
theorem Reps.length:∀{l:η Dt}{vs:η V},Reps K H l vs->vs.length=l.length
 |[],vs,h=>by unfold Reps at h;rw[h];rfl
 |d::l,vs,h=>by unfold Reps at h;have⟨v,ws,rfl,_,O⟩:=h;simp[Reps.length O]
theorem Reps.get:∀{l:η Dt}{vs:η V}{i:Nat}{d:Dt},Reps K H l vs->l[i]?=ς d->∃v,vs[i]?=ς v/\Rep K H d v
 |[],vs,i,d,h,e=>by simp at e
 |d0::l,vs,0,d,h,e=>by unfold Reps at h;have⟨v,ws,rfl,h2,_⟩:=h;simp at e;subst e;exact⟨v,rfl,h2⟩
 |d0::l,vs,i+1,d,h,e=>by unfold Reps at h;have⟨v,ws,rfl,_,U⟩:=h;have⟨u,O,e2⟩:=Reps.get (i:=i) U ‹e›;exact⟨u,‹O›,e2⟩
theorem Reps.append:∀{l m:η Dt}{vs ws:η V},Reps K H l vs->Reps K H m ws->Reps K H (l++m) (vs++ws)
 |[],m,vs,ws,h,h'=>by unfold Reps at h;rw[h];exact h'
 |d::l,m,vs,ws,h,h'=>by unfold Reps at h;have⟨v,us,rfl,h2,O⟩:=h;show Reps K H (d::(l++m)) (v::(us++ws));unfold Reps;exact⟨v,_,rfl,h2,Reps.append O h'⟩
def Reps.one{d:Dt}{v:V}(h:Rep K H d v):Reps K H [d] [v]:=by unfold Reps;exact⟨v,[],rfl,h,by unfold Reps;rfl⟩
theorem Reps.take:∀{l:η Dt}{vs:η V}(n:Nat),Reps K H l vs->Reps K H (l.take n) (vs.take n)
 |_,_,0,_=>by simp[Reps]
 |[],vs,n+1,h=>by unfold Reps at h;rw[h];simp[Reps]
 |d::l,vs,n+1,h=>by unfold Reps at h;have⟨v,us,rfl,h2,O⟩:=h;show Reps K H (d::l.take n) (v::us.take n);unfold Reps;exact⟨v,_,rfl,h2,Reps.take n O⟩
theorem Reps.drop:∀{l:η Dt}{vs:η V}(n:Nat),Reps K H l vs->Reps K H (l.drop n) (vs.drop n)
 |_,_,0,h=>h
 |[],vs,n+1,h=>by unfold Reps at h;rw[h];simp[Reps]
 |d::l,vs,n+1,h=>by unfold Reps at h;have⟨v,us,rfl,h2,O⟩:=h;exact Reps.drop n O
variable{u:η (Key×V)}
section
variable{X:Cx}{J0:η (J4×Obj)}{σ:ae}{H:Hp}{s:qa8}{K:xA9}
theorem Inv.notBoth{ys:η V}(I:Inv X J0 σ H s)(h:SqL X.K H a xs)(h':SqT X.K H a ys):False:=by have⟨J3,r,pl,_⟩:=I.list h;have⟨its',W,pt,_⟩:=I.tuple h';have⟨o,n,e,hc,_⟩:=pl;have⟨o',U,O,_⟩:=pt;rw[e]at U;cases U;rw[hc]at O;injection O with z;exact absurd z Ω
theorem CZ{w:η (Key×V)}(h:Rd H a (.dK u))(h':Rd H a (.dK w)):u=w:=by rcases h with h|⟨o,h⟩<;>rcases h' with h'|⟨o',h'⟩<;>rw[h]at h'<;>cases h'<;>rfl
theorem C0{u w:η (η Key×V)}(h:Rd H a (.dT u))(h':Rd H a (.dT w)):u=w:=by rcases h with h|⟨o,h⟩<;>rcases h' with h'|⟨o',h'⟩<;>rw[h]at h'<;>cases h'<;>rfl
def gr{u:HO}(h:Rd H a u):∃o,H a=ς o:=by
 rcases h with h|⟨o,h⟩
 .exact⟨_,h⟩
 .exact⟨_,h⟩
def Inv.kNone(I:Inv X J0 σ H s){o:Obj}(h:X.K.lookup a=ς o):H a=ψ:=(I.bs a o (I.ok.mod.kin a o h)).2
def Inv.sqT_dK(I:Inv X J0 σ H s)(h:SqT X.K H a xs)(h':Rd H a (.dK u)):False:=by
 rcases h with h|⟨o,_,_,h,_⟩
 .rcases h' with h'|⟨o',h'⟩<;>rw[h]at h'<;>cases h'
 .have⟨o',e⟩:=gr h';rw[I.kNone h]at e;cases e
def Inv.sqT_dT(I:Inv X J0 σ H s){u:η (η Key×V)}(h:SqT X.K H a xs)(h':Rd H a (.dT u)):False:=by
 rcases h with h|⟨o,_,_,h,_⟩
 .rcases h' with h'|⟨o',h'⟩<;>rw[h]at h'<;>cases h'
 .have⟨o',e⟩:=gr h';rw[I.kNone h]at e;cases e
def Inv.sqL_dK(I:Inv X J0 σ H s)(h:SqL X.K H a xs)(h':Rd H a (.dK u)):False:=by
 rcases h with h|⟨o,_,_,h,_⟩
 .rcases h with h|⟨o,h⟩<;>rcases h' with h'|⟨o',h'⟩<;>rw[h]at h'<;>cases h'
 .have⟨o',e⟩:=gr h';rw[I.kNone h]at e;cases e
def Inv.sqL_dT(I:Inv X J0 σ H s){u:η (η Key×V)}(h:SqL X.K H a xs)(h':Rd H a (.dT u)):False:=by
 rcases h with h|⟨o,_,_,h,_⟩
 .rcases h with h|⟨o,h⟩<;>rcases h' with h'|⟨o',h'⟩<;>rw[h]at h'<;>cases h'
 .have⟨o',e⟩:=gr h';rw[I.kNone h]at e;cases e
theorem sH{w:η (η Key×V)}(h:Rd H a (.dK u))(h':Rd H a (.dT w)):False:=by rcases h with h|⟨o,h⟩<;>rcases h' with h'|⟨o',h'⟩<;>rw[h]at h'<;>cases h'
noncomputable def aP:Dt->Nat
 |.non=>0
 |.bl _=>1
 |.int _=>2
 |.str _=>3
 |.t _=>4
 |.e _=>5
 |.dct _ _=>6
 |.dcT _ _=>7
def bB(I:Inv X J0 σ H s){d e:Dt}{v:V}(h:Rep X.K H d v)(h':Rep X.K H e v):aP d=aP e:=by
 cases d<;>cases e<;>first
  |rfl
  |(rwa[Rep]at h h';subst h;cases h';done)
  |(rwa[Rep]at h h';have⟨_,_,e,_⟩:=h';rw[h]at e;cases e;done)
  |(rwa[Rep]at h h';have⟨_,_,e,_⟩:=h;rw[h']at e;cases e;done)
  | (rwa[Rep]at h h';have⟨_,_,rfl,h2,_⟩:=h;have⟨_,_,e,O,_⟩:=h';cases e
     first
      |exact(I.sqT_dK h2 O).elim
      |exact(I.sqT_dK O h2).elim
      |exact(I.sqT_dT h2 O).elim
      |exact(I.sqT_dT O h2).elim
      |exact(I.notBoth h2 O).elim
      |exact(I.notBoth O h2).elim
      |exact(I.sqL_dK h2 O).elim
      |exact(I.sqL_dK O h2).elim
      |exact(I.sqL_dT h2 O).elim
      |exact(I.sqL_dT O h2).elim
      |exact(sH h2 O).elim
      |exact(sH O h2).elim)
mutual
theorem jZ(I:Inv X J0 σ H s):∀(d e:Dt)(v:V),Rep X.K H d v->Rep X.K H e v->peq d e=θ:=λd=>by
 match d with
 |.t l=>
  intro e v h h';have hk:=bB I h h';cases e<;>first|(simp[aP]at hk;done)|skip
  rwa[Rep]at h h';have⟨a,vs,rfl,h2,h3⟩:=h;have⟨b,ws,e,h2',h3'⟩:=h';cases e;have:=I.tuple_inj h2 h2';subst this;exact reps_inj I l _ _ h3 h3'
 |.e l=>
  intro e v h h';have hk:=bB I h h';cases e<;>first|(simp[aP]at hk;done)|skip
  rwa[Rep]at h h';have⟨a,vs,rfl,h2,h3⟩:=h;have⟨b,ws,e,h2',h3'⟩:=h';cases e;have:=I.list_inj h2 h2';subst this;exact reps_inj I l _ _ h3 h3'
 |.dct ks l=>
  intro e v h h';have hk:=bB I h h';cases e<;>first|(simp[aP]at hk;done)|skip
  rwa[Rep]at h h';have⟨a,vs,rfl,h2,h3,h4⟩:=h;have⟨b,ws,e,h2',h3',h4'⟩:=h';cases e;have:=CZ h2 h2';subst this;subst h3 h3';exact qc0.mpr ⟨decide_eq_true rfl,reps_inj I l _ _ h4 h4'⟩
 |.dcT ks l=>
  intro e v h h';have hk:=bB I h h';cases e<;>first|(simp[aP]at hk;done)|skip
  rwa[Rep]at h h';have⟨a,vs,rfl,h2,h3,h4⟩:=h;have⟨b,ws,e,h2',h3',h4'⟩:=h';cases e;have:=C0 h2 h2';subst this;subst h3 h3';exact qc0.mpr ⟨decide_eq_true rfl,reps_inj I l _ _ h4 h4'⟩
 |.non=>intro e v h h';have hk:=bB I h h';cases e<;>first|(simp[aP]at hk;done)|rfl
 |.bl b=>intro e v h h';have hk:=bB I h h';cases e<;>first|(simp[aP]at hk;done)|(rwa[Rep]at h h';rw[h]at h';cases h';exact cV _)
 |.int b=>intro e v h h';have hk:=bB I h h';cases e<;>first|(simp[aP]at hk;done)|(rwa[Rep]at h h';rw[h]at h';cases h';exact cV _)
 |.str b=>intro e v h h';have hk:=bB I h h';cases e<;>first|(simp[aP]at hk;done)|(rwa[Rep]at h h';rw[h]at h';cases h';exact cV _)
theorem reps_inj(I:Inv X J0 σ H s):∀(l m:η Dt)(vs:η V),Reps X.K H l vs->Reps X.K H m vs->peqs l m=θ:=λl=>by
 match l with
 |[]=>
  intro m vs h h';cases m with
  |nil=>rfl
  |cons e m=>unfold Reps at h h';have⟨v,ws,e,_⟩:=h';rw[h]at e;cases e
 |d::l=>
  intro m vs h h';cases m with
  |nil=>unfold Reps at h h';have⟨v,ws,e,_⟩:=h;rw[h']at e;cases e
  |cons e m=>unfold Reps at h h';have⟨v,ws,rfl,h2,h3⟩:=h;have⟨v',ws',e',h2',h3'⟩:=h';cases e';rw[pqc,jZ I d _ _ h2 h2',reps_inj I l _ _ h3 h3'];rfl
end
end
end L2
namespace L2
open PySem PySem.Spec PyProof.Rows
mutual
def bM:Dt->Dt->Bool
 |.t l,.t m=>cmpbs l m
 |.e l,.e m=>cmpbs l m
 |d,e=>decide (aP d<4)&&decide (aP e<4)
def cmpbs:η Dt->η Dt->Bool
 |d::l,e::m=>bM d e&&cmpbs l m
 |_,_=>θ
end
theorem b7:∀{l m:η Dt}{j:Nat}{d e:Dt},cmpbs l m=θ->l[j]?=ς d->m[j]?=ς e->bM d e=θ
 |[],_,j,d,e,_,h,_=>by simp at h
 |_::_,[],j,d,e,_,_,h=>by simp at h
 |d0::l,O::m,0,d,e,h,h1,h2=>by rwa[cmpbs,qa1]at h;simp at h1 h2;subst h1 h2;exact h.1
 |d0::l,O::m,j+1,d,e,h,h1,h2=>by rwa[cmpbs,qa1]at h;exact b7 (j:=j) h.2 ‹h1› ‹h2›
theorem cX:∀{l:η Dt}{j:Nat}{d:Dt},l[j]?=ς d->cW d<=deeps l
 |[],j,d,h=>by simp at h
 |d0::l,0,d,h=>by simp at h;subst h;rwa[deeps];exact Nat.le_max_left ..
 |d0::l,j+1,d,h=>by rwa[deeps];exact qd2 (cX (j:=j) ‹h›) (Nat.le_max_right ..)
def aQ(l m:η Dt)(j:Nat):Bool:=peq (l.getD j .non) (m.getD j .non)
theorem bN:∀(l m:η Dt),peqs l m=((qd8 (min l.length m.length)).all (aQ l m)&&l.length==m.length)
 |[],[]=>rfl
 |[],_::_=>rfl
 |_::_,[]=>by show ξ=_;simp
 |d::l,e::m=>by
  have W:=bN l m;rwa[pqc,W,qb6];rw[show min (l.length+1) (m.length+1)=min l.length m.length+1 by lia,List.range_succ_eq_map,qc7,zf7];have O:aQ (d::l) (e::m) 0=peq d e:=rfl
  have e2:(aQ (d::l) (e::m) ∘ Nat.succ)=aQ l m:=by funext j;rfl
  have U:(l.length+1==m.length+1)=(l.length==m.length):=by rw[qr5];simp
  rw[O,e2,U,qx1]
variable{K:xA9}
section
variable{X:Cx}{J0:η (J4×Obj)}{σ:ae}{H:Hp}{s:qa8}
theorem aT{l:η Dt}{vs:η V}{J3:η Value}(h:Reps X.K H l vs)(r:Vals vs J3){j:Nat}(O:j<J3.length):∃d v,l[j]?=ς d/\Rep X.K H d v/\RelV v J3[j]:=by
 have hl:j<l.length:=by rw[<- h.length,r.length];exact O
 have⟨v,W,e2⟩:=h.get (i:=j) (d:=l[j]) (by simp[hl]);have⟨u,U,Z⟩:=r.get W
 have:J3[j]=u:=by have:=gQ O;rw[this]at U;exact qc9 U
 exact⟨l[j],v,by simp[hl],e2,by rw[this];exact Z⟩
theorem yI(I:Inv X J0 σ H s):∀(n:Nat){A:ql5}{d e:Dt}{v w:V}{u u':Value},cW d<=n->A.units+n<cLine->bM d e=θ->Rep X.K H d v->Rep X.K H e w->RelV v u->RelV w u'->qf3 A s u u' (peq d e):=by
 intro n;induction n with
 |zero=>
  intro A d e v w u u' hd hu hc h h' r r'
  cases d<;>cases e<;>first
   |(rwa[Rep]at h h';subst h h';exact fm r r' rfl rfl)
   |(rwa[cW]at hd;lia)
   |(simp[bM,aP]at hc)
 |succ n ih=>
  intro A d e v w u u' hd hu hc h h' r r';cases d with
  |t l=>
   cases e with
   |t m=>
    have h0:=h;have h0':=h';rwa[Rep]at h h';have⟨a,vs,rfl,h2,h3⟩:=h;have⟨b,ws,rfl,O,h3'⟩:=h';cases r;cases r';by_cases W:a=b
    .subst W;have:=jZ I _ _ _ h0 h0';rw[this];exact zb6 _
    have⟨J3,rv,pt,_⟩:=I.tuple h2;have⟨its',rv',pt',_⟩:=I.tuple O;have n1:J3.length=l.length:=by rw[<- h3.length,rv.length]
    have n2:its'.length=m.length:=by rw[<- h3'.length,rv'.length]
    rwa[pqt,pql];rw[bN,<- n1,<- n2];rwa[cW]at hd;rwa[bM]at hc
    have key:=qy1.tuples (A:=A) (e:=aQ l m) pt pt' Θ (λj h1 h2=>by
     have h1':j<J3.length:=‹h1›
     have O:j<its'.length:=‹h2›
     have⟨d,v,g1,g2,g3⟩:=aT h3 rv h1';have⟨e,w,Z,g2',g3'⟩:=aT h3' rv' O;have:aQ l m j=peq d e:=by unfold aQ;rw[qc3,qc3,g1,Z];rfl
     rw[this];have:=ih (A:=A.in1) (qd2 (cX g1) Θ) (show A.units+1+n<cLine by lia) (b7 hc g1 Z) g2 g2' g3 g3';simpa using this)
    have key':qy1 A s (.ref a) (.ref b) ((qd8 (min J3.length its'.length)).all (aQ l m)&&J3.length==its'.length):=‹key›
    exact qw1 W key'
   |_=>exact absurd hc (by simp[bM,aP])
  |e l=>
   cases e with
   |e m=>
    have h0:=h;have h0':=h';rwa[Rep]at h h';have⟨a,vs,rfl,h2,h3⟩:=h;have⟨b,ws,rfl,O,h3'⟩:=h';cases r;cases r';by_cases W:a=b
    .subst W;have:=jZ I _ _ _ h0 h0';rw[this];exact zb6 _
    have⟨J3,rv,pt,_⟩:=I.list h2;have⟨its',rv',pt',_⟩:=I.list O;have n1:J3.length=l.length:=by rw[<- h3.length,rv.length]
    have n2:its'.length=m.length:=by rw[<- h3'.length,rv'.length]
    rwa[pqt,pql];rw[bN,<- n1,<- n2];rwa[cW]at hd;rwa[bM]at hc;by_cases U:J3.length=its'.length
    .have key:=qy1.lists (A:=A) (e:=aQ l m) pt.isList pt'.isList ‹U› Θ (λj h1 h2=>by
      have h1':j<J3.length:=‹h1›
      have O:j<its'.length:=‹h2›
      have⟨d,v,g1,g2,g3⟩:=aT h3 rv h1';have⟨e,w,Z,g2',g3'⟩:=aT h3' rv' O;have:aQ l m j=peq d e:=by unfold aQ;rw[qc3,qc3,g1,Z];rfl
      rw[this];have:=ih (A:=A.in1) (qd2 (cX g1) Θ) (show A.units+1+n<cLine by lia) (b7 hc g1 Z) g2 g2' g3 g3';simpa using this)
     have e1:(J3.length==its'.length)=θ:=‹U›
     rw[e1,qj9,show min J3.length its'.length=J3.length by lia];exact qw1 W ‹key›
    .have e1:(J3.length==its'.length)=ξ:=‹U›
     rw[e1,zd2];exact qw1 W (qy2 pt.isList pt'.isList ‹U› Θ)
   |_=>exact absurd hc (by simp[bM,aP])
  |non=>cases e<;>first|(rwa[Rep]at h h';subst h h';exact fm r r' rfl rfl)|(simp[bM,aP]at hc)
  |bl b=>cases e<;>first|(rwa[Rep]at h h';subst h h';exact fm r r' rfl rfl)|(simp[bM,aP]at hc)
  |int b=>cases e<;>first|(rwa[Rep]at h h';subst h h';exact fm r r' rfl rfl)|(simp[bM,aP]at hc)
  |str b=>cases e<;>first|(rwa[Rep]at h h';subst h h';exact fm r r' rfl rfl)|(simp[bM,aP]at hc)
  |dct ks l=>cases e<;>(simp[bM,aP]at hc)
  |dcT ks l=>cases e<;>(simp[bM,aP]at hc)
theorem yJ (I:Inv X J0 σ H s) {A:ql5} {d e:Dt} {v w:V} {u u':Value} (hq:(∃ l m,d=.t l/\e=.t m)\/∃ l m,d=.e l/\e=.e m) (hu:A.units+cW d<cLine) (hc:bM d e=θ) (h:Rep X.K H d v) (h':Rep X.K H e w) (r:RelV v u) (r':RelV w u') :
  qy1 A s u u' (peq d e)/\zc0 A s u u' (!peq d e):=by
 rcases hq with ⟨l,m,rfl,rfl⟩|⟨l,m,rfl,rfl⟩
 .rwa[Rep]at h h';have⟨a,vs,rfl,h2,h3⟩:=h;have⟨b,ws,rfl,W,h3'⟩:=h';cases r;cases r';have⟨J3,rv,pt,_⟩:=I.tuple h2;have⟨its',rv',U,_⟩:=I.tuple W;have n1:J3.length=l.length:=by rw[<- h3.length,rv.length]
  have n2:its'.length=m.length:=by rw[<- h3'.length,rv'.length]
  rwa[pqt,pql];rw[bN,<- n1,<- n2];rwa[cW]at hu;rwa[bM]at hc
  have he:∀j (h1:j<J3.toArray.size)(h2:j<its'.toArray.size),qf3 A.in1 s J3.toArray[j] its'.toArray[j] (aQ l m j):=λj h1 h2=>by
   have h1':j<J3.length:=‹h1›
   have W:j<its'.length:=‹h2›
   have⟨d,v,g1,g2,g3⟩:=aT h3 rv h1';have⟨e,w,Z,g2',g3'⟩:=aT h3' rv' W;have:aQ l m j=peq d e:=by unfold aQ;rw[qc3,qc3,g1,Z];rfl
   rw[this];have:=yI I (deeps l) (A:=A.in1) (cX g1) (show A.units+1+deeps l<cLine by lia) (b7 hc g1 Z) g2 g2' g3 g3';simpa using this
  exact⟨‹qy1.tuples (A:=A) (e:=aQ l m) pt U Θ he›,‹zc0.tuples (A:=A) (e:=aQ l m) pt U Θ he›⟩
 .rwa[Rep]at h h';have⟨a,vs,rfl,h2,h3⟩:=h;have⟨b,ws,rfl,W,h3'⟩:=h';cases r;cases r';have⟨J3,rv,pt,_⟩:=I.list h2;have⟨its',rv',U,_⟩:=I.list W;have n1:J3.length=l.length:=by rw[<- h3.length,rv.length]
  have n2:its'.length=m.length:=by rw[<- h3'.length,rv'.length]
  rwa[pqt,pql];rw[bN,<- n1,<- n2];rwa[cW]at hu;rwa[bM]at hc;by_cases O:J3.length=its'.length
  .have he:∀j (h1:j<J3.toArray.size)(h2:j<its'.toArray.size),qf3 A.in1 s J3.toArray[j] its'.toArray[j] (aQ l m j):=λj h1 h2=>by
    have h1':j<J3.length:=‹h1›
    have W:j<its'.length:=‹h2›
    have⟨d,v,g1,g2,g3⟩:=aT h3 rv h1';have⟨e,w,Z,g2',g3'⟩:=aT h3' rv' W;have:aQ l m j=peq d e:=by unfold aQ;rw[qc3,qc3,g1,Z];rfl
    rw[this];have:=yI I (deeps l) (A:=A.in1) (cX g1) (show A.units+1+deeps l<cLine by lia) (b7 hc g1 Z) g2 g2' g3 g3';simpa using this
   have e1:(J3.length==its'.length)=θ:=‹O›
   rw[e1,qj9,show min J3.length its'.length=J3.length by lia];exact⟨by simpa using qy1.lists (A:=A) (e:=aQ l m) pt.isList U.isList ‹O› Θ he,by simpa using zc0.lists (A:=A) (e:=aQ l m) pt.isList U.isList ‹O› Θ he⟩
  .have e1:(J3.length==its'.length)=ξ:=‹O›
   rw[e1,zd2];exact⟨qy2 pt.isList U.isList ‹O› Θ,zc0.lists_lengths pt.isList U.isList ‹O› Θ⟩
def wp(K:xA9)(O:Bool):R2:=λx y H Q=>∃d e,((∃l m,d=.t l/\e=.t m)\/∃l m,d=.e l/\e=.e m)/\Rep K H d x/\Rep K H e y/\bM d e=θ/\cW d<=60/\Q (.bl (if O then !peq d e else peq d e)) H
theorem Az{k:Nat}(U:Room k X.A)(hK:X.K=K):OpR X (qf1 .Eq) (wp K ξ):=by subst hK;intro J0 s σ H x y v u Q I rx ry h;have⟨d,e,O,Z,he,hc,W,q⟩:=h;have hu:=U.units;exact(yJ I O Θ hc Z he rx ry).1 _ _ _ _ ⟨.bl (peq d e),H,I,rfl,q⟩
theorem AA{k:Nat}(U:Room k X.A)(hK:X.K=K):OpR X (qf1 .NotEq) (wp K θ):=by subst hK;intro J0 s σ H x y v u Q I rx ry h;have⟨d,e,O,Z,he,hc,W,q⟩:=h;have hu:=U.units;exact(yJ I O Θ hc Z he rx ry).2 _ _ _ _ ⟨.bl (!peq d e),H,I,rfl,q⟩
end
end L2
namespace L2
open PySem PySem.Spec
noncomputable abbrev vtl:η Value:=[.type "ValueError",.type "Exception",.type "BaseException",.type "object"]
structure XCl(K:xA9)(C D f:J4):Prop where
 obj:∃dd nm bs ns qn sn sub ab col k0 k1 k2 k3 k5,K.lookup C=ς (excClassObj nm qn C ns bs (.ref D::vtl) θ sn sub ab col dd k0 k1 k2 k3 k5 "ValueError.__new__")
 init:xB9 K (.ref C) "__init__"=ς (ς (.ref f))
 fn:xH9 K (.ref f)=θ
 sa:xB9 K (.ref C) "__setattr__"=ς (ς (.builtin "object.__setattr__"))
 ga:xB9 K (.ref C) "__getattribute__"=ς (ς (.builtin "BaseException.__getattribute__"))
 gn:xB9 K (.ref C) "__getattr__"=ς ψ
 kp:xD9 K (.ref C)=θ
open PySem PySem.Spec PyProof.Rows
def xcP(x C dx:J4)(h:Heap):Prop:=∃o vs,h.get? x=ς o/\o.cls=.ref C/\o.dict=ς dx/\o.data=.fields vs
def xdP(dx:J4)(fs:η (Str×V))(h:Heap):Prop:=∃mA,h.Ns1 dx mA/\(∀f,RelO (fs.lookup f) (mA f))/\PySem.Within mA (fs.map (·.1))
noncomputable abbrev XC(x C dx:J4):HO:=.ext (xcP x C dx)
noncomputable abbrev XD(dx:J4)(fs:η (Str×V)):HO:=.ext (xdP dx fs)
section
variable{P:qe7}{w:J5}{K:xA9}{mg:Str->ζ Value}{base:Heap}{N:η Str}{qual:Str}{scope:J9}{f:J4}{cd:Value}{A:ql5}{outer:η Env}{s s1:qa8}{H H1:Hp}{E:XK}
 {J0:η (J4×Obj)} {σ:ae} {x C dx:J4} {B:Heap}
end
section
variable{X:Cx}{P:qe7}{w:J5}{K:xA9}{mg:Str->ζ Value}{base:Heap}{N:η Str}{qual:Str}{scope:J9}{fa:J4}{cd:Value}{A:ql5}{outer:η Env}{s:qa8}{H:Hp}{E:XK}
 {k:Nat} {f C D:J4} {fd:qn1} {ps ns:η Str} {x:Str} {p pos pos':Pos} {e:J8} {es:η J8} {t:TA}
end
abbrev NT(o:HO):Prop:=∀vs,o≠.t vs
structure Step(F H F' H':Hp):Prop where
 hh:Same H H'
 ff:Same F F'
 fh:Same F' H'
 nw:∀b o,F' b=ς o->F b=ς o\/H b=ψ\/∃vs,H b=ς (.t vs)
section
variable{F H F' H' F1 H1:Hp}{p:J4}{o:HO}
def Step.refl(h:Same F H):Step F H F H:=⟨Same.refl _,Same.refl _,h,λ_ _ e=>.inl e⟩
def Step.trans(a:Step F H F1 H1)(b:Step F1 H1 F' H'):Step F H F' H':=
 ⟨a.hh.trans b.hh,a.ff.trans b.ff,b.fh,λc o e=>by
  rcases b.nw c o e with z|z|⟨vs,z⟩
  .exact a.nw c o z
  .exact .inr (.inl (a.hh.free z))
  .cases q:H c with
   |none=>exact .inr (.inl rfl)
   |some u=>have:=a.hh c u q;rw[z]at this;cases this;exact .inr (.inr ⟨vs,rfl⟩)⟩
def Same.upd(hp:H p=ψ):Same H (upd H p o):=λb u e=>by rw[ai (aI e hp)];exact e
def Step.new(h:Same F H)(hp:H p=ψ):Step F H (upd F p o) (upd H p o) where
 hh:=Same.upd hp
 ff:=Same.upd (h.free hp)
 fh:=λb u e=>by
  by_cases hb:b=p
  .subst hb;rw[af]at e ⊢;exact e
  .rw[ai hb]at e ⊢;exact h _ _ e
 nw:=λb u e=>by
  by_cases hb:b=p
  .subst hb;exact .inr (.inl hp)
  .rw[ai hb]at e;exact .inl e
def Step.made(h:Same F H)(hp:H p=ψ):Step F H F (upd H p o) where
 hh:=Same.upd hp
 ff:=Same.refl _
 fh:=h.trans (Same.upd hp)
 nw:=λb u e=>.inl e
end
noncomputable def yK(K:xA9)(c:Str):ζ J4:=match xE9 K qe8 c with
 |some (ς (.ref C))=>ς C
 |_=>ψ
def RepX(K:xA9)(F:Hp)(c:Str)(l:η (Str×Dt))(v:V):Prop:=∃x C D f dx vs,v=.ref x/\yK K c=ς C/\yK K "DimError"=ς D/\XCl K C D f/\(∀g∈l.map (·.1),NoAttr K C g)∧F x=ς (XC x C dx)/\F dx=ς (XD dx ((l.map (·.1)).zip vs))/\Reps K F (l.map (·.2)) vs
variable{K:xA9}{F':Hp}
theorem RepX.same{F:Hp}{c:Str}{l:η (Str×Dt)}{v:V}(O:Same F F')(h:RepX K F c l v):RepX K F' c l v:=by have⟨x,C,D,f,dx,vs,e,h1,h2,W,h4,U,Z,h7⟩:=h;exact⟨x,C,D,f,dx,vs,e,h1,h2,W,h4,O _ _ U,O _ _ Z,h7.same O⟩
set_option genInjectivity true in
inductive T where
 |f (d:Dt)|e (l:List Dt)|dct (l:List (Key×Dt))|dcT (l:List (List Key×Dt))|fn (a:J4) (F0:Hp)|exc (c:Str) (l:List (Str×Dt))|rse (c:Str) (l:List (Str×Dt))
noncomputable def T.d:T->ζ Dt
 |.f d=>ς d
 |.e l=>ς (.e l)
 |.dct l=>ς (.dct (l.map (·.1)) (l.map (·.2)))
 |.dcT l=>ς (.dcT (l.map (·.1)) (l.map (·.2)))
 |.fn _ _|.exc _ _|.rse _ _=>ψ
noncomputable def T.own:T->Bool
 |.f _|.fn _ _|.exc _ _|.rse _ _=>ξ
 |_=>θ
def Own(K:xA9)(F H:Hp):T->V->(J4->Prop)->Prop
 |.f d,v,_=>Rep K F d v
 |.e l,v,S=>∃a vs,v=.ref a/\S a/\H a=ς (.e vs)/\Reps K F l vs
 |.dct l,v,S=>∃a J1,v=.ref a/\S a/\H a=ς (.dK J1)/\J1.map (·.1)=l.map (·.1)/\Reps K F (l.map (·.2)) (J1.map (·.2))
 |.dcT l,v,S=>∃a J1,v=.ref a/\S a/\H a=ς (.dT J1)/\J1.map (·.1)=l.map (·.1)/\Reps K F (l.map (·.2)) (J1.map (·.2))
 |.fn a F0,v,_=>v=.ref a/\Same F0 F
 |.exc c l,v,_=>RepX K F c l v
 |.rse _ _,_,_=>False
def RepB(K:xA9)(F H:Hp):Dt->V->Prop
 |.e l,v=>∃a vs,v=.ref a/\SqL K H a vs/\Reps K F l vs
 |.dct ks l,v=>∃a J1,v=.ref a/\Rd H a (.dK J1)/\J1.map (·.1)=ks/\Reps K F l (J1.map (·.2))
 |.dcT ks l,v=>∃a J1,v=.ref a/\Rd H a (.dT J1)/\J1.map (·.1)=ks/\Reps K F l (J1.map (·.2))
 |.non,v=>v=.non
 |.bl b,v=>v=.bl b
 |.int i,v=>v=.int i
 |.str x,v=>v=.str x
 |.t l,v=>∃a vs,v=.ref a/\SqT K F a vs/\Reps K F l vs
section
variable{K:xA9}{F H F' H':Hp}{t:T}{v:V}{d:Dt}{S:J4->Prop}
def Own.step(U:Same F F')(Z:∀b o,S b->H b=ς o->H' b=ς o)(h:Own K F H t v S):Own K F' H' t v S:=by
 induction t with
 |f d=>exact Rep.same U h
 |e l=>have⟨a,vs,e,O,h1,h2⟩:=h;exact⟨a,vs,e,O,Z _ _ O h1,h2.same U⟩
 |dct l=>have⟨a,vs,e,O,h1,h2,W⟩:=h;exact⟨a,vs,e,O,Z _ _ O h1,h2,W.same U⟩
 |dcT l=>have⟨a,vs,e,O,h1,h2,W⟩:=h;exact⟨a,vs,e,O,Z _ _ O h1,h2,W.same U⟩
 |fn a F0=>exact⟨h.1,h.2.trans U⟩
 |exc c l=>exact RepX.same U h
 |rse c l=>exact h
def RepB.of(O:Same F H)(h:Rep K F d v):RepB K F H d v:=by
 cases d with
 |e l=>rwa[Rep]at h;have⟨a,vs,e,h1,h2⟩:=h;exact⟨a,vs,e,O.seq h1,h2⟩
 |dct ks l=>rwa[Rep]at h;have⟨a,vs,e,h1,h2⟩:=h;exact⟨a,vs,e,O.rd h1,h2⟩
 |dcT ks l=>rwa[Rep]at h;have⟨a,vs,e,h1,h2⟩:=h;exact⟨a,vs,e,O.rd h1,h2⟩
 |t l=>rwa[Rep]at h;exact h
 |_=>rwa[Rep]at h;exact h
def RepB.rep(O:Same F H)(h:RepB K F H d v):Rep K H d v:=by
 cases d with
 |e l=>have⟨a,vs,e,h1,h2⟩:=h;rwa[Rep];exact⟨a,vs,e,h1,h2.same O⟩
 |dct ks l=>have⟨a,vs,e,h1,h2,U⟩:=h;rwa[Rep];exact⟨a,vs,e,h1,h2,U.same O⟩
 |dcT ks l=>have⟨a,vs,e,h1,h2,U⟩:=h;rwa[Rep];exact⟨a,vs,e,h1,h2,U.same O⟩
 |t l=>have⟨a,vs,e,h1,h2⟩:=h;rwa[Rep];exact⟨a,vs,e,O.tup h1,h2.same O⟩
 |_=>rwa[Rep];exact h
def Own.repB(U:Same F H)(h:Own K F H t v S)(O:t.d=ς d):RepB K F H d v:=by
 cases t with
 |f d=>cases O;exact RepB.of U h
 |e l=>cases O;have⟨a,vs,e,_,h1,h2⟩:=h;exact⟨a,vs,e,SqL.of h1,h2⟩
 |dct l=>cases O;have⟨a,vs,e,_,h1,h2⟩:=h;exact⟨a,vs,e,.inl h1,h2⟩
 |dcT l=>cases O;have⟨a,vs,e,_,h1,h2⟩:=h;exact⟨a,vs,e,.inl h1,h2⟩
 |fn a F0=>cases O
 |exc c l=>cases O
 |rse c l=>cases O
open Classical in
def j0(F H:Hp)(S:J4->Prop):Hp:=λb=>if S b then H b else F b
def gu{b:J4}(h:S b):j0 F H S b=H b:=if_pos h
def et{b:J4}(h:¬ S b):j0 F H S b=F b:=if_neg h
def j6(hs:∀b,S b->F b=ψ):Same F (j0 F H S):=λb o e=>by
 have:¬ S b:=λz=>by rw[hs b z]at e;cases e
 rw[et this];exact e
def oo(O:Same F H):Same (j0 F H S) H:=λb o e=>by
 by_cases h:S b
 .rw[gu h]at e;exact e
 .rw[et h]at e;exact O _ _ e
def Own.freeze(hs:∀b,S b->F b=ψ)(h:Own K F H t v S)(O:t.d=ς d):Rep K (j0 F H S) d v:=by
 have U:=j6 (H:=H) hs;cases t with
 |f d=>cases O;exact Rep.same U h
 |e l=>cases O;have⟨a,vs,e,q,h1,h2⟩:=h;rwa[Rep];exact⟨a,vs,e,SqL.of (by rw[gu q];exact h1),h2.same U⟩
 |dct l=>cases O;have⟨a,vs,e,q,h1,h2,W⟩:=h;rwa[Rep];exact⟨a,vs,e,.inl (by rw[gu q];exact h1),h2,W.same U⟩
 |dcT l=>cases O;have⟨a,vs,e,q,h1,h2,W⟩:=h;rwa[Rep];exact⟨a,vs,e,.inl (by rw[gu q];exact h1),h2,W.same U⟩
 |fn a F0=>cases O
 |exc c l=>cases O
 |rse c l=>cases O
end
abbrev De:=η (ζ T)
variable{a:J4}
section
variable{Φ:Fm}{δ:De}{σ:ae}{F H F' H':Hp}
def aH{α:Type}{l:η (ζ α)}{i j:Nat}{x y:ζ α}(h:(l.set i x)[j]?=ς y):(i=j/\y=x)\/(i≠j/\l[j]?=ς y):=by
 by_cases O:i=j
 .subst O;left;rw[List.getElem?_set]at h;rwa[if_true]at h;split at h
  .cases h;exact⟨rfl,rfl⟩
  .cases h
 .right;rw[gN O]at h;exact⟨O,h⟩
def qb{t:T}{S:J4->Prop}(O:t.own=θ)(h:Own K F H t (.ref a) S):S a:=by
 cases t with
 |f d=>cases O
 |e l=>have⟨b,_,e,q,_⟩:=h;cases e;exact q
 |dct l=>have⟨b,_,e,q,_⟩:=h;cases e;exact q
 |dcT l=>have⟨b,_,e,q,_⟩:=h;cases e;exact q
 |fn b F0=>cases O
 |exc c l=>cases O
 |rse c l=>cases O
end
def KO(K:xA9)(F H:Hp)(t:T)(Q:VK):Prop:=∀v H' F' S,Step F H F' H'->Own K F' H' t v S->(∀b,S b->F' b=ψ/\H b=ψ/\∃o,H' b=ς o/\NT o)->Q v H'
def KL(K:xA9)(F H:Hp)(d:Dt)(Q:VK):Prop:=∀v H' F',Step F H F' H'->Rep K F' d v->Q v H'
section
variable{K:xA9}{F H F1 H1:Hp}{t:T}{d:Dt}{Q:VK}
theorem KO.step(k:KO K F H t Q)(st:Step F H F1 H1):KO K F1 H1 t Q:=λv H' F' S s o O=>k v H' F' S (st.trans s) o λb z=>⟨(O b z).1,st.hh.free (O b z).2.1,(O b z).2.2⟩
def KO.leaf(k:KO K F H (.f d) Q):KL K F H d Q:=λv H' F' st r=>k v H' F' (λ_=>False) st r λ_ z=>z.elim
def KL.here(k:KL K F H d Q)(O:Same F H){v:V}(r:Rep K F d v):Q v H:=k v H F (Step.refl O) r
def KL.to(U:t.d=ς d)(k:KL K F H d Q):KO K F H t Q:=λv H' F' S st o O=>by
 refine k v H' (j0 F' H' S) ⟨st.hh,st.ff.trans (j6 λb z=>(O b z).1),oo st.fh,λb u z=>?_⟩ (o.freeze (λb z=>(O b z).1) U);by_cases hb:S b
 .exact .inr (.inl (O b hb).2.1)
 .rw[et hb]at z;exact st.nw b u z
end
variable{X:Cx}{e:J8}
theorem PE.mono{t t':TE}(h:PE X e t)(m:∀ σ H Q,t' σ H Q->t σ H Q):PE X e t':=λJ0 s σ H Q I q=>h J0 s σ H Q I (m _ _ _ q)
theorem PT.mono{t t':TT}(h:PT X e t)(m:∀ σ H Q,t' σ H Q->t σ H Q):PT X e t':=λJ0 s σ H Q I q=>h J0 s σ H Q I (m _ _ _ q)
theorem PW.mono{t t':TT}(h:PW X e t)(m:∀ σ H Q,t' σ H Q->t σ H Q):PW X e t':=λO J0 s σ H Q I q=>h O J0 s σ H Q I (m _ _ _ q)
theorem PA.mono{e:η J8}{t t':TA}(h:PA X e t)(m:∀ σ H Q,t' σ H Q->t σ H Q):PA X e t':=λpos J0 s σ H Q I q=>h pos J0 s σ H Q I (m _ _ _ q)
variable{tg:J8}
theorem PI.mono{t t':TI}(h:PI X tg e t)(m:∀ σ H Q,t' σ H Q->t σ H Q):PI X tg e t':=λJ0 s σ H Q I q=>h J0 s σ H Q I (m _ _ _ q)
theorem PG.mono{t t':TG}(h:PG X e t)(m:∀v σ H Q,t' v σ H Q->t v σ H Q):PG X e t':=λJ0 s σ H v u Q I r q=>h J0 s σ H v u Q I r (m _ _ _ _ q)
theorem PSBq.mono{e:J6}{t t':TS}(h:PSBq X e t)(m:∀D σ H,t' D σ H->t D σ H):PSBq X e t':=λJ0 s σ H Q I q=>h J0 s σ H Q I (m _ _ _ q)
theorem PSs.mono{e:η J6}{t t':TS}(h:PSs X e t)(m:∀D σ H,t' D σ H->t D σ H):PSs X e t':=λJ0 s σ H Q I q=>h J0 s σ H Q I (m _ _ _ q)
theorem PI.or{t t':TI}(h:PI X tg e t)(h':PI X tg e t'):PI X tg e (λσ H Q=>t σ H Q\/t' σ H Q):=λJ0 s σ H Q I q=>q.elim (h J0 s σ H Q I) (h' J0 s σ H Q I)
variable{l ds:η Dt}{vs:η V}{H:Hp}
section
variable{X:Cx}{e a b c:J8}{f:De->ζ T}{g fa fb fc:De->ζ Dt}{pos:Pos}
noncomputable def kDBq(d:Dt):De->ζ Dt:=λ_=>ς d
def R2D(K:xA9)(r:R2)(g:Dt->Dt->ζ T):Prop:=∀F H x y vx vy (Q:VK) t,Same F H->RepB K F H x vx->RepB K F H y vy->g x y=ς t->KO K F H t Q->r vx vy H Q
noncomputable def iP:Dt->ζ Bool
 |.non=>ς ξ
 |.bl b=>ς b
 |.int i=>ς (i != 0)
 |.str x=>if x.length<=qa4 then ς ((x.length:Int) != 0)else ψ
 |.t l=>ς (!l.isEmpty)
 |.e l=>ς (!l.isEmpty)
 |_=>ψ
def eu{F:Hp}(h:Reps K F l vs):l.isEmpty=vs.isEmpty:=by
 cases l with
 |nil=>unfold Reps at h;rw[h];rfl
 |cons d l=>unfold Reps at h;have⟨v,ws,rfl,_⟩:=h;rfl
def wq{F:Hp}{d:Dt}{v:V}{b:Bool}(O:Same F H)(h:RepB K F H d v)(hb:iP d=ς b):Ad K v H b:=by
 cases d with
 |non=>cases h;cases hb;rfl
 |bl x=>cases h;cases hb;rfl
 |int x=>cases h;cases hb;rfl
 |str x=>
  cases h;rwa[iP]at hb;split at hb
  .cases hb;exact⟨by assumption,rfl⟩
  .cases hb
 |t l=>have⟨a,vs,rfl,h1,h2⟩:=h;cases hb;exact .inr (.inl ⟨vs,O.tup h1,by rw[eu h2]⟩)
 |e l=>have⟨a,vs,rfl,h1,h2⟩:=h;cases hb;exact .inl ⟨vs,h1,by rw[eu h2]⟩
 |dct ks l=>cases hb
 |dcT ks l=>cases hb
variable{ta tb tc:De->ζ Bool}{rest:η J8}
def hJ{F:Hp}{b:Bool}:Rep K F (.bl b) (.bl b):=by rwa[Rep]
def ba{F:Hp}{b:Int}:Rep K F (.int b) (.int b):=by rwa[Rep]
def eC{F:Hp}{b:Str}:Rep K F (.str b) (.str b):=by rwa[Rep]
def oq{F:Hp}:Rep K F .non .non:=by rwa[Rep]
variable{oa ob:De->ζ T}
def lr(K:xA9)(F H:Hp):η Dt->η V->Prop
 |[],vs=>vs=[]
 |d::l,vs=>∃v ws,vs=v::ws/\RepB K F H d v/\lr K F H l ws
variable{es:η J8}{fs:De->ζ (η Dt)}
theorem bZ{F:Hp}{p:J4}{Q:VK}(k:KO K F H (.e ds) Q)(O:Same F H)(r:Reps K F ds vs)(hp:H p=ψ):Q (.ref p) (upd H p (.e vs)):=by
 refine k _ _ F (λb=>b=p) (Step.made O hp) ⟨p,vs,rfl,rfl,af,r⟩ λb z=>?_
 subst z;exact⟨O.free hp,hp,_,af,nofun⟩
def CRD(K:xA9)(r:η V->Hp->VK->Prop)(g:η Dt->ζ T):Prop:=∀F H ds vs (Q:VK) t,Same F H->lr K F H ds vs->g ds=ς t->KO K F H t Q->r vs H Q
variable{x:Str}{p:Pos}{id Ty:String}{sc:J9}{r:η V->Hp->VK->Prop}{gg:η Dt->ζ T}
end
variable{J:It}{xs:η V}
section
variable{X:Cx}{st:J6}{rest a b body:η J6}{g g1 g2:De->ζ Out}{e c tg iter:J8}{pos:Pos}{f:De->ζ T}{fd:De->ζ Dt}{tc:De->ζ Bool}{i:Nat}
def sI(K:xA9)(F':Hp)(J:It)(ds:η Dt)(ok:Hp->Prop):Prop:=∀(i:Nat)(H F:Hp),ok H->Same F H->Same F' F->(i<ds.length->J.go i H)/\(i=ds.length->J.stop i H)/\∀x H',i<ds.length->J.yld i H x H'->∃d F2,ds[i]?=ς d/\Step F H F2 H'/\Rep K F2 d x
def Plain.walk{ok:Hp->Prop}(pl:Plain J xs ok)(r:Reps K F' ds xs):sI K F' J ds ok:=λi H F O fh ff=>by
 have⟨p1,p2,W⟩:=pl i H O;have hl:=r.length;refine⟨λh=>p1 Θ,λh=>p2 Θ,λx H' hi hy=>?_⟩;have⟨rfl,Z⟩:=W x H' Θ hy;have U:ds[i]?=ς ds[i]:=by simp[hi]
 have⟨v,e,rv⟩:=r.get U;rw[Z]at e;cases e;exact⟨_,F,U,Step.refl fh,rv.same ff⟩
end
variable{n:Nat}{σ:ae}{H1:Hp}
section
variable{X:Cx}{st:J6}{rest a b body:η J6}{g g1 g2:De->ζ Out}{e c tg iter l:J8}{pos:Pos}{f:De->ζ T}{fd:De->ζ Dt}{tc:De->ζ Bool}{i:Nat}{fi:De->ζ (η Dt)}
def Reps.same_get{F:Hp}(r:Reps K F ds xs){i:Nat}{x:V}(h:xs[i]?=ς x):∃d,ds[i]?=ς d/\Rep K F d x:=by
 have hl:=r.length;have hi:i<xs.length:=(gX h).1;have O:ds[i]?=ς ds[i]:=by simp[show i<ds.length by lia]
 have⟨v,e,U⟩:=r.get O;rw[h]at e;cases e;exact⟨_,O,U⟩
theorem ou{α:Type}{l:η α}{i:Nat}{d:α}(h:l[i]?=ς d):l.drop i=d::l.drop (i+1):=by have hi:i<l.length:=(gX h).1;rw[qx2 hi];congr 1;have:=(gX h).2;exact this
def sM{g:TG}{tb:TS}{D:Ends}(O:Nat->ae->Hp->Prop)(h0:O 0 σ H1)(Z:∀i σ H,O i σ H->(i<n->J.go i H)/\(i=n->J.stop i H))
 (hs:∀i x σ H H',i<n->O i σ H->J.yld i H x H'->g x σ H' λW H2=>tb {D with nx:=O (i+1),ct:=O (i+1),bk:=D.nx} W H2) (hd:∀ σ H,O n σ H->D.nx σ H):ForW g tb D J σ H1:=by
 refine⟨λi m σ H=>m=n-i/\i<=n/\O i σ H,⟨n,Ξ,qh2 _,h0⟩,?_⟩;rintro i m σ H ⟨rfl,hi,p⟩;have⟨p1,p2⟩:=Z i σ H p;by_cases U:i<n
 .exact .inr ⟨p1 U,O (i+1),λσ' H' p'=>⟨n-(i+1),Θ,rfl,U,p'⟩,λx H' y=>hs i x σ H H' U p y⟩
 .have e:i=n:=by lia
  subst e;exact .inl ⟨p2 rfl,hd σ H p⟩
noncomputable def aB(lo:Int)(n:Nat):η Dt:=(qd8 n).map λ(i:Nat)=>.int (lo+i)
theorem Reps.map{F:Hp}{α:Type}{f:α->Dt}{g:α->V}(h:∀x,Rep K F (f x) (g x)):∀l:η α,Reps K F (l.map f) (l.map g)
 |[]=>by simp[Reps]
 |x::l=>by rwa[qa2,Reps];exact⟨_,_,rfl,h x,Reps.map h l⟩
noncomputable def itD:Dt->ζ (η Dt)
 |.e l=>ς l
 |.t l=>ς l
 |_=>ψ
variable{p:Pos}{sc:J9}{x y:J8}{fs:De->ζ (η Dt)}
end
variable{D:J4}
section
variable{X:Cx}{elt tg iter:J8}{ifs:η J8}{scope:J9}{pos:Pos}{M:η Str}{src:η (ζ Nat)}{fi:De->ζ (η Dt)}{ft:De->ζ Bool}{fe:De->ζ Dt}
def wr{k j:Nat}{v:V}(h1:src[k]?=ς (ς j))(h2:σ[j]?=ς (ς v)):(aK src σ)[k]?=ς (ς v):=by unfold aK;rw[qa6,h1];simp[h2]
def AB{k:Nat}{v:V}(h:(aK src σ)[k]?=ς (ς v)):∃j,src[k]?=ς (ς j)/\σ[j]?=ς (ς v):=by
 unfold aK at h;rw[qa6]at h;cases e:src[k]? with
 |none=>rw[e]at h;cases h
 |some o=>
  rw[e]at h;cases o with
  |none=>cases h
  |some j=>
   rwa[qb0,qa0,qx9]at h;refine⟨j,rfl,?_⟩;cases q:σ[j]? with
   |none=>rw[q]at h;cases h
   |some u=>rw[q]at h;rwa[qp9]at h;rw[h]
theorem qc{g:TG}{tt:TT}{te:TE}{Q:VK}(O:Nat->Hp->Prop)(h0:O 0 (upd H1 D (.e [])))(Z:∀i H,O i H->(i<n->J.go i H)/\(i=n->J.stop i H))
 (hs:∀i x H H',i<n->O i H->J.yld i H x H'->g x (aK src σ) H' λU H2=>Wk (aK src σ) U/\tt U H2 λb H3=>if b=θ then te U H3 λv H4=>∃ys,H4 D=ς (.e ys)/\ys.length<qa4/\O (i+1) (upd H4 D (.e (ys++[v])))else O (i+1) H3)
 (hd:∀H,O n H->Q (.ref D) H):yH src g tt te σ J H1 Q D:=by
 refine⟨λi m H=>m=n-i/\i<=n/\O i H,⟨n,Ξ,qh2 _,h0⟩,?_⟩;rintro i m H ⟨rfl,hi,p⟩;have⟨p1,p2⟩:=Z i H p;by_cases W:i<n
 .exact .inr ⟨p1 W,O (i+1),λH' p'=>⟨n-(i+1),Θ,rfl,W,p'⟩,λx H' y=>hs i x H H' W p y⟩
 .have e:i=n:=by lia
  subst e;exact .inl ⟨p2 rfl,hd H p⟩
end
section
variable{K:xA9}{F H:Hp}{Q:VK}
def KO.int{i:Int}(k:KO K F H (.f (.int i)) Q)(O:Same F H):Q (.int i) H:=k.leaf.here O ba
def KO.bl{i:Bool}(k:KO K F H (.f (.bl i)) Q)(O:Same F H):Q (.bl i) H:=k.leaf.here O hJ
def KO.str{i:Str}(k:KO K F H (.f (.str i)) Q)(O:Same F H):Q (.str i) H:=k.leaf.here O eC
theorem KO.tup{p:J4}(k:KO K F H (.f (.t l)) Q)(O:Same F H)(r:Reps K F l vs)(hp:H p=ψ):Q (.ref p) (upd H p (.t vs)):=by refine k.leaf _ _ _ (Step.new O hp) ?_;rwa[Rep];exact⟨p,vs,rfl,SqT.of af,r.same (Same.upd (O.free hp))⟩
end
noncomputable def b8(i j:Int):Bool:=(decide (-(2^64)<i)&&decide (i<2^64))||(decide (-(2^64)<j)&&decide (j<2^64))
variable{j:Int}
def wt{i:Int}(h:b8 i j=θ):CMul i j:=by unfold b8 at h;rwa[qf2,qa1,decide_eq_true_eq]at h;exact h
theorem eF{i:Int}(h1:-1000000000000000000<i)(h2:i<1000000000000000000):b8 i j=θ:=by unfold b8;rwa[qf2,qa1,decide_eq_true_eq];left;lia
theorem ox{i:Int}(h1:-1000000000000000000<j)(h2:j<1000000000000000000):b8 i j=θ:=by unfold b8;rwa[qf2,qa1,decide_eq_true_eq];right;lia
noncomputable def oy(i j:Int):Bool:=decide (0<=j)&&decide (j<=1000000)&&decide (i.natAbs<2^64)
def wu{i:Int}(h:oy i j=θ):zW i j:=by unfold oy at h;rwa[qa1,decide_eq_true_eq]at h;exact⟨h.1.1,h.1.2,h.2⟩
noncomputable def eG:Dt->Dt->ζ T
 |.int i,.int j=>ς (.f (.int (i+j)))
 |.str a,.str b=>if a.length+b.length<=qa4 then ς (.f (.str (a++b)))else ψ
 |.e l,.e m=>if l.length+m.length<=qa4 then ς (.e (l++m))else ψ
 |.t l,.t m=>if l.length+m.length<=qa4/\l≠[]/\m≠[]then ς (.f (.t (l++m)))else ψ
 |_,_=>ψ
noncomputable def sO:Dt->Dt->ζ T
 |.int i,.int j=>ς (.f (.int (i-j)))
 |_,_=>ψ
def iQ:Dt->Dt->ζ T
 |.int i,.int j=>if b8 i j then ς (.f (.int (i*j)))else ψ
 |_,_=>ψ
noncomputable def cN:Dt->Dt->ζ T
 |.int i,.int j=>if 0<j then ς (.f (.int (i%j)))else ψ
 |_,_=>ψ
def wv:Dt->Dt->ζ T
 |.int i,.int j=>if oy i j then ς (.f (.int (i^j.toNat)))else ψ
 |_,_=>ψ
noncomputable def qd(f:Int->Int->Int):Dt->Dt->ζ T
 |.int i,.int j=>ς (.f (.int (f i j)))
 |_,_=>ψ
noncomputable def qe(f:Int->Int->Bool):Dt->Dt->ζ T
 |.int i,.int j=>ς (.f (.bl (f i j)))
 |_,_=>ψ
variable{x:Dt}{vx:V}
section
variable{X:Cx}
theorem ww:OpR X (qh7 .Add) (λx y H Q=>∃l b xs zs,x=.ref l/\y=.ref b/\SqL X.K H l xs/\SqL X.K H b zs/\xs.length+zs.length<=qa4/\∀p,H p=ψ->Q (.ref p) (upd H p (.e (xs++zs)))):=by
 intro J0 s σ H x y v u Q I rx ry h;have⟨l,b,xs,zs,rfl,rfl,hH,hB,hz,q⟩:=h;cases rx;cases ry;have⟨J3,r,pl,_⟩:=I.list hH;have⟨O,r2,pl2,_⟩:=I.list hB;have⟨⟨cls,dd,data,sl⟩,n,ho,hc,hd0,hd⟩:=pl;have⟨⟨cls2,dd2,data2,sl2⟩,n2,U,W,hd02,Z⟩:=pl2;simp only at hc hd W Z;subst hc hd W Z;have e:J3.toArray++O.toArray=(J3++O).toArray:=by simp
 refine qv9 ⟨_,ho,rfl⟩ ⟨_,U,rfl⟩ noFill_list_add seq_list_add PySem.F.slot_list_add PySem.F.entry_list_add (PySem.F.args_list_add_2 _ _) (list_addW l b J3.toArray O.toArray n n2 dd dd2 sl sl2 (by rw[qb4,qb4,<- r.length,<- r2.length];exact hz)) ⟨ho,U,?_⟩;rw[e];exact⟨.ref _,_,I.lnew (t':=s.toks) (r.append r2) (by rw[qc5];exact hz),rfl,q _ I.fresh⟩
abbrev jl(K:xA9):R2:=λx y H Q=>(rI0 (λi j=>.int (i+j)) x y H Q)\/(∃i j,x=.str i/\y=.str j/\i.length+j.length<=qa4/\Q (.str (i++j)) H)\/(∃l b xs zs,x=.ref l/\y=.ref b/\SqL K H l xs/\SqL K H b zs/\xs.length+zs.length<=qa4/\∀p,H p=ψ->Q (.ref p) (upd H p (.e (xs++zs))))\/yC K x y H Q
def oz:OpR X (qh7 .Add) (jl X.K):=OpR.or zX (OpR.or mI (OpR.or ww v8))
omit x in
def yL:R2D K (jl K) eG:=by
 intro F H x y vx vy Q t U Z W O k;unfold eG at O;rcases O
 .cases O;cases Z;cases W;exact .inl ⟨_,_,rfl,rfl,k.int U⟩
 .split at O
  .cases O;cases Z;cases W;exact .inr (.inl ⟨_,_,rfl,rfl,by assumption,k.str U⟩)
  .cases O
 .split at O
  .rename_i hl;cases O;have⟨a,vs,rfl,h1,h2⟩:=Z;have⟨b,ws,rfl,h3,h4⟩:=W;exact .inr (.inr (.inl ⟨a,b,vs,ws,rfl,rfl,h1,h3,by rw[h2.length,h4.length];exact hl,λp hp=>bZ k U (h2.append h4) hp⟩))
  .cases O
 .split at O
  .rename_i hl;cases O;have⟨a,vs,rfl,h1,h2⟩:=Z;have⟨b,ws,rfl,h3,h4⟩:=W;have⟨hl,n1,n2⟩:=hl;refine .inr (.inr (.inr ⟨a,b,vs,ws,rfl,rfl,U.tup h1,U.tup h3,λz=>?_,by rw[h2.length,h4.length];exact hl,λz=>?_,λ_ p hp=>k.tup U (h2.append h4) hp⟩))
   .subst z;have:=h2.length;exact n1 (qt5 this.symm)
   .subst z;have:=h4.length;exact absurd (qt5 this.symm) n2
  .cases O
def mZ{f:Int->Int->Int}:R2D K (rI0 λi j=>.int (f i j)) (qd f):=by
 intro F H x y vx vy Q t U Z W O k;unfold qd at O;rcases O
 cases O;cases Z;cases W;exact⟨_,_,rfl,rfl,k.int U⟩
def C1:R2D K (rI0 λi j=>.int (i-j)) sO:=by
 intro F H x y vx vy Q t U Z W O k;unfold sO at O;rcases O
 cases O;cases Z;cases W;exact⟨_,_,rfl,rfl,k.int U⟩
def C3:R2D K (gK CMul λi j=>.int (i*j)) iQ:=by
 intro F H x y vx vy Q t U Z W O k;unfold iQ at O;rcases O
 split at O
 .cases O;cases Z;cases W;exact⟨_,_,rfl,rfl,wt (by assumption),k.int U⟩
 .cases O
def C4:R2D K (gK (λ_ j=>0<j) λi j=>.int (i%j)) cN:=by
 intro F H x y vx vy Q t U Z W O k;unfold cN at O;rcases O
 split at O
 .cases O;cases Z;cases W;exact⟨_,_,rfl,rfl,by assumption,k.int U⟩
 .cases O
def C5:R2D K (gK zW λi j=>.int (i^j.toNat)) wv:=by
 intro F H x y vx vy Q t U Z W O k;unfold wv at O;rcases O
 split at O
 .cases O;cases Z;cases W;exact⟨_,_,rfl,rfl,wu (by assumption),k.int U⟩
 .cases O
def yM{f:Int->Int->Bool}:R2D K (rI0 λi j=>.bl (f i j)) (qe f):=by
 intro F H x y vx vy Q t U Z W O k;unfold qe at O;rcases O
 cases O;cases Z;cases W;exact⟨_,_,rfl,rfl,k.bl U⟩
def eqD:Dt->Dt->ζ Bool
 |.non,.non=>ς θ
 |.non,.int _=>ς ξ
 |.non,.bl _=>ς ξ
 |.non,.str _=>ς ξ
 |.int _,.non=>ς ξ
 |.bl _,.non=>ς ξ
 |.str _,.non=>ς ξ
 |.int i,.int j=>ς (decide (i=j))
 |.bl i,.bl j=>ς (decide (i=j))
 |.str i,.str j=>ς (decide (i=j))
 |.int _,.str _=>ς ξ
 |.str _,.int _=>ς ξ
 |.bl _,.str _=>ς ξ
 |.str _,.bl _=>ς ξ
 |.t l,.t m=>if cmpbs l m&&decide (deeps l<=59)then ς (peqs l m)else ψ
 |.e l,.e m=>if cmpbs l m&&decide (deeps l<=59)then ς (peqs l m)else ψ
 |_,_=>ψ
section
variable{i j:Int}{x y:Str}{a b:Bool}
def wx:eqD (.int i) (.int j)=ς (decide (i=j)):=rfl
def eqds:eqD (.str x) (.str y)=ς (decide (x=y)):=rfl
def eqdb:eqD (.bl a) (.bl b)=ς (decide (a=b)):=rfl
def eqdn:eqD .non .non=ς θ:=rfl
def eqdx:eqD (.int i) (.str x)=ς ξ:=rfl
def eqdy:eqD (.str x) (.int i)=ς ξ:=rfl
def eqdz:eqD (.int i) .non=ς ξ:=rfl
def eqdw:eqD (.str x) .non=ς ξ:=rfl
def eqdt{m:η Dt}:eqD (.t l) (.t m)=if cmpbs l m&&decide (deeps l<=59)then ς (peqs l m)else ψ:=rfl
def eqdl{m:η Dt}:eqD (.e l) (.e m)=if cmpbs l m&&decide (deeps l<=59)then ς (peqs l m)else ψ:=rfl
end
def gEq(O:Bool)(x y:Dt):ζ T:=(eqD x y).map λb=>.f (.bl (if O then !b else b))
abbrev rEqA(K:xA9):R2:=λx y H Q=>rEq x y H Q\/wp K ξ x y H Q
abbrev rNeA(K:xA9):R2:=λx y H Q=>rNe x y H Q\/wp K θ x y H Q
def AC{k:Nat}(O:Room k X.A):OpR X (qf1 .Eq) (rEqA X.K):=OpR.or CK (Az O rfl)
def AD{k:Nat}(O:Room k X.A):OpR X (qf1 .NotEq) (rNeA X.K):=OpR.or CL (AA O rfl)
omit x in
def sP {F:Hp} {y:Dt} {O:V} {b:Bool} (Z:Same F H) (W:RepB K F H x vx) (U:RepB K F H y O) (h:eqD x y=ς b) :
  (Ab vx O=θ/\b=decide (vx=O))\/(((∃l m,x=.t l/\y=.t m)\/∃l m,x=.e l/\y=.e m)/\bM x y=θ/\cW x<=60/\b=peq x y):=by
 cases x<;>cases y<;>first
  |(cases h;done)
  |(cases h;cases W;cases U;left;refine⟨rfl,?_⟩;simp;done)
  |skip
 .right
  replace h:(if _ then _ else _)=ς b:=h
  split at h
  .rename_i q;rwa[qa1,decide_eq_true_eq]at q;cases h;exact⟨.inl ⟨_,_,rfl,rfl⟩,by rwa[bM];exact q.1,by rwa[cW];lia,rfl⟩
  .cases h
 .right
  replace h:(if _ then _ else _)=ς b:=h
  split at h
  .rename_i q;rwa[qa1,decide_eq_true_eq]at q;cases h;exact⟨.inr ⟨_,_,rfl,rfl⟩,by rwa[bM];exact q.1,by rwa[cW];lia,rfl⟩
  .cases h
def r_eq:R2D K (rEqA K) (gEq ξ):=by
 intro F H x y vx vy Q t U rx Z O k;unfold gEq at O;have⟨b,hb,O⟩:=qd4.mp O;cases O;have W:Q (.bl b) H:=k.bl U;rcases sP U rx Z hb with ⟨h1,rfl⟩|⟨h1,h2,h3,rfl⟩
 .exact .inl ⟨h1,W⟩
 .exact .inr ⟨x,y,h1,rx.rep U,Z.rep U,h2,h3,W⟩
def r_ne:R2D K (rNeA K) (gEq θ):=by
 intro F H x y vx vy Q t U rx Z O k;unfold gEq at O;have⟨b,hb,O⟩:=qd4.mp O;cases O;have W:Q (.bl (!b)) H:=k.bl U;rcases sP U rx Z hb with ⟨h1,rfl⟩|⟨h1,h2,h3,rfl⟩
 .exact .inl ⟨h1,W⟩
 .exact .inr ⟨x,y,h1,rx.rep U,Z.rep U,h2,h3,W⟩
noncomputable def sQ:Dt->Bool
 |.non=>θ
 |_=>ξ
def gIs(O:Bool)(x y:Dt):ζ T:=match y with
 |.non=>ς (.f (.bl (if O then !sQ x else sQ x)))
 |_=>ψ
def lu{F:Hp}{v:V}(r:RepB K F H x v):sQ x=decide (v=.non):=by
 cases x<;>first
  |(cases r;rfl)
  |(have⟨a,vs,rfl,_⟩:=r;rfl)
  |(rwa[RepB,Rep]at r;have⟨a,C,dx,fs,rfl,_⟩:=r;rfl)
def r_is:R2D K (λx y H Q=>y=.non/\Q (.bl (decide (x=.non))) H) (gIs ξ):=by
 intro F H x y vx vy Q t U Z W O k;cases y<;>first|cases O;done|skip
 cases O;cases W;refine⟨rfl,?_⟩;rw[<- lu Z];exact k.bl U
def wy:R2D K (λx y H Q=>y=.non/\Q (.bl (!decide (x=.non))) H) (gIs θ):=by
 intro F H x y vx vy Q t U Z W O k;cases y<;>first|cases O;done|skip
 cases O;cases W;refine⟨rfl,?_⟩;rw[<- lu Z];exact k.bl U
noncomputable def b9:Dt->Bool
 |.non=>θ
 |.bl _=>θ
 |.int _=>θ
 |.str _=>θ
 |_=>ξ
noncomputable def eqF:Dt->Dt->Bool
 |.non,.non=>θ
 |.bl a,.bl b=>a==b
 |.bl a,.int b=>(if a then 1 else 0)==b
 |.int a,.bl b=>a==(if b then 1 else 0)
 |.int a,.int b=>a==b
 |.str a,.str b=>a==b
 |_,_=>ξ
noncomputable def inS(j i:Str):Bool:=!(qr6 j i 0 j.length 1).isEmpty
def inD:Dt->Dt->ζ Bool
 |.str i,.str j=>ς (inS j i)
 |x,.e l=>if b9 x&&l.all b9 then ς (l.any λy=>eqF y x)else ψ
 |x,.t l=>if b9 x&&l.all b9 then ς (l.any λy=>eqF y x)else ψ
 |_,_=>ψ
def gIn(O:Bool)(x y:Dt):ζ T:=(inD x y).map λb=>.f (.bl (if O then !b else b))
def j7{F:Hp}{d:Dt}{v:V}(r:Rep K F d v)(h:b9 d=θ):dL v=θ:=by
 cases d<;>rwa[Rep]at r<;>first
  |(subst r;rfl)
  |cases h
def AE{F:Hp}{d e:Dt}{v w:V}(r:Rep K F d v)(O:Rep K F' e w)(h:b9 d=θ)(h':b9 e=θ):eqF d e=eqV v w:=by
 cases d<;>first|cases h;done|skip
 all_goals cases e<;>first|cases h';done|skip
 all_goals rwa[Rep]at r O;subst r O;rfl
theorem hU{F:Hp}:∀{l:η Dt}{vs:η V},Reps K F l vs->l.all b9=θ->vs.all dL=θ
 |[],vs,r,_=>by rwa[Reps]at r;subst r;rfl
 |d::l,vs,r,h=>by rwa[Reps]at r;have⟨v,ws,rfl,h1,h2⟩:=r;rw[qc7,qa1]at h ⊢;exact⟨j7 h1 h.1,hU h2 h.2⟩
theorem m5{F:Hp}{w:V}(U:Rep K F' x w)(O:b9 x=θ):∀{l:η Dt}{vs:η V},Reps K F l vs->l.all b9=θ->(l.any λy=>eqF y x)=inV w vs
 |[],vs,r,_=>by rwa[Reps]at r;subst r;rfl
 |d::l,vs,r,h=>by rwa[Reps]at r;have⟨v,ws,rfl,h1,h2⟩:=r;rw[qc7,qa1]at h;unfold inV;rw[ql7,ql7,AE h1 U h.1 O,m5 U O h2 h.2];rfl
abbrev AF(K:xA9)(neg:Bool):R2:=λx y H Q=>(∃i j,x=.str i/\y=.str j/\Q (.bl (if neg then !inS j i else inS j i)) H)\/rIn K neg x y H Q
def AG:OpR X (qf1 .In) (AF X.K ξ):=OpR.or pQ pZ
def qf:OpR X (qf1 .NotIn) (AF X.K θ):=OpR.or jS jR
omit x in
def r_in(U:Bool):R2D K (AF K U) (gIn U):=by
 intro F H x y vx vy Q t fh rx ry Z k;unfold gIn at Z;have⟨b,hb,Z⟩:=qd4.mp Z;cases Z;have W:=k.bl fh;unfold inD at hb;rcases hb
 .cases hb;cases rx;cases ry;exact .inl ⟨_,_,rfl,rfl,W⟩
 .split at hb
  .rename_i q;rw[qa1]at q;cases hb;have⟨a,vs,rfl,h1,h2⟩:=ry;have O:=rx.rep fh;rw[m5 O q.1 h2 q.2]at W;exact .inr ⟨a,vs,rfl,.inl h1,j7 O q.1,hU h2 q.2,W⟩
  .cases hb
 .split at hb
  .rename_i q;rw[qa1]at q;cases hb;have⟨a,vs,rfl,h1,h2⟩:=ry;have O:=rx.rep fh;rw[m5 O q.1 h2 q.2]at W;exact .inr ⟨a,vs,rfl,.inr (fh.tup h1),j7 O q.1,hU h2 q.2,W⟩
  .cases hb
theorem lw{F:Hp}{i:Int}{d:Dt}(r:Reps K F l vs)(h:atI l i=ς d):∃v,atI vs i=ς v/\Rep K F d v:=by unfold atI at h ⊢;rw[r.length];have⟨j,U,h⟩:=qk0.mp h;have⟨v,e,O⟩:=r.get h;exact⟨v,by rw[U];exact e,O⟩
def gIx:Dt->Dt->ζ T
 |.e l,.int i=>(atI l i).map .f
 |.t l,.int i=>(atI l i).map .f
 |.str x,.int i=>if x.length<=qa4 then(atI x.cps.toList i).map λc=>.f (.str ⟨#[c]⟩)else ψ
 |_,_=>ψ
omit x in
def r_ix:R2D K (rIx K) gIx:=by
 intro F H x y vx vy Q t U rx ry O k;unfold gIx at O;rcases O
 .have⟨d,Z,O⟩:=qd4.mp O;cases O;cases ry;have⟨a,vs,rfl,h1,h2⟩:=rx;have⟨v,e,W⟩:=lw h2 Z;exact .inl ⟨a,vs,_,v,rfl,rfl,h1,e,k.leaf.here U W⟩
 .have⟨d,Z,O⟩:=qd4.mp O;cases O;cases ry;have⟨a,vs,rfl,h1,h2⟩:=rx;have⟨v,e,W⟩:=lw h2 Z;exact .inr (.inl ⟨a,vs,_,v,rfl,rfl,U.tup h1,e,k.leaf.here U W⟩)
 .split at O
  .rename_i hl;have⟨c,hc,O⟩:=qd4.mp O;cases O;cases rx;cases ry;exact .inr (.inr ⟨_,_,c,rfl,rfl,hl,hc,k.str U⟩)
  .cases O
variable{a b c:J8}{fa fb fc:De->ζ Dt}{pos:Pos}
noncomputable def fF(l:η Dt)(lo hi:ζ Int):η Dt:=(l.drop (HT.sIx l.length 0 lo)).take (HT.sIx l.length l.length hi-HT.sIx l.length 0 lo)
def gSl:Dt->ζ Int->ζ Int->ζ T
 |.str x,lo,hi=>if x.length<=qa4 then ς (.f (.str (Txt.slice x lo hi)))else ψ
 |.e l,lo,hi=>ς (.e (fF l lo hi))
 |.t l,lo,hi=>if HT.sIx l.length 0 lo=0/\HT.sIx l.length l.length hi=l.length then ψ else ς (.f (.t (fF l lo hi)))
 |_,_,_=>ψ
abbrev rSlA(K:xA9):V->ζ Int->ζ Int->Hp->VK->Prop:=λx lo hi H Q=>rSlS x lo hi H Q\/rSlL K x lo hi H Q\/rSlT K x lo hi H Q
def AH:SlR X (rSlA X.K):=SlR.or Aw (SlR.or wb Ak)
theorem lx{F:Hp}(r:Reps K F l vs)(lo hi:ζ Int):Reps K F (fF l lo hi) (lj vs lo hi):=by unfold fF lj;rw[r.length];exact(r.drop _).take _
omit x in
theorem r_sl{F:Hp}{v:V}{lo hi:ζ Int}{Q:VK}{t:T}(U:Same F H)(W:RepB K F H x v)(O:gSl x lo hi=ς t)(k:KO K F H t Q):rSlA K v lo hi H Q:=by
 unfold gSl at O;rcases O
 .split at O
  .cases O;cases W;exact .inl ⟨_,rfl,by assumption,k.str U⟩
  .cases O
 .have⟨a,vs,rfl,h1,h2⟩:=W;cases O;exact .inr (.inl ⟨a,vs,rfl,h1,λp hp=>bZ k U (lx h2 _ _) hp⟩)
 .have⟨a,vs,rfl,h1,h2⟩:=W;split at O
  .cases O
  .rename_i Z;cases O;rw[<- h2.length]at Z;exact .inr (.inr ⟨a,vs,rfl,U.tup h1,Z,λp hp=>k.tup U (lx h2 _ _) hp⟩)
noncomputable def asI:Dt->ζ Int
 |.int i=>ς i
 |_=>ψ
noncomputable def hZ:η Dt->ζ T
 |[.str x]=>if x.length<=qa4 then ς (.f (.int x.length))else ψ
 |[.t l]=>ς (.f (.int l.length))
 |[.e l]=>ς (.f (.int l.length))
 |_=>ψ
def bu{F:Hp}{d:Dt}(r:lr K F H [d] vs):∃v,vs=[v]/\RepB K F H d v:=by have⟨v,ws,rfl,h1,h2⟩:=r;cases h2;exact⟨v,rfl,h1⟩
omit x in
def C6:CRD K (λxs H Q=>∃x n,xs=[x]/\LenV K x H n/\Q (.int n) H) hZ:=by
 intro F H ds vs Q t W r O k;unfold hZ at O;rcases O
 .split at O
  .rename_i hl;cases O;have⟨v,rfl,U⟩:=bu r;cases U;exact⟨_,_,rfl,⟨hl,rfl⟩,k.int W⟩
  .cases O
 .cases O;have⟨v,rfl,U⟩:=bu r;have⟨a,vs,rfl,h1,h2⟩:=U;rw[<- h2.length]at k;exact⟨_,_,rfl,.inr ⟨vs,W.tup h1,rfl⟩,k.int W⟩
 .cases O;have⟨v,rfl,U⟩:=bu r;have⟨a,vs,rfl,h1,h2⟩:=U;rw[<- h2.length]at k;exact⟨_,_,rfl,.inl ⟨vs,h1,rfl⟩,k.int W⟩
noncomputable def wz:η Dt->ζ T
 |[.int i]=>ς (.f (.int i))
 |[.bl b]=>ς (.f (.int (if b then 1 else 0)))
 |[.str x]=>(PySem.intText? x).bind λn=>if x.length<=640 then ς (.f (.int n))else ψ
 |_=>ψ
abbrev yN:η V->Hp->VK->Prop:=λxs H Q=>((∃i,xs=[.int i]/\Q (.int i) H)\/∃k,xs=[.bl k]/\Q (.int (if k then 1 else 0)) H)\/∃x n,xs=[.str x]/\PySem.intText? x=ς n/\x.length<=640/\Q (.int n) H
def qg:CallR X (.type "int") yN:=CallR.or pS jV
def C7:CRD K yN wz:=by
 intro F H ds vs Q t W r O k;unfold wz at O;rcases O
 .cases O;have⟨v,rfl,U⟩:=bu r;cases U;exact .inl (.inl ⟨_,rfl,k.int W⟩)
 .cases O;have⟨v,rfl,U⟩:=bu r;cases U;exact .inl (.inr ⟨_,rfl,k.int W⟩)
 .have⟨n,Z,O⟩:=qk0.mp O;split at O
  .cases O;have⟨v,rfl,U⟩:=bu r;cases U;exact .inr ⟨_,n,rfl,Z,by assumption,k.int W⟩
  .cases O
noncomputable def m6:η Dt->ζ T
 |[.e l]=>ς (.f (.t l))
 |[.t l]=>ς (.f (.t l))
 |_=>ψ
omit x in
theorem wA:CRD K (λxs H Q=>∃p ys,xs=[.ref p]/\((SqL K H p ys/\∀l,H l=ψ->Q (.ref l) (upd H l (.t ys)))\/(SqT K H p ys/\Q (.ref p) H))) m6:=by
 intro F H ds vs Q t Z r O k;unfold m6 at O;rcases O
 .cases O;have⟨v,rfl,U⟩:=bu r;have⟨a,vs,rfl,h1,h2⟩:=U;exact⟨a,vs,rfl,.inl ⟨h1,λp hp=>k.tup Z h2 hp⟩⟩
 .cases O;have⟨v,rfl,U⟩:=bu r;rename_i l;have W:Rep K F (.t l) v:=by rwa[Rep];exact U
  have⟨a,vs,rfl,h1,h2⟩:=U;exact⟨a,vs,rfl,.inr ⟨Z.tup h1,k.leaf.here Z W⟩⟩
noncomputable def sR:η Dt->ζ T
 |[.e l]=>ς (.e l)
 |[.t l]=>ς (.e l)
 |_=>ψ
theorem AI:CRD K (λxs H Q=>∃p ys,xs=[.ref p]/\(SqL K H p ys\/SqT K H p ys)/\∀l,H l=ψ->Q (.ref l) (upd H l (.e ys))) sR:=by
 intro F H ds vs Q t U r O k;unfold sR at O;rcases O
 .cases O;have⟨v,rfl,W⟩:=bu r;have⟨a,vs,rfl,h1,h2⟩:=W;exact⟨a,vs,rfl,.inl h1,λp hp=>bZ k U h2 hp⟩
 .cases O;have⟨v,rfl,W⟩:=bu r;have⟨a,vs,rfl,h1,h2⟩:=W;exact⟨a,vs,rfl,.inr (U.tup h1),λp hp=>bZ k U h2 hp⟩
end
set_option genInjectivity true in
inductive CV where
 |g (d:Dt)|ref (i:Nat)|fn (a:J4) (F0:Hp)
 |own (b:Bool) (t:T)
set_option genInjectivity true in
inductive CO where
 |e (l:List CV)|t (l:List CV)|dK (l:List (Key×CV))|dT (l:List (List Key×CV))|ins (c:Nat) (l:List CV)
abbrev CH:=η CO
abbrev Sl:=η (ζ CV)
structure Gx where
 K:xA9
 ct:List (Str×List Str)
def ClsAt(K:xA9)(c:Str)(C:J4):Prop:=xE9 K qe8 c=ς (ς (.ref C))
section
variable(G:Gx)(F H:Hp)(ρ:Nat->J4)(n:Nat)
def RelS:CV->V->Prop
 |.g d,v=>Rep G.K F d v
 |.ref i,v=>i<n/\v=.ref (ρ i)
 |.fn a F0,v=>v=.ref a/\Same F0 F
 |.own _ _,_=>False
abbrev RelSs:η CV->η V->Prop:=Paired (RelS G F ρ n)
def RelW(t:T)(v:V):Prop:=∃a,v=.ref a/\t.own=θ/\Own G.K F H t v (· = a)/\F a=ψ/\∀i,i<n->ρ i≠a
def RelC:CV->V->Prop
 |.own _ t,v=>RelW G F H ρ n t v
 |c,v=>RelS G F ρ n c v
abbrev RelCs:η CV->η V->Prop:=Paired (RelC G F H ρ n)
def CoOk(a:J4):CO->Prop
 |.e l=>∃vs,H a=ς (.e vs)/\RelSs G F ρ n l vs
 |.t l=>∃vs,H a=ς (.t vs)/\RelSs G F ρ n l vs
 |.dK l=>(l.map (·.1)).Nodup/\∃J1,H a=ς (.dK J1)/\J1.map (·.1)=l.map (·.1)/\RelSs G F ρ n (l.map (·.2)) (J1.map (·.2))
 |.dT l=>(l.map (·.1)).Nodup/\∃J1,H a=ς (.dT J1)/\J1.map (·.1)=l.map (·.1)/\RelSs G F ρ n (l.map (·.2)) (J1.map (·.2))
 |.ins c l=>∃p C dx fs,G.ct[c]?=ς p/\ClsAt G.K p.1 C/\H a=ς (.ins C dx fs)/\fs.map (·.1)=p.2.take l.length/\RelSs G F ρ n l (fs.map (·.2))
end
section
variable{G:Gx}{F H F' H' F1 H1:Hp}{ρ ρ' ρ1:Nat->J4}{n n':Nat}{c:CV}{v:V}{l m:η CV}{vs ws:η V}
theorem Paired.get{α β:Type}{R:α->β->Prop}:∀{l:η α}{m:η β}{i:Nat}{a:α},Paired R l m->l[i]?=ς a->∃b,m[i]?=ς b/\R a b
 |_,_,_,_,.nil,e=>by simp at e
 |_,_,0,_,.cons r _,e=>by simp at e;subst e;exact⟨_,rfl,r⟩
 |_,_,i+1,a,.cons _ t,e=>by have⟨b,h1,h2⟩:=Paired.get (i:=i) (a:=a) t ‹e›;exact⟨b,‹h1›,h2⟩
theorem Paired.set{α β:Type}{R:α->β->Prop}{a:α}{b:β}(r:R a b):∀{l:η α}{m:η β}(i:Nat),Paired R l m->Paired R (l.set i a) (m.set i b)
 |_,_,_,.nil=>.nil
 |_,_,0,.cons _ t=>.cons r t
 |_,_,i+1,.cons q t=>.cons q (Paired.set r i t)
theorem Paired.app{α β:Type}{R:α->β->Prop}:∀{l U:η α}{m O:η β},Paired R l m->Paired R U O->Paired R (l++U) (m++O)
 |_,_,_,_,.nil,s=>s
 |_,_,_,_,.cons r t,s=>.cons r (Paired.app t s)
def RelS.mono(O:Same F F')(W:∀i,i<n->ρ' i=ρ i)(U:n<=n')(h:RelS G F ρ n c v):RelS G F' ρ' n' c v:=by
 cases c with
 |g d=>exact Rep.same O h
 |ref i=>exact⟨qc6 h.1 U,by rw[W i h.1];exact h.2⟩
 |fn a F0=>exact⟨h.1,h.2.trans O⟩
 |own b t=>exact h.elim
theorem RelSs.mono(O:Same F F')(W:∀i,i<n->ρ' i=ρ i)(U:n<=n')(h:RelSs G F ρ n l vs):RelSs G F' ρ' n' l vs:=Paired.mapP h λ_ _ r=>r.mono O W U
def RelS.toC(h:RelS G F ρ n c v):RelC G F H ρ n c v:=by cases c<;>first|exact h|exact h.elim
noncomputable def CV.sol:CV->Bool
 |.own _ _=>ξ
 |_=>θ
def RelC.s(hs:c.sol=θ)(h:RelC G F H ρ n c v):RelS G F ρ n c v:=by cases c<;>first|exact h|cases hs
theorem RelCs.s:∀{l:η CV}{vs:η V},l.all CV.sol=θ->RelCs G F H ρ n l vs->RelSs G F ρ n l vs
 |_,_,_,.nil=>.nil
 |_,_,h,.cons r t=>by rwa[qc7,qa1]at h;exact .cons (r.s h.1) (RelCs.s h.2 t)
def RelSs.length(h:RelSs G F ρ n l vs):vs.length=l.length:=(Paired.length h).symm
theorem RelSs.dats:∀{l:η Dt}{vs:η V},Reps G.K F l vs->RelSs G F ρ n (l.map .g) vs
 |[],vs,h=>by rwa[Reps]at h;subst h;exact .nil
 |d::l,vs,h=>by rwa[Reps]at h;have⟨v,ws,rfl,h1,h2⟩:=h;exact .cons h1 (RelSs.dats h2)
noncomputable def dats:η CV->ζ (η Dt)
 |[]=>ς []
 |.g d::l=>(dats l).map (d::·)
 |_=>ψ
theorem bO:∀l:η Dt,dats (l.map .g)=ς l
 |[]=>rfl
 |d::l=>by simp[dats,bO l]
theorem cw:∀{l:η CV}{ds:η Dt},dats l=ς ds->l=ds.map .g
 |[],ds,h=>by cases h;rfl
 |.g d::l,ds,h=>by rwa[dats,qd4]at h;have⟨es,h1,rfl⟩:=h;rw[cw h1];rfl
 |.ref _::_,_,h=>by simp[dats]at h
 |.fn _ _::_,_,h=>by simp[dats]at h
 |.own _ _::_,_,h=>by simp[dats]at h
theorem oA:∀{ds:η Dt}{vs:η V},RelSs G F ρ n (ds.map .g) vs->Reps G.K F ds vs
 |[],_,.nil=>by rwa[Reps]
 |d::ds,_,.cons r t=>by rwa[Reps];exact⟨_,_,rfl,r,oA t⟩
def aU(h:dats l=ς ds)(r:RelSs G F ρ n l vs):Reps G.K F ds vs:=by rw[cw h]at r;exact oA r
theorem CoOk.mono{o:CO}(W:Same F F')(he:∀i,i<n->ρ' i=ρ i)(Z:n<=n')(O:∀u,H a=ς u->H' a=ς u)(h:CoOk G F H ρ n a o):CoOk G F' H' ρ' n' a o:=by
 cases o with
 |e l=>have⟨vs,h1,h2⟩:=h;exact⟨vs,O _ h1,h2.mono W he Z⟩
 |t l=>have⟨vs,h1,h2⟩:=h;exact⟨vs,O _ h1,h2.mono W he Z⟩
 |dK l=>have⟨nd,vs,h1,h2,U⟩:=h;exact⟨nd,vs,O _ h1,h2,U.mono W he Z⟩
 |dT l=>have⟨nd,vs,h1,h2,U⟩:=h;exact⟨nd,vs,O _ h1,h2,U.mono W he Z⟩
 |ins c l=>have⟨p,C,dx,fs,hp,h0,h1,h2,U⟩:=h;exact⟨p,C,dx,fs,hp,h0,O _ h1,h2,U.mono W he Z⟩
def CoOk.there{o:CO}(h:CoOk G F H ρ n a o):∃u,H a=ς u:=by
 cases o with
 |e l=>have⟨vs,h1,h2⟩:=h;exact⟨_,h1⟩
 |t l=>have⟨vs,h1,h2⟩:=h;exact⟨_,h1⟩
 |dK l=>have⟨O,vs,h1,h2⟩:=h;exact⟨_,h1⟩
 |dT l=>have⟨O,vs,h1,h2⟩:=h;exact⟨_,h1⟩
 |ins c l=>have⟨p,C,dx,fs,hp,U,h1,h2⟩:=h;exact⟨_,h1⟩
end
def CO.live:CO->Prop
 |.t _=>False
 |_=>True
structure Gh(G:Gx)(F H:Hp)(ρ:Nat->J4)(ch:CH):Prop where
 fh:Same F H
 inj:∀i j,i<ch.length->j<ch.length->ρ i=ρ j->i=j
 out:∀i o,ch[i]?=ς o->o.live->F (ρ i)=ψ
 ok:∀i o,ch[i]?=ς o->CoOk G F H ρ ch.length (ρ i) o
structure Adv(G:Gx)(F H:Hp)(ρ:Nat->J4)(ch:CH)(F' H':Hp)(ρ':Nat->J4)(ch':CH):Prop where
 gh:Gh G F' H' ρ' ch'
 len:ch.length<=ch'.length
 ext:∀i,i<ch.length->ρ' i=ρ i
 fr:∀i,ch.length<=i->i<ch'.length->H (ρ' i)=ψ
 prot:∀b o,H b=ς o->(∀i,i<ch.length->ρ i≠b)->H' b=ς o
 old:Same F F'
 nw:∀b o,F' b=ς o->F b=ς o\/H b=ψ\/∃vs,o=.t vs
 hs:∀b,H' b=ψ->H b=ψ
variable{u:HO}
section
variable{G:Gx}{F H F' H' F1 H1:Hp}{ρ ρ' ρ1:Nat->J4}{ch ch' ch1:CH}{c:CV}{v:V}
def Gh.at(g:Gh G F H ρ ch){i:Nat}(hi:i<ch.length):∃u,H (ρ i)=ς u:=(g.ok i ch[i] (by simp[hi])).there
theorem Adv.refl(g:Gh G F H ρ ch):Adv G F H ρ ch F H ρ ch:=⟨g,nL _,λ_ _=>rfl,λi h1 h2=>absurd h2 (qn7.mpr h1),λ_ _ h _=>h,Same.refl _,λ_ _ h=>.inl h,λ_ h=>h⟩
def Adv.trans(a:Adv G F H ρ ch F1 H1 ρ1 ch1)(b:Adv G F1 H1 ρ1 ch1 F' H' ρ' ch'):Adv G F H ρ ch F' H' ρ' ch' where
 gh:=b.gh
 len:=qd2 a.len b.len
 ext:=λi hi=>(b.ext i (qc6 hi a.len)).trans (a.ext i hi)
 fr:=λi h1 h2=>by
  by_cases hi:i<ch1.length
  .rw[b.ext i hi];exact a.fr i h1 hi
  .exact a.hs _ (b.fr i (qn7.mp hi) h2)
 prot:=λx o h1 h2=>b.prot x o (a.prot x o h1 h2) λi hi e=>by
  by_cases O:i<ch.length
  .rw[a.ext i O]at e;exact h2 i O e
  .have:=a.fr i (qn7.mp O) hi;rw[e,h1]at this;cases this
 old:=a.old.trans b.old
 nw:=λx o h=>(b.nw x o h).elim (a.nw x o) λz=>.inr (z.imp_left (a.hs x))
 hs:=λx h=>a.hs x (b.hs x h)
def jm(h:Same H H')(b:J4)(e:H' b=ψ):H b=ψ:=h.free e
def Gh.of(g:Gh G F H ρ ch)(st:Step F H F' H'):Gh G F' H' ρ ch:=by
 refine⟨st.fh,g.inj,λi o hi hl=>?_,λi o h=>(g.ok i o h).mono st.ff (λ_ _=>rfl) (nL _) λu U=>st.hh _ _ U⟩;cases q:F' (ρ i)with
 |none=>rfl
 |some u=>
  have O:=g.ok i o hi;rcases st.nw _ _ q with z|z|⟨vs,z⟩
  .rw[g.out i o hi hl]at z;cases z
  .have⟨u,U⟩:=O.there;rw[U]at z;cases z
  .cases o with
   |e l=>have⟨vs,h1,_⟩:=O;rw[h1]at z;cases z
   |t l=>exact hl.elim
   |dK l=>have⟨W,vs,h1,_⟩:=O;rw[h1]at z;cases z
   |dT l=>have⟨W,vs,h1,_⟩:=O;rw[h1]at z;cases z
   |ins c l=>have⟨p,C,dx,fs,hp,Z,h1,_⟩:=O;rw[h1]at z;cases z
theorem oB(st:Step F H F' H')(b:J4)(o:HO)(h:F' b=ς o):F b=ς o\/H b=ψ\/∃vs,o=.t vs:=(st.nw b o h).imp_right λz=>z.imp_right λO=>by have⟨vs,z⟩:=O;exact⟨vs,qc9 ((st.fh b o h).symm.trans (st.hh b _ z))⟩
theorem Adv.of(g:Gh G F H ρ ch)(st:Step F H F' H'):Adv G F H ρ ch F' H' ρ ch:=⟨g.of st,nL _,λ_ _=>rfl,λi h1 h2=>absurd h2 (qn7.mpr h1),λb o h _=>st.hh b o h,st.ff,oB st,jm st.hh⟩
def ak{α:Type}{l:η α}{i:Nat}{x:α}(h:l[i]?=ς x):i<l.length:=(gX h).1
theorem Adv.put(g:Gh G F H ρ ch){i:Nat}{o w:CO}(U:ch[i]?=ς w)(hl:w.live)(ho:CoOk G F (upd H (ρ i) u) ρ ch.length (ρ i) o):Adv G F H ρ ch F (upd H (ρ i) u) ρ (ch.set i o) where
 gh:=⟨λb x e=>by
     rw[ai λq=>by rw[q,g.out i w U hl]at e;cases e];exact g.fh b x e,λj k hj Z=>g.inj j k ‹hj› ‹Z›,λj x O W=>by
     by_cases q:i=j
     .subst q;exact g.out i w U hl
     .rw[gN q]at O;exact g.out j x O W,λj x O=>by
     rw[qu8];by_cases q:i=j
     .subst q;rw[qe5 (ak U)]at O;cases O;exact ho
     .rw[gN q]at O;refine(g.ok j x O).mono (Same.refl _) (λ_ _=>rfl) (nL _) λy hy=>?_
      rw[ai λe=>q (g.inj j i (ak O) (ak U) e).symm];exact hy⟩
 len:=by simp
 ext:=λ_ _=>rfl
 fr:=λj h1 h2=>absurd h2 ‹h1›
 prot:=λb x h1 h2=>by rw[ai λe=>h2 i (ak U) e.symm];exact h1
 old:=Same.refl _
 nw:=λ_ _ h=>.inl h
 hs:=λb h=>by
  by_cases e:b=ρ i
  .subst e;rw[af]at h;cases h
  .rw[ai e]at h;assumption
theorem Adv.new (g:Gh G F H ρ ch) (st:Step F H F' H') {o:CO} (ha:H a=ψ) (hf:F' a=ψ) (ho:CoOk G F' H' (λi=>if i=ch.length then a else ρ i) (ch.length+1) a o) :
  Adv G F H ρ ch F' H' (λi=>if i=ch.length then a else ρ i) (ch++[o]):=by
 have g':=(Adv.of g st).gh;have lt:∀{i:Nat},i<ch.length->(if i=ch.length then a else ρ i)=ρ i:=λ{i} hi=>if_neg (qc2 hi)
 have ne:∀{i:Nat},i<ch.length->ρ i≠a:=λ{i} hi e=>by have⟨u,W⟩:=g.at hi;rw[e,ha]at W;cases W
 have U:∀i x,(ch++[o])[i]?=ς x->(i<ch.length/\ch[i]?=ς x)\/(i=ch.length/\x=o):=λi x O=>by
  by_cases h1:i<ch.length
  .rw[gL h1]at O;exact .inl ⟨h1,O⟩
  .rw[gR (qn7.mp h1)]at O;have h2:i=ch.length:=by have:=ak O;simp at this;lia
   subst h2;simp at O;exact .inr ⟨rfl,O.symm⟩
 refine⟨⟨st.fh,λi j hi Z e=>?_,λi x O hl=>?_,λi x O=>?_⟩,Ξ,λi hi=>lt hi,λi h1 h2=>?_,λb x h1 _=>st.hh b x h1,st.ff,oB st,jm st.hh⟩
 .rwa[qc5,qb6,qg6]at hi Z;by_cases h1:i=ch.length<;>by_cases h2:j=ch.length
  .rw[h1,h2]
  .rw[if_pos h1,if_neg h2]at e;exact absurd e.symm (ne Θ)
  .rw[if_neg h1,if_pos h2]at e;exact absurd e (ne Θ)
  .rw[if_neg h1,if_neg h2]at e;exact g.inj i j Θ Θ e
 .rcases U i x O with ⟨h1,h2⟩|⟨h1,h2⟩
  .rw[lt h1];exact g'.out i x h2 hl
  .rw[if_pos h1];exact hf
 .rwa[qc5,qb6,qg6];rcases U i x O with ⟨h1,h2⟩|⟨h1,h2⟩
  .rw[lt h1];exact(g'.ok i x h2).mono (Same.refl _) (λj Z=>lt Z) (qi5 _) λu W=>W
  .subst h1;subst h2;rw[if_pos rfl];exact ho
 .rwa[qc5,qb6,qg6]at h2;have h3:i=ch.length:=by lia
  rw[if_pos h3];exact ha
def RelW.adv{t:T}(a:Adv G F H ρ ch F' H' ρ' ch')(h:RelW G F H ρ ch.length t v):RelW G F' H' ρ' ch'.length t v:=by
 have⟨x,rfl,Z,O,hF,hp⟩:=h;have W:∀o,H x=ς o->H' x=ς o:=λo e=>a.prot x o e hp
 have hs:∃o,H x=ς o/\NT o:=by
  cases t<;>try(cases Z;done)
  .have⟨b,vs,e,rfl,h1,_⟩:=O;exact⟨_,h1,by intro _ z;cases z⟩
  .have⟨b,vs,e,rfl,h1,_⟩:=O;exact⟨_,h1,by intro _ z;cases z⟩
  .have⟨b,vs,e,rfl,h1,_⟩:=O;exact⟨_,h1,by intro _ z;cases z⟩
 have⟨o,h1,nt⟩:=hs;refine⟨x,rfl,Z,Own.step a.old (λb o e h=>by cases e;exact W o h) O,?_,λi hi e=>?_⟩
 .cases q:F' x with
  |none=>rfl
  |some w=>
   rcases a.nw x w q with z|z|⟨vs,z⟩
   .rw[hF]at z;cases z
   .rw[h1]at z;cases z
   .have y:=a.gh.fh x w q;rw[W o h1]at y;cases y
    exact absurd z (nt vs)
 .by_cases U:i<ch.length
  .rw[a.ext i U]at e;exact hp i U e
  .have:=a.fr i (qn7.mp U) hi;rw[e,h1]at this;cases this
theorem RelS.adv(a:Adv G F H ρ ch F' H' ρ' ch')(h:RelS G F ρ ch.length c v):RelS G F' ρ' ch'.length c v:=h.mono a.old (λi hi=>a.ext i hi) a.len
def RelC.adv(a:Adv G F H ρ ch F' H' ρ' ch')(h:RelC G F H ρ ch.length c v):RelC G F' H' ρ' ch'.length c v:=by
 cases c with
 |own b t=>exact RelW.adv a h
 |g d=>exact RelS.adv (c:=.g d) a h
 |ref i=>exact RelS.adv (c:=.ref i) a h
 |fn x F0=>exact RelS.adv (c:=.fn x F0) a h
theorem RelCs.adv{l:η CV}(a:Adv G F H ρ ch F' H' ρ' ch')(h:RelCs G F H ρ ch.length l vs):RelCs G F' H' ρ' ch'.length l vs:=Paired.mapP h λ_ _ r=>r.adv a
end
structure Fr0 where
 F:Hp
 H:Hp
 ρ:Nat->J4
 ch:CH
structure Ge(G:Gx)(Φ:Fr0)(δ:Sl)(ch:CH)(σ:ae)(F H:Hp)(ρ:Nat->J4):Prop where
 ad:Adv G Φ.F Φ.H Φ.ρ Φ.ch F H ρ ch
 len:δ.length=σ.length
 has:∀(i:Nat)(c:CV),δ[i]?=ς (ς c)->∃v,σ[i]?=ς (ς v)/\RelC G F H ρ ch.length c v
 nw:∀(i:Nat)(t:T)(a:J4),δ[i]?=ς (ς (.own θ t))->σ[i]?=ς (ς (.ref a))->Φ.H a=ψ
 dis:∀(i j:Nat)(t u:T)(b:Bool)(a:J4),i≠j->δ[i]?=ς (ς (.own θ t))->δ[j]?=ς (ς (.own b u))->σ[i]?=ς (ς (.ref a))->σ[j]?=ς (ς (.ref a))->False
variable{Φ:Fr0}{δ:Sl}{ch:CH}{ρ:Nat->J4}
def Ge.gh{G:Gx}{F:Hp}(e:Ge G Φ δ ch σ F H ρ):Gh G F H ρ ch:=e.ad.gh
abbrev RL(α β:Type):=Gx->Hp->Hp->Hp->(Nat->J4)->Nat->α->β->Prop
def yO(H:Hp)(c:CV)(v:V):Prop:=∀t,c=.own θ t->∀a,v=.ref a->H a=ψ
def RV:RL CV V:=λG O F H ρ n c v=>RelC G F H ρ n c v/\yO O c v
def RB:RL Bool Bool:=λ_ _ _ _ _ _ a b=>a=b
def RA:RL (η CV) (η V):=λG _ F H ρ n c v=>RelCs G F H ρ n c v
abbrev FM(α:Type):=Sl->CH->ζ (α×CH)
abbrev Fg:=FM CV
def KM(G:Gx){α β:Type}(R:RL α β)(F H:Hp)(ρ:Nat->J4)(ch:CH)(a:α)(ch':CH)(Q:β->Hp->Prop):Prop:=∀b F' H' ρ',Adv G F H ρ ch F' H' ρ' ch'->R G H F' H' ρ' ch'.length a b->Q b H'
def tK(G:Gx){α β:Type}(R:RL α β)(f:η CV->FM α)(σ:ae)(vs:η V)(H:Hp)(Q:β->Hp->Prop):Prop:=∃ Φ δ ch F ρ cs a ch',Ge G Φ δ ch σ F H ρ/\RelCs G F H ρ ch.length cs vs/\f cs δ ch=ς (a,ch')/\KM G R F H ρ ch a ch' Q
def tM(G:Gx){α β:Type}(R:RL α β)(f:FM α):ae->Hp->(β->Hp->Prop)->Prop:=λσ H Q=>∃ Φ δ ch F ρ a ch',Ge G Φ δ ch σ F H ρ/\f δ ch=ς (a,ch')/\KM G R F H ρ ch a ch' Q
def GE(G:Gx)(X:Cx)(e:J8)(f:Fg):Prop:=PE X e (tM G RV f)
def GT(G:Gx)(X:Cx)(e:J8)(f:FM Bool):Prop:=PT X e (tM G RB f)
def GW(G:Gx)(X:Cx)(e:J8)(f:FM Bool):Prop:=PW X e (tM G RB f)
def GA(G:Gx)(X:Cx)(es:η J8)(f:FM (η CV)):Prop:=PA X es (tM G RA f)
class RMono{α β:Type}(R:RL α β):Prop where
 m:∀{G H0 H1 F H ρ n a b},(∀x,H1 x=ψ->H0 x=ψ)->R G H1 F H ρ n a b->R G H0 F H ρ n a b
instance:RMono RV:=⟨λh r=>⟨r.1,λt e a q=>h a (r.2 t e a q)⟩⟩
instance:RMono RB:=⟨λ_ r=>r⟩
instance:RMono RA:=⟨λ_ r=>r⟩
section
variable{G:Gx}{Φ:Fr0}{F H F' H' F1 H1:Hp}{ρ ρ' ρ1:Nat->J4}{δ:Sl}{σ:ae}{ch ch' ch1 ch2:CH}{c:CV}{v:V}{Q:VK}
theorem Ge.adv(e:Ge G Φ δ ch σ F H ρ)(a:Adv G F H ρ ch F' H' ρ' ch'):Ge G Φ δ ch' σ F' H' ρ':=⟨e.ad.trans a,e.len,λi c h=>let ⟨v,h1,h2⟩:=e.has i c h;⟨v,h1,h2.adv a⟩,e.nw,e.dis⟩
theorem KM.adv{α β:Type}{R:RL α β}[RMono R]{a:α}{Q:β->Hp->Prop}(k:KM G R F H ρ ch a ch' Q)(d:Adv G F H ρ ch F1 H1 ρ1 ch1):KM G R F1 H1 ρ1 ch1 a ch' Q:=λb F' H' ρ' d' r=>k b F' H' ρ' (d.trans d') (RMono.m d.hs r)
theorem KM.sol(k:KM G RV F H ρ ch c ch' Q)(a:Adv G F H ρ ch F' H' ρ' ch')(r:RelS G F' ρ' ch'.length c v):Q v H':=k v F' H' ρ' a ⟨r.toC,λt e=>by rw[e]at r;exact r.elim⟩
def KM.dat{d:Dt}(k:KM G RV F H ρ ch (.g d) ch Q)(g:Gh G F H ρ ch)(r:Rep G.K F d v):Q v H:=k.sol (.refl g) r
def bS{α β:Type}{x:ζ α}{f:α->ζ β}{b:β}(h:x.bind f=ς b):∃a,x=ς a/\f a=ς b:=qk0.mp h
def mS{α β:Type}{x:ζ α}{f:α->β}{b:β}(h:x.map f=ς b):∃a,x=ς a/\f a=b:=qd4.mp h
section
variable{α β:Type}{R:RL α β}[RMono R]{f fa fb fc:Fg}{fs:FM (η CV)}{ft:FM Bool}{k:η CV->FM α}{Q Q':β->Hp->Prop}
theorem tM.imp{f:FM α}(h:tM G R f σ H Q)(i:∀b H',Q b H'->Q' b H'):tM G R f σ H Q':=let ⟨Φ,δ,ch,F,ρ,a,ch',en,hf,k⟩:=h;⟨Φ,δ,ch,F,ρ,a,ch',en,hf,λb F' H' ρ' d r=>i b H' (k b F' H' ρ' d r)⟩
theorem tK.one(h:tM G R (λδ ch=>(fa δ ch).bind λp=>k [p.1] δ p.2) σ H Q):tM G RV fa σ H λx H1=>tK G R k σ [x] H1 Q:=by have⟨Φ,δ,ch,F,ρ,a,ch',en,O,W⟩:=h;have⟨p,h1,O⟩:=bS O;exact⟨Φ,δ,ch,F,ρ,p.1,p.2,en,h1,λx F1 H1 ρ1 d1 U=>⟨Φ,δ,p.2,F1,ρ1,[p.1],a,ch',en.adv d1,.cons U.1 .nil,O,W.adv d1⟩⟩
theorem tK.two(h:tM G R (λδ ch=>(fa δ ch).bind λp=>(fb δ p.2).bind λq=>k [p.1,q.1] δ q.2) σ H Q):tM G RV fa σ H λx H1=>tM G RV fb σ H1 λy H2=>tK G R k σ [x,y] H2 Q:=by have⟨Φ,δ,ch,F,ρ,a,ch',en,O,Z⟩:=h;have⟨p,h1,O⟩:=bS O;have⟨q,h2,O⟩:=bS O;exact⟨Φ,δ,ch,F,ρ,p.1,p.2,en,h1,λx F1 H1 ρ1 d1 U=>⟨Φ,δ,p.2,F1,ρ1,q.1,q.2,en.adv d1,h2,λy F2 H2 ρ2 d2 W=>⟨Φ,δ,q.2,F2,ρ2,[p.1,q.1],a,ch',(en.adv d1).adv d2,.cons (U.1.adv d2) (.cons W.1 .nil),O,(Z.adv d1).adv d2⟩⟩⟩
theorem tK.args(h:tM G R (λδ ch=>(fs δ ch).bind λp=>k p.1 δ p.2) σ H Q):tM G RA fs σ H λus H1=>tK G R k σ us H1 Q:=by have⟨Φ,δ,ch,F,ρ,a,ch',en,O,W⟩:=h;have⟨p,h1,O⟩:=bS O;exact⟨Φ,δ,ch,F,ρ,p.1,p.2,en,h1,λx F1 H1 ρ1 d1 U=>⟨Φ,δ,p.2,F1,ρ1,p.1,a,ch',en.adv d1,U,O,W.adv d1⟩⟩
theorem tK.test{k:Bool->FM α}(h:tM G R (λδ ch=>(ft δ ch).bind λp=>k p.1 δ p.2) σ H Q):tM G RB ft σ H λb H1=>tM G R (k b) σ H1 Q:=by have⟨Φ,δ,ch,F,ρ,a,ch',en,O,W⟩:=h;have⟨p,h1,O⟩:=bS O;exact⟨Φ,δ,ch,F,ρ,p.1,p.2,en,h1,λx F1 H1 ρ1 d1 U=>by cases U;exact⟨Φ,δ,p.2,F1,ρ1,a,ch',en.adv d1,O,W.adv d1⟩⟩
end
end
variable{J0:η (J4×Obj)}{A:ql5}{Q:Value->qa8->Prop}
section
variable{X:Cx}{o a b e c:J8}{es:η J8}{fa fb fo fe:De->ζ Dt}{fs:De->ζ (η Dt)}{pos apos cpos p:Pos}{x:Str}{sc:J9}{i:Nat}
def yP(K:xA9)(mg:Str->ζ Value)(x:Str)(d:Dt):Prop:=∃v,(∃u,mg x=ς u/\RelV v u)/\∀F,Rep K F d v
noncomputable def sS:Dt->Bool
 |_=>ξ
noncomputable def tyD:Dt->String
 |.non=>"NoneType"
 |.bl _=>"bool"
 |.int _=>"int"
 |.str _=>"str"
 |.t _=>"tuple"
 |.e _=>"list"
 |.dct _ _=>"dict"
 |.dcT _ _=>"dict"
noncomputable def cY(c:String):Dt->Bool
 |.non=>c=="NoneType"
 |.bl _=>c=="bool"||c=="int"
 |.int _=>c=="int"
 |.str _=>c=="str"
 |.t _=>c=="tuple"
 |.e _=>c=="list"
 |.dct _ _=>c=="dict"
 |.dcT _ _=>c=="dict"
theorem m9 {s:qa8} {E:Value->qa8->Prop} {c:Value} {b:Bool} {v:V} {u:Value} {d:Dt} (I:Inv X J0 σ H s) (O:RelV v u) (r:Rep X.K H d v) (hi:sS d=ξ) (e:xI9 X.K (.type (tyD d)) c=ς b) (h:∀ Z,Q (.bool b) {s with toks:=Z}) :
  wpAny (model X.prog X.w) A (call (.builtin "isinstance") [u,c]) Q E s:=by
 cases d with
 |non=>rwa[Rep]at r;subst r;exact dw I O .non e h
 |bl y=>rwa[Rep]at r;subst r;exact dw I O (.bl y) e h
 |int y=>rwa[Rep]at r;subst r;exact dw I O (.int y) e h
 |str y=>rwa[Rep]at r;subst r;exact dw I O (.str y) e h
 |t l=>rwa[Rep]at r;have⟨a,vs,rfl,h1,h2⟩:=r;cases O;have⟨J3,_,pl,_⟩:=I.tuple h1;have⟨o,U,e2,_⟩:=pl;exact xC9 PySem.W.kitx_tuple I.kIn ⟨o,U,e2⟩ e (λz=>nomatch z) h
 |e l=>rwa[Rep]at r;have⟨a,vs,rfl,h1,h2⟩:=r;cases O;have⟨J3,_,pl,_⟩:=I.list h1;have⟨o,n,U,e2,_⟩:=pl;exact xC9 xU9 I.kIn ⟨o,U,e2⟩ e (λz=>nomatch z) h
 |dct ks l=>rwa[Rep]at r;have⟨a,J1,rfl,h1,_⟩:=r;cases O;have⟨_,_,vs,_,p⟩:=f8 I.hok h1;have⟨o,es,ep,U,e2,_⟩:=p;exact xC9 xN9 I.kIn ⟨o,U,e2.1⟩ e (λz=>nomatch z) h
 |dcT ks l=>rwa[Rep]at r;have⟨a,J1,rfl,h1,_⟩:=r;cases O;have⟨_,_,xs,_,o,es,ep,U,e2,_⟩:=(show ObjOk X.prog X.w H s.heap a (.dT J1)from h1.ok I.hok);exact xC9 xN9 I.kIn ⟨o,U,e2.1⟩ e (λz=>nomatch z) h
def j8(K:xA9)(c:String):Prop:=∀d:Dt,sS d=ξ->xI9 K (.type (tyD d)) (.type c)=ς (cY c d)
theorem na:CallR X (.builtin "isinstance") (λxs H Q=>∃v c d b,xs=[v,.ty c]/\Rep X.K H d v/\sS d=ξ/\xI9 X.K (.type (tyD d)) (.type c)=ς b/\Q (.bl b) H):=by intro J0 s σ H xs us Q I r h;have⟨v,c,d,b,rfl,rd,hi,e,q⟩:=h;have⟨u,w',rfl,U,O⟩:=rG r;cases O;exact m9 I U rd hi e λZ=>⟨.bl b,H,I.tok _,rfl,q⟩
def MRD(K:xA9)(r:V->η V->Hp->VK->Prop)(g:Dt->η Dt->ζ T):Prop:=∀F H d v ds vs (Q:VK) t,Same F H->RepB K F H d v->lr K F H ds vs->g d ds=ς t->KO K F H t Q->r v vs H Q
noncomputable def cZ:η Dt->ζ (η Str)
 |[]=>ς []
 |.str b::r=>(cZ r).map (b::·)
 |_=>ψ
theorem fG{F:Hp}:∀{l:η Dt}{vs:η V}{bs:η Str},Reps K F l vs->cZ l=ς bs->vs=bs.map V.str
 |[],vs,bs,r,h=>by cases h;rwa[Reps]at r;exact r
 |d::l,vs,bs,r,h=>by
  cases d<;>first|cases h;done|skip
  rwa[cZ]at h;have⟨cs,hc,h⟩:=qd4.mp h;cases h;rwa[Reps,Rep]at r;have⟨v,ws,rfl,rfl,O⟩:=r;rw[fG O hc];rfl
def j9:Dt->η Dt->ζ T
 |.str a,[.e l]=>(cZ l).bind λts=>if JoinOk a ts then ς (.f (.str (zg1 a ts)))else ψ
 |_,_=>ψ
omit x in
theorem wC:MRD K (λx vs H Q=>∃(a:Str)(l:J4)(ts:η Str),x=.str a/\vs=[.ref l]/\SqL K H l (ts.map V.str)/\JoinOk a ts=θ/\Q (.str (zg1 a ts)) H) j9:=by
 intro F H d v ds vs Q t W rd rs O k;unfold j9 at O;split at O<;>first|cases O;done|skip
 have⟨ts,U,O⟩:=qk0.mp O;split at O
 .rename_i hj;cases O;cases rd;have⟨v,rfl,Z⟩:=bu rs;have⟨a,vs,rfl,h1,h2⟩:=Z;have:=fG h2 U;subst this;exact⟨_,a,ts,rfl,rfl,h1,hj,k.str W⟩
 .cases O
end
noncomputable def av{κ:Type}[DecidableEq κ]:η κ->η Dt->κ->ζ Dt
 |k'::ks,d::l,k=>if k'=k then ς d else av ks l k
 |_,_,_=>ψ
theorem fH{κ:Type}[DecidableEq κ]{F:Hp}{k:κ}:∀{J1:η (κ×V)}{l:η Dt}{d:Dt},Reps K F l (J1.map (·.2))->av (J1.map (·.1)) l k=ς d->∃v,bH J1 k=ς v/\Rep K F d v
 |[],l,d,r,h=>by cases l<;>cases h
 |p::J1,[],d,r,h=>by cases h
 |p::J1,e::l,d,r,h=>by
  rwa[qa2,Reps]at r;have⟨v,ws,Z,W,U⟩:=r;cases Z;rwa[qa2,av]at h;by_cases O:p.1=k
  .rw[if_pos O]at h;cases h;exact⟨p.2,el O,W⟩
  .rw[if_neg O]at h;rw[cS O];exact fH U h
theorem fJ{κ:Type}[DecidableEq κ]{F:Hp}{k:κ}:∀{J1:η (κ×V)}{l:η Dt},Reps K F l (J1.map (·.2))->av (J1.map (·.1)) l k=ψ->bH J1 k=ψ
 |[],l,r,h=>rfl
 |p::J1,[],r,h=>by rwa[qa2,Reps]at r;cases r
 |p::J1,e::l,r,h=>by
  rwa[qa2,Reps]at r;have⟨v,ws,W,Z,U⟩:=r;cases W;rwa[qa2,av]at h;by_cases O:p.1=k
  .rw[if_pos O]at h;cases h
  .rw[if_neg O]at h;rw[cS O];exact fJ U h
noncomputable def cO:Dt->ζ Key
 |.int i=>ς (.inl i)
 |.str x=>ς (.inr x)
 |_=>ψ
def dz{F:Hp}{d:Dt}{v:V}{k:Key}(r:RepB K F H d v)(h:cO d=ς k):v=kV k:=by
 unfold cO at h;rcases h
 .cases h;exact r
 .cases h;exact r
def gIxA:Dt->Dt->ζ T
 |.dct ks l,k=>(cO k).bind λk=>(av ks l k).map .f
 |x,y=>gIx x y
section
variable{X:Cx}{o a b e c:J8}{es:η J8}{fa fb fo fe fk:De->ζ Dt}{fs:De->ζ (η Dt)}{pos apos cpos p:Pos}{x:Str}{sc:J9}{i:Nat}
noncomputable def bI{κ:Type}[DecidableEq κ]:η (κ×Dt)->κ->Dt->η (κ×Dt)
 |[],k,d=>[(k,d)]
 |p::l,k,d=>if p.1=k then(p.1,d)::l else p::bI l k d
end
def vwO:CO->ζ Dt
 |.e l=>(dats l).map .e
 |.dK l=>(dats (l.map (·.2))).map (.dct (l.map (·.1)))
 |.dT l=>(dats (l.map (·.2))).map (.dcT (l.map (·.1)))
 |_=>ψ
def vw(ch:CH):CV->ζ Dt
 |.g d=>ς d
 |.ref i=>(ch[i]?).bind vwO
 |.own _ t=>t.d
 |.fn _ _=>ψ
def vws(ch:CH):η CV->ζ (η Dt)
 |[]=>ς []
 |c::l=>(vw ch c).bind λd=>(vws ch l).map (d::·)
section
variable{G:Gx}{Φ:Fr0}{F H F' H' F1 H1:Hp}{ρ ρ' ρ1:Nat->J4}{n:Nat}{δ:Sl}{σ:ae}{ch ch' ch1 ch2:CH}{c:CV}{v:V}{Q:VK}{d:Dt}{t:T}
def aN(g:Gh G F H ρ ch)(r:RelC G F H ρ ch.length c v)(h:vw ch c=ς d):RepB G.K F H d v:=by
 cases c with
 |g e=>cases h;exact RepB.of g.fh r
 |fn _ _=>cases h
 |own b t=>have⟨a,rfl,_,W,_⟩:=r;exact W.repB g.fh h
 |ref i=>
  have⟨_,rfl⟩:=r;have⟨o,h1,h2⟩:=bS h;have O:=g.ok i o h1;cases o with
  |e l=>have⟨ds,q,rfl⟩:=mS h2;have⟨vs,e,rs⟩:=O;exact⟨_,vs,rfl,SqL.of e,aU q rs⟩
  |t l=>cases h2
  |dK l=>have⟨ds,q,rfl⟩:=mS h2;have⟨_,vs,e,U,rs⟩:=O;exact⟨_,vs,rfl,.of e,U,aU q rs⟩
  |dT l=>have⟨ds,q,rfl⟩:=mS h2;have⟨_,vs,e,U,rs⟩:=O;exact⟨_,vs,rfl,.of e,U,aU q rs⟩
  |ins c l=>cases h2
theorem fK(g:Gh G F H ρ ch):∀{l:η CV}{ds:η Dt}{vs:η V},RelCs G F H ρ ch.length l vs->vws ch l=ς ds->lr G.K F H ds vs
 |[],_,_,.nil,h=>by cases h;exact rfl
 |c::l,_,_,.cons r t,h=>by have⟨d,h1,h2⟩:=bS h;have⟨ds,O,rfl⟩:=mS h2;exact⟨_,_,rfl,aN g r h1,fK g t O⟩
inductive Md where|v|o|w
noncomputable def al(ch:CH):T->ζ (CV×CH)
 |.f d=>ς (.g d,ch)
 |.e l=>ς (.ref ch.length,ch++[.e (l.map .g)])
 |.dct l=>if(l.map (·.1)).Nodup then ς (.ref ch.length,ch++[.dK (l.map λp=>(p.1,.g p.2))])else ψ
 |.dcT l=>if(l.map (·.1)).Nodup then ς (.ref ch.length,ch++[.dT (l.map λp=>(p.1,.g p.2))])else ψ
 |_=>ψ
def fin(m:Md)(ch:CH)(t:T):ζ (CV×CH):=match m with
 |.v=>t.d.map λd=>(.g d,ch)
 |.o=>al ch t
 |.w=>if t.own then ς (.own θ t,ch)else ψ
omit x in
def bP{m:Md}(g:Gh G F H ρ ch)(h:fin m ch t=ς (c,ch'))(k:KM G RV F H ρ ch c ch' Q):KO G.K F H t Q:=by
 have f:∀{d:Dt},KM G RV F H ρ ch (.g d) ch Q->KL G.K F H d Q:=λk v H' F' st r=>k.sol (.of g st) r
 cases m with
 |v=>have h:t.d.map (λd=>(CV.g d,ch))=ς (c,ch'):=h;have⟨d,hd,e⟩:=mS h;cases e;exact KL.to hd (f k)
 |w=>
  have h:(if t.own then ς (CV.own θ t,ch)else ψ)=ς (c,ch'):=h;rcases h
  rename_i W;cases h;intro v H' F' S st o O
  have ha:∃a,v=.ref a:=by
   cases t<;>try(cases W;done)
   all_goals (have⟨a,_,e,_⟩:=o;exact⟨a,e⟩)
  have⟨a,rfl⟩:=ha;have U:=qb W o;refine k _ F' H' ρ (.of g st) ⟨⟨a,rfl,W,?_,(O a U).1,λi hi e=>?_⟩,λ_ _ b e=>by cases e;exact(O a U).2.1⟩
  .cases t<;>try(cases W;done)
   all_goals (have⟨b,vs,e,_,r⟩:=o;cases e;exact⟨a,vs,rfl,rfl,r⟩)
  .have⟨u,hu⟩:=g.at hi;rw[e,(O a U).2.1]at hu;cases hu
 |o=>
  cases t with
  |f d=>cases h;exact KL.to rfl (f k)
  |e l=>cases h;rintro v H' F' S st ⟨a,vs,rfl,U,h1,h2⟩ O;refine k.sol (.new g st (O a U).2.1 (O a U).1 ⟨vs,h1,RelSs.dats h2⟩) ⟨Ξ,?_⟩;simp
  |dct l=>
   have h:(if(l.map (·.1)).Nodup then ς (CV.ref ch.length,ch++[CO.dK (l.map λp=>(p.1,CV.g p.2))])else ψ)=ς (c,ch'):=h;split at h<;>cases h
   rename_i nd;rintro v H' F' S st ⟨a,vs,rfl,U,h1,h2,Z⟩ O;refine k.sol (.new g st (O a U).2.1 (O a U).1 ⟨by rw[qd5];exact nd,vs,h1,by rw[h2,qd5];rfl,?_⟩) ⟨Ξ,Ξ⟩;have:=RelSs.dats (G:=G) (F:=F') (ρ:=λi=>if i=ch.length then a else ρ i) (n:=ch.length+1) Z
   rw[qd5]at this ⊢;assumption
  |dcT l=>
   have h:(if(l.map (·.1)).Nodup then ς (CV.ref ch.length,ch++[CO.dT (l.map λp=>(p.1,CV.g p.2))])else ψ)=ς (c,ch'):=h;split at h<;>cases h
   rename_i nd;rintro v H' F' S st ⟨a,vs,rfl,U,h1,h2,Z⟩ O;refine k.sol (.new g st (O a U).2.1 (O a U).1 ⟨by rw[qd5];exact nd,vs,h1,by rw[h2,qd5];rfl,?_⟩) ⟨Ξ,Ξ⟩;have:=RelSs.dats (G:=G) (F:=F') (ρ:=λi=>if i=ch.length then a else ρ i) (n:=ch.length+1) Z
   rw[qd5]at this ⊢;assumption
  |fn a F0=>cases h
  |exc _ _=>cases h
  |rse _ _=>cases h
end
variable{r:R2}{y:V}
section
variable{G:Gx}{X:Cx}{e a b c o:J8}{es rest:η J8}{f fa fb fc:Fg}{fs:FM (η CV)}{ta tb tc:FM Bool}{pos apos cpos p:Pos}{i:Nat}{m:Md}{d:Dt}
noncomputable def eK(d:Dt):Fg:=λ_ ch=>ς (.g d,ch)
theorem sT{v:V}(h:PE X e (tC v))(r:∀F,Rep G.K F d v):GE G X e (eK d):=PE.mono h λσ H Q O=>by have⟨Φ,δ,ch,F,ρ,a,ch',en,U,k⟩:=O;cases U;exact k.dat en.gh (r F)
noncomputable def lent:CV->CV
 |.own _ t=>.own ξ t
 |c=>c
noncomputable def eV(i:Nat):Fg:=λδ ch=>match δ[i]? with
 |some (ς c)=>ς (lent c,ch)
 |_=>ψ
omit x in
def AJ(h:PE X e (qU i)):GE G X e (eV i):=PE.mono h λσ H Q U=>by
 have⟨Φ,δ,ch,F,ρ,a,ch',en,O,k⟩:=U;unfold eV at O;rcases O
 rename_i c hc;cases O;have⟨v,h1,h2⟩:=en.has i c hc;refine⟨v,h1,k v F H ρ (.refl en.gh) ⟨?_,λt e=>?_⟩⟩
 .cases c<;>exact h2
 .cases c<;>cases e
def k2(m:Md)(g:Dt->Dt->ζ T):η CV->Fg:=λcs _ ch=>match cs with
 |[x,y]=>(vw ch x).bind λx=>(vw ch y).bind λy=>(g x y).bind (fin m ch)
 |_=>ψ
def e2(m:Md)(g:Dt->Dt->ζ T)(fa fb:Fg):Fg:=λδ ch=>(fa δ ch).bind λp=>(fb δ p.2).bind λq=>(vw q.2 p.1).bind λx=>(vw q.2 q.1).bind λy=>(g x y).bind (fin m q.2)
theorem C8{g:Dt->Dt->ζ T}(hr:R2D G.K r g){Q:VK}{x:V}(h:tK G RV (k2 m g) σ [x,y] H Q):r x y H Q:=by have⟨Φ,δ,ch,F,ρ,cs,c,ch',en,rs,O,k⟩:=h;obtain _|⟨Z,_|⟨W,_|_⟩⟩:=rs;have⟨x,U,O⟩:=bS O;have⟨y,hy,O⟩:=bS O;have⟨t,ht,O⟩:=bS O;exact hr F H x y _ _ Q t en.gh.fh (aN en.gh Z U) (aN en.gh W hy) ht (bP en.gh O k)
theorem sU{g:Dt->Dt->ζ T}(O:R2D G.K r g){Q:VK}(h:tM G RV (e2 m g fa fb) σ H Q):tOp r (tM G RV fa) (tM G RV fb) σ H Q:=(tK.two (k:=k2 m g) h).imp λ_ _ h=>h.imp λ_ _ h=>C8 O h
theorem AK{op:qp7}{g:Dt->Dt->ζ T}(U:OpR X (qh7 op) r)(O:R2D G.K r g)(W:GE G X a fa)(hb:GE G X b fb):GE G X (.BinOp a op b pos) (e2 m g fa fb):=PE.mono (CG U W hb) λ_ _ _=>sU O
theorem AL{op:CmpOp}{g:Dt->Dt->ζ T}(W:OpR X (qf1 op) r)(U:R2D G.K r g)(Z:GE G X a fa)(hb:GE G X b fb)(O:qy8 op b=ξ):GE G X (.Compare a [op] [b] pos) (e2 m g fa fb):=PE.mono (vU W Z hb O) λ_ _ _=>sU U
noncomputable def dH:CV->ζ Bool
 |.g (.bl b)=>ς b
 |_=>ψ
def oC{F:Hp}{c:CV}{b:Bool}{v:V}(h:dH c=ς b)(r:RelC G F H ρ n c v):v=.bl b:=by
 cases c with
 |g d=>cases d<;>cases h;exact r
 |_=>cases h
def aZ(f:Fg):FM Bool:=λδ ch=>(f δ ch).bind λp=>(dH p.1).map λb=>(b,p.2)
def wD{Q:Bool->Hp->Prop}(h:tM G RB (aZ f) σ H Q):tM G RV f σ H λx H'=>∃k,x=.bl k/\Q k H':=by
 refine(tK.one (k:=λcs _ ch=>match cs with|[c]=>(dH c).map λb=>(b,ch)|_=>ψ) h).imp λx H' h=>?_
 have⟨Φ,δ,ch,F,ρ,cs,c,ch',en,rs,O,k⟩:=h;obtain _|⟨U,_|_⟩:=rs;have⟨q,hb,e⟩:=mS O;cases e;exact⟨_,oC hb U,k _ F H' ρ (.refl en.gh) rfl⟩
theorem AM{op:CmpOp}{g:Dt->Dt->ζ T}(Z:OpR X (qf1 op) r)(U:R2D G.K r g)(W:GE G X a fa)(hb:GE G X b fb)(O:qy8 op b=ξ):GT G X (.Compare a [op] [b] pos) (aZ (e2 m g fa fb)):=PT.mono (vW Z W hb O) λ_ _ _ h=>sU U (wD h)
def bJ(f:Fg):FM Bool:=λδ ch=>(f δ ch).bind λp=>(vw p.2 p.1).bind λd=>(iP d).map λb=>(b,p.2)
theorem AN(hK:X.K=G.K)(W:GE G X a fa)(he:∀O,isTrue a X.env O=(do let v <- O;qw6 a.pos;qp1 [v] (truthy v))):GT G X a (bJ fa):=PT.mono (rF W he) λσ H Q h=>by
 refine(tK.one (k:=λcs _ ch=>match cs with|[c]=>(vw ch c).bind λd=>(iP d).map λb=>(b,ch)|_=>ψ) h).imp λx H' h=>?_
 have⟨Φ,δ,ch,F,ρ,cs,c,ch',en,rs,U,k⟩:=h;obtain _|⟨Z,_|_⟩:=rs;have⟨d,hd,U⟩:=bS U;have⟨q,hb,e⟩:=mS U;cases e;exact⟨_,by rw[hK];exact wq en.gh.fh (aN en.gh Z hd) hb,k _ F H' ρ (.refl en.gh) rfl⟩
variable{σ:ae}{H:Hp}
noncomputable def tNt(f:FM Bool):FM Bool:=λδ ch=>(f δ ch).map λp=>(!p.1,p.2)
noncomputable def tAn(f g:FM Bool):FM Bool:=λδ ch=>(f δ ch).bind λp=>if p.1 then g δ p.2 else ς (ξ,p.2)
noncomputable def iS(f g:FM Bool):FM Bool:=λδ ch=>(f δ ch).bind λp=>if p.1 then ς (θ,p.2)else g δ p.2
theorem tM.ret{α β:Type}{R:RL α β}{x:α}{y:β}{Q:β->Hp->Prop}(h:tM G R (λ_ ch=>ς (x,ch)) σ H Q)(r:∀F ρ n,R G H F H ρ n x y):Q y H:=by have⟨Φ,δ,ch,F,ρ,a,ch',en,O,k⟩:=h;cases O;exact k y F H ρ (.refl en.gh) (r _ _ _)
theorem AO(h:GT G X a ta):GT G X (.UnaryOp .Not a pos) (tNt ta):=PT.mono (zH h) λσ H Q O=>by have⟨Φ,δ,ch,F,ρ,c,ch',en,U,k⟩:=O;have⟨p,h1,e⟩:=mS U;cases e;exact⟨Φ,δ,ch,F,ρ,p.1,p.2,en,h1,λb F' H' ρ' d r=>by cases r;exact k _ F' H' ρ' d rfl⟩
theorem AQ{Q:Bool->Hp->Prop}(h:tM G RB (tAn ta tb) σ H Q):tAnd (tM G RB ta) (tM G RB tb) σ H Q:=(tK.test (k:=λb δ ch=>if b then tb δ ch else ς (ξ,ch)) h).imp λb H' h=>by
 cases b with
 |true=>exact h
 |false=>exact h.ret λ_ _ _=>rfl
theorem AR{Q:Bool->Hp->Prop}(h:tM G RB (iS ta tb) σ H Q):tOr (tM G RB ta) (tM G RB tb) σ H Q:=(tK.test (k:=λb δ ch=>if b then ς (θ,ch)else tb δ ch) h).imp λb H' h=>by
 cases b with
 |true=>exact h.ret λ_ _ _=>rfl
 |false=>exact h
def wE(h:GT G X a ta):GW G X (.BoolOp .And [a] pos) ta:=vM h
def AS(h:GT G X a ta):GW G X (.BoolOp .Or [a] pos) ta:=zF h
theorem sV(h:GT G X a ta)(h':GW G X (.BoolOp .And (b::rest) pos) tb):GW G X (.BoolOp .And (a::b::rest) pos) (tAn ta tb):=PW.mono (zG h h') λ_ _ _ h=>AQ h
theorem yQ(h:GT G X a ta)(h':GW G X (.BoolOp .Or (b::rest) pos) tb):GW G X (.BoolOp .Or (a::b::rest) pos) (iS ta tb):=PW.mono (Cw h h') λ_ _ _ h=>AR h
def GW.t(h:GW G X a ta):GT G X a ta:=PW.pt h
def eAn(f g:Fg):Fg:=λδ ch=>(f δ ch).bind λp=>(dH p.1).bind λb=>if b then g δ p.2 else ς (.g (.bl ξ),p.2)
def eNt(f:Fg):Fg:=λδ ch=>(f δ ch).bind λp=>(dH p.1).bind λb=>ς (.g (.bl (!b)),p.2)
def AT{op}(h:GE G X a fa):GE G X (.BoolOp op [a] pos) fa:=zI h
theorem yR{α β:Type}{R:RL α β}[RMono R]{kk:Bool->FM α}{Q:β->Hp->Prop}(h:tM G R (λδ ch=>(fa δ ch).bind λp=>(dH p.1).bind λb=>kk b δ p.2) σ H Q):tM G RV fa σ H λx H1=>∃c,x=.bl c/\tM G R (kk c) σ H1 Q:=by
 refine(tK.one (k:=λcs δ ch=>match cs with|[c]=>(dH c).bind λb=>kk b δ ch|_=>ψ) h).imp λx H' h=>?_
 have⟨Φ,δ,ch,F,ρ,cs,c,ch',en,rs,U,k⟩:=h;obtain _|⟨O,_|_⟩:=rs;have⟨q,hb,e⟩:=bS U;exact⟨q,oC hb O,Φ,δ,ch,F,ρ,c,ch',en,e,k⟩
def sW{d:Dt}{v:V}(r:∀F,Rep G.K F d v):∀F ρ n,RV G H F H ρ n (.g d) v:=λF _ _=>⟨r F,λ_ e=>nomatch e⟩
theorem AU(h:GE G X a fa):GE G X (.UnaryOp .Not a pos) (eNt fa):=PE.mono (zK h) λσ H Q h=>(yR (kk:=λb _ ch=>ς (CV.g (.bl (!b)),ch)) h).imp λx H' O=>by have⟨c,e,h⟩:=O;exact⟨c,e,h.ret (sW λ_=>hJ)⟩
theorem sX(h:GE G X a fa)(h':GE G X (.BoolOp .And (b::rest) pos) fb):GE G X (.BoolOp .And (a::b::rest) pos) (eAn fa fb):=PE.mono (zJ h h') λσ H Q h=>(yR (kk:=λb δ ch=>if b then fb δ ch else ς (.g (.bl ξ),ch)) h).imp λx H' O=>by have⟨c,e,h⟩:=O;exact⟨c,e,by
 cases c with
 |true=>exact h
 |false=>exact h.ret (sW λ_=>hJ)⟩
noncomputable def eIf(c:FM Bool)(f g:Fg):Fg:=λδ ch=>(c δ ch).bind λp=>if p.1 then f δ p.2 else g δ p.2
theorem C9(hc:GT G X c tc)(h:GE G X a fa)(h':GE G X b fb):GE G X (.IfExp c a b pos) (eIf tc fa fb):=PE.mono (qX hc h h') λσ H Q h=>(tK.test (k:=λb δ ch=>if b then fa δ ch else fb δ ch) h).imp λb H' h=>by cases b<;>exact h
noncomputable def bY:CV->ζ Int
 |.g (.int i)=>ς i
 |_=>ψ
def cz{F:Hp}{c:CV}{b:Int}{v:V}(h:bY c=ς b)(r:RelC G F H ρ n c v):v=.int b:=by
 cases c with
 |g d=>cases d<;>cases h;exact r
 |_=>cases h
def eNg(f:Fg):Fg:=λδ ch=>(f δ ch).bind λp=>(bY p.1).bind λi=>ς (.g (.int (-i)),p.2)
def AV(h:GE G X a fa):GE G X (.UnaryOp .USub a pos) (eNg fa):=PE.mono (CI Aa h) λσ H Q h=>by
 refine(tK.one (k:=λcs _ ch=>match cs with|[c]=>(bY c).bind λi=>ς (CV.g (.int (-i)),ch)|_=>ψ) h).imp λx H' h=>?_
 have⟨Φ,δ,ch,F,ρ,cs,c,ch',en,rs,O,k⟩:=h;obtain _|⟨U,_|_⟩:=rs;have⟨q,hb,e⟩:=bS O;cases e;exact⟨q,cz hb U,k.dat en.gh ba⟩
noncomputable def aNl:FM (η CV):=λ_ ch=>ς ([],ch)
noncomputable def aCn(f:Fg)(fs:FM (η CV)):FM (η CV):=λδ ch=>(f δ ch).bind λp=>(fs δ p.2).map λq=>(p.1::q.1,q.2)
def AW:GA G X [] aNl:=PA.mono cq λσ H Q h=>h.ret λ_ _ _=>.nil
theorem wF(h:GE G X e f)(hr:GA G X es fs)(hs:qb1 (e::es) X.env=(ξ,eval e X.env)::qb1 es X.env):GA G X (e::es) (aCn f fs):=PA.mono (bw h hr hs) λσ H Q O=>by have⟨Φ,δ,ch,F,ρ,c,ch',en,U,k⟩:=O;have⟨p,h1,U⟩:=bS U;have⟨q,h2,e⟩:=mS U;cases e;exact⟨Φ,δ,ch,F,ρ,p.1,p.2,en,h1,λx F1 H1 ρ1 d1 W=>⟨Φ,δ,p.2,F1,ρ1,q.1,q.2,en.adv d1,h2,λus F2 H2 ρ2 d2 Z=>(k.adv d1) _ F2 H2 ρ2 d2 (.cons (W.1.adv d2) Z)⟩⟩
end
variable{C:J4}
def ClsAt.inj{c:Str}{C':J4}(h:ClsAt K c C)(h':ClsAt K c C'):C=C':=by unfold ClsAt at h h';rw[h]at h';cases h';rfl
section
variable{X:Cx}
def AX:R2:=λx y H Q=>∃a v,x=.ref a/\DGet H a y (ς v)/\Q v H
def wG(hu:X.A.units+1<cLine):IxR X AX:=by
 intro value O J0 s σ H x y v u Q I rx ry ⟨a,w,ex,g,q⟩ hs;subst ex;obtain rfl:v=qc1 a:=rx;have W:=lm I g;unfold ze2;refine wB ?_;rw[getitemInPython_of_ne W.not_modules];refine wB (wpAny_specialOf W PySem.F.slot_dict_getitem.lookup ?_)
 have fin:wpAny (model X.prog X.w) X.A (subscripted O ξ (.ref a) u) (λr s₃=>wpAny (model X.prog X.w) X.A (letTemporaryGo value (.ref a) r >>= λ_=>pure r) (EP X J0 σ Q) X.xe s₃) X.xe s:=by rw[hs];exact wpAny_operating (p4 hu I g ry λw' s3 Z U=>wB (wpAny_letTemporaryGo (qa7 ⟨w,H,Z,U,q⟩)))
 first
  |exact qa7 (wB fin)
  |exact wB (qa7 (wB fin))
  |exact wB fin
def AY(O:Bool):R2:=λy x H Q=>∃a o,x=.ref a/\DGet H a y o/\Q (.bl (if O then !o.isSome else o.isSome)) H
theorem AZ(U:X.A.units+1<cLine):OpR X (qf1 .In) (AY ξ):=by intro J0 s σ H y x iv u Q I W Z ⟨a,o,ex,g,q⟩;subst ex;obtain rfl:u=qc1 a:=Z;exact d_in U I g W λs3 O=>⟨.bl o.isSome,H,O,rfl,q⟩
theorem qh(U:X.A.units+1<cLine):OpR X (qf1 .NotIn) (AY θ):=by intro J0 s σ H y x iv u Q I W Z ⟨a,o,ex,g,q⟩;subst ex;obtain rfl:u=qc1 a:=Z;exact we U I g W λs3 O=>⟨.bl (!o.isSome),H,O,rfl,q⟩
def yS:re:=λo i v H Q=>∃a H',o=.ref a/\DPut H a i v H'/\Q H'
theorem sY(Z:X.A.units+1<cLine):PSet X yS:=by intro J0 s σ H o i v O iv u Q I U W rv ⟨a,H',ex,g,q⟩;subst ex;obtain rfl:O=qc1 a:=U;exact p5 Z I g W rv λs4 I4=>⟨H',I4,q⟩
def PSet.or{r r':re}(h:PSet X r)(h':PSet X r'):PSet X (λo i v H Q=>r o i v H Q\/r' o i v H Q):=by
 intro J0 s σ H o i v O Z u Q I U W rv q;rcases q with q|q
 .exact h J0 s σ H o i v O Z u Q I U W rv q
 .exact h' J0 s σ H o i v O Z u Q I U W rv q
end
variable{ks:η Key}{vk:V}{as:TA}
section
variable{G:Gx}{X:Cx}{e a b c o:J8}{es rest:η J8}{f fa fb fc:Fg}{fs:FM (η CV)}{ta tb tc:FM Bool}{pos apos cpos p:Pos}{i:Nat}{m:Md}{d:Dt}{σ:ae}{F H:Hp}{ρ:Nat->J4}{ch ch':CH}{Q:VK}
theorem A0{o:CO}{a:J4}(g:Gh G F H ρ ch)(O:H a=ψ)(U:CoOk G F (upd H a u) ρ ch.length a o):Adv G F H ρ ch F (upd H a u) (λi=>if i=ch.length then a else ρ i) (ch++[o]):=Adv.new g (Step.made g.fh O) O (g.fh.free O) (U.mono (Same.refl _) (λi hi=>if_neg (qc2 hi)) (qi5 _) λ_ h=>h)
theorem kc{o:CO}{a:J4}(g:Gh G F H ρ ch)(U:H a=ψ)(O:CoOk G F (upd H a u) ρ ch.length a o)(k:KM G RV F H ρ ch (.ref ch.length) (ch++[o]) Q):Q (.ref a) (upd H a u):=k.sol (A0 g U O) ⟨Ξ,Ξ⟩
def finL(m:Md)(l:η CV)(ch:CH):ζ (CV×CH):=match dats l with
 |some ds=>fin m ch (.e ds)
 |none=>if l.all CV.sol then ς (.ref ch.length,ch++[.e l])else ψ
def eLs(m:Md)(fs:FM (η CV)):Fg:=λδ ch=>(fs δ ch).bind λp=>if p.1.length<=qa4 then finL m p.1 p.2 else ψ
omit x in
def A6(h:GA G X es fs):GE G X (.List es pos) (eLs m fs):=PE.mono (Ai h) λσ H Q h=>by
 refine(tK.args (k:=λl _ ch=>if l.length<=qa4 then finL m l ch else ψ) h).imp λvs H1 U=>?_
 have⟨Φ,δ,ch,F,ρ,cs,c,ch',en,rs,O,k⟩:=U;dsimp only at O;rcases O
 rename_i hz;refine⟨by rw[<- Paired.length rs];exact hz,λq W=>?_⟩;unfold finL at O;split at O
 .rename_i ds Z;exact bZ (bP en.gh O k) en.gh.fh (aU Z (RelCs.s (by rw[cw Z];simp[CV.sol]) rs)) W
 .split at O<;>cases O
  rename_i hs;exact kc (o:=.e cs) en.gh W ⟨vs,af,rs.s hs⟩ k
def eTu(fs:FM (η CV)):Fg:=λδ ch=>(fs δ ch).bind λp=>if p.1.length<=qa4 then(match dats p.1 with
 |some ds=>ς (.g (.t ds),p.2)
 |none=>if p.1.all CV.sol then ς (.ref p.2.length,p.2++[.t p.1])else ψ)else ψ
omit x in
def A7{x1}(h:GA G X es fs):GE G X (.Tuple es x1 pos) (eTu fs):=PE.mono (Ah h) λσ H Q h=>by
 refine(tK.args (k:=λl _ ch=>if l.length<=qa4 then(match dats l with
  |some ds=>ς (CV.g (.t ds),ch)
  |none=>if l.all CV.sol then ς (.ref ch.length,ch++[.t l])else ψ)else ψ) h).imp λvs H1 U=>?_
 have⟨Φ,δ,ch,F,ρ,cs,c,ch',en,rs,O,k⟩:=U;dsimp only at O;rcases O
 rename_i hz;refine⟨by rw[<- Paired.length rs];exact hz,λq W=>?_⟩;split at O
 .rename_i ds Z;cases O;exact KO.tup (bP (m:=.v) (t:=.f (.t ds)) en.gh rfl k) en.gh.fh (aU Z (RelCs.s (by rw[cw Z];simp[CV.sol]) rs)) W
 .split at O<;>cases O
  rename_i hs;exact kc (o:=.t cs) en.gh W ⟨vs,af,rs.s hs⟩ k
noncomputable def isK:Dt->ζ (η Key)
 |.t [.int n,.str s]=>ς [.inl n,.inr s]
 |.t [.str s,.int n]=>ς [.inr s,.inl n]
 |_=>ψ
noncomputable def fL(K:xA9):Bool:=K.all λp=>match p.2.data with
 |.seq J3 _=>(match J3.toList with
  |[.int _ _,.str _ _]|[.str _ _,.int _ _]=>ξ
  |_=>θ)
 |_=>θ
theorem ly{a:J4}{o:Obj}:∀{K:η (J4×Obj)},K.lookup a=ς o->(a,o)∈K
 |[],h=>by cases h
 |(b,u)::K,h=>by
  rw[qj7]at h;cases q:a==b with
  |true=>rw[q]at h;cases h;rw[beq_iff_eq.mp q];exact .head _
  |false=>rw[q]at h;exact .tail _ (ly h)
def kf{v:V}(hK:fL K=θ)(h:isK d=ς ks)(r:RepB K F H d v):∃b,v=.ref b/\F b=ς (.t (ks.map kV)):=by
 have U:∀{a:J4}{x y:V},SqT K F a [x,y]->((∃n s,x=.int n/\y=.str s)\/∃n s,x=.str s/\y=.int n)->F a=ς (.t [x,y]):=λ{a x y} h hx=>by
  rcases h with h|⟨o,J3,m,hk,hc,Z,hz,r⟩
  .exact h
  .have O:=qb9.mp hK (a,o) (ly hk);dsimp only at O;rw[Z.1]at O;dsimp only at O;generalize J3.toList=w at O r;obtain _|⟨W,_|⟨r2,_|_⟩⟩:=r;rcases hx with ⟨n,s,rfl,rfl⟩|⟨n,s,rfl,rfl⟩<;>(have⟨t1,rfl⟩:=W;have⟨t2,rfl⟩:=r2;cases O)
 unfold isK at h;split at h<;>cases h
 all_goals
  have⟨a,vs,rfl,h1,h2⟩:=r;unfold Reps at h2;have⟨v1,w1,rfl,q1,h2⟩:=h2;unfold Reps at h2;have⟨v2,w2,rfl,q2,h2⟩:=h2;unfold Reps at h2;subst h2;rwa[Rep]at q1 q2;subst q1 q2
 .exact⟨a,rfl,U h1 (.inl ⟨_,_,rfl,rfl⟩)⟩
 .exact⟨a,rfl,U h1 (.inr ⟨_,_,rfl,rfl⟩)⟩
def bQ(x k:Dt):ζ (ζ Dt):=match x with
 |.dct ks l=>(cO k).map (av ks l)
 |.dcT ks l=>(isK k).map (av ks l)
 |_=>ψ
theorem ia{k:Dt}{r:ζ Dt}(hK:fL K=θ)(fh:Same F H)(Z:RepB K F H x vx)(W:RepB K F H k vk)(h:bQ x k=ς r):∃a o,vx=.ref a/\DGet H a vk o/\(∀d,r=ς d->∃v,o=ς v/\Rep K F d v)/\(r=ψ->o=ψ):=by
 cases x with
 |dct ks l=>have⟨q,U,rfl⟩:=mS h;have⟨a,J1,rfl,h1,rfl,O⟩:=Z;refine⟨a,_,rfl,.inl ⟨J1,q,h1,dz W U,rfl⟩,?_⟩;exact⟨λd e=>fH O e,λe=>fJ O e⟩
 |dcT ks l=>have⟨q,U,rfl⟩:=mS h;have⟨a,J1,rfl,h1,rfl,O⟩:=Z;have⟨b,rfl,hb⟩:=kf hK U W;refine⟨a,_,rfl,.inr ⟨J1,q,b,h1,rfl,fh _ _ hb,rfl⟩,?_⟩;exact⟨λd e=>fH O e,λe=>fJ O e⟩
 |_=>cases h
noncomputable def lkC{κ:Type}[DecidableEq κ](l:η (κ×CV))(k:κ):ζ CV:=(l.find? λp=>decide (p.1=k)).map (·.2)
theorem gv {κ:Type} [DecidableEq κ] {k:κ}:∀ {l:η (κ×CV)} {J1:η (κ×V)},J1.map (·.1)=l.map (·.1)->RelSs G F ρ n (l.map (·.2)) (J1.map (·.2))→
  match lkC l k with|some c=>∃v,bH J1 k=ς v/\RelS G F ρ n c v|none=>bH J1 k=ψ
 |[],[],_,_=>rfl
 |[],p::J1,e,_=>by cases e
 |p::l,[],e,_=>by cases e
 |(k1,c)::l,(k2,v)::J1,e,r=>by
  rwa[qa2,zc1]at e;have⟨rfl,e⟩:=e;obtain _|⟨Z,W⟩:=r;have ih:=gv (k:=k) e W;by_cases O:k2=k
  .subst O;rwa[lkC,qk8,decide_true,qb0];exact⟨v,by simp[bH],Z⟩
  .have U:lkC ((k2,c)::l) k=lkC l k:=by simp[lkC,qk8,O]
   have e2:bH ((k2,v)::J1) k=bH J1 k:=by simp[bH,O]
   rw[U,e2];exact ih
def ixO(o:CO)(d:Dt):ζ CV:=match o with
 |.e l=>(asI d).bind (atI l)
 |.t l=>(asI d).bind (atI l)
 |.dK l=>(cO d).bind (lkC l)
 |.dT l=>(isK d).bind (lkC l)
 |_=>ψ
def ixD(x d:Dt):ζ Dt:=match bQ x d with
 |some r=>r
 |none=>match gIx x d with
  |some (.f y)=>ς y
  |_=>ψ
def ixV(ch:CH)(x:CV)(d:Dt):ζ CV:=match x with
 |.ref i=>(ch[i]?).bind λo=>ixO o d
 |x=>(vw ch x).bind λx=>(ixD x d).map .g
def eIx(fa fb:Fg):Fg:=λδ ch=>(fa δ ch).bind λp=>(fb δ p.2).bind λq=>(vw q.2 q.1).bind λd=>(ixV q.2 p.1 d).map λc=>(c,q.2)
def ib{v:V}(h:asI d=ς j)(r:RepB K F H d v):v=.int j:=by cases d<;>cases h;exact r
theorem oE{l:η CV}{c:CV}(r:RelSs G F ρ n l vs)(h:atI l j=ς c):∃v,atI vs j=ς v/\RelS G F ρ n c v:=by unfold atI at h ⊢;have⟨k,h1,h2⟩:=bS h;rw[RelSs.length r,h1];exact Paired.get r h2
def kIx:η CV->Fg:=λcs _ ch=>match cs with
 |[x,y]=>(vw ch y).bind λd=>(ixV ch x d).map λc=>(c,ch)
 |_=>ψ
omit x in
def A8(hI:fL G.K=θ){x:V}(h:tK G RV kIx σ [x,y] H Q):rIx G.K x y H Q\/AX x y H Q:=by
 have⟨Φ,δ,ch,F,ρ,cs,c,ch',en,rs,hf,k⟩:=h;obtain _|@⟨cx,_,_,_,r1,_|@⟨cy,_,_,_,r2,_|_⟩⟩:=rs;have⟨d,hd,hf⟩:=bS hf;have⟨c',hc,e⟩:=mS hf;cases e;have rd:=aN en.gh r2 hd
 have dta:∀x z y,vw ch cx=ς x->ixD x d=ς y->CV.g y=c->RepB G.K F H x z->rIx G.K z _ H Q\/AX z _ H Q:=λx z y _ hi hy rx=>by
  subst hy;unfold ixD at hi;split at hi
  .rename_i r hr;have⟨a,o,e,hg,hm⟩:=ia hI en.gh.fh rx rd hr;have⟨v,rfl,rv⟩:=hm.1 _ hi;exact .inr ⟨a,v,e,hg,k.dat en.gh rv⟩
  .split at hi<;>cases hi
   rename_i hg;exact .inl (r_ix F H x d _ _ Q _ en.gh.fh rx rd hg (bP (m:=.v) (t:=.f y) en.gh rfl k))
 cases cx with
 |ref i=>
  have⟨_,rfl⟩:=r1;have⟨o,ho,hc⟩:=bS hc;have O:=en.gh.ok i o ho;cases o with
  |e l=>have⟨j,W,hc⟩:=bS hc;have⟨vs,h1,h2⟩:=O;have⟨u,U,Z⟩:=oE h2 hc;exact .inl (.inl ⟨_,vs,j,u,rfl,ib W rd,SqL.of h1,U,k.sol (.refl en.gh) Z⟩)
  |t l=>have⟨j,W,hc⟩:=bS hc;have⟨vs,h1,h2⟩:=O;have⟨u,U,Z⟩:=oE h2 hc;exact .inl (.inr (.inl ⟨_,vs,j,u,rfl,ib W rd,SqT.of h1,U,k.sol (.refl en.gh) Z⟩))
  |dK l=>have⟨j,W,hc⟩:=bS hc;have⟨nd,J1,h1,h2,h3⟩:=O;have lk:=gv (k:=j) h2 h3;rw[hc]at lk;have⟨u,U,Z⟩:=lk;refine .inr ⟨_,u,rfl,?_,k.sol (.refl en.gh) Z⟩;rw[dz rd W,<- U];exact DGet.k h1
  |dT l=>have⟨j,W,hc⟩:=bS hc;have⟨nd,J1,h1,h2,h3⟩:=O;have⟨b,rfl,hb⟩:=kf hI W rd;have lk:=gv (k:=j) h2 h3;rw[hc]at lk;have⟨u,U,Z⟩:=lk;refine .inr ⟨_,u,rfl,?_,k.sol (.refl en.gh) Z⟩;rw[<- U];exact DGet.t h1 (en.gh.fh _ _ hb)
  |ins c l=>cases hc
 |g x0=>have hc:(vw ch (.g x0)).bind (λx=>(ixD x d).map .g)=ς c:=hc;have⟨x,hx,hc⟩:=bS hc;have⟨y,hy,e⟩:=mS hc;exact dta x _ y hx hy e (aN en.gh r1 hx)
 |own b t=>have⟨x,hx,hc⟩:=bS hc;have⟨y,hy,e⟩:=mS hc;exact dta x _ y hx hy e (aN en.gh r1 hx)
 |fn _ _=>cases hc
theorem Db{k:Nat}(Z:X.K=G.K)(O:fL G.K=θ)(U:Room k X.A)(W:GE G X a fa)(hb:GE G X b fb)(hs:jP b):GE G X (.Subscript a b pos) (eIx fa fb):=PE.mono (CU (IxR.or Am (wG (lp U))) W hb hs) λσ H Q h=>(tK.two (k:=kIx) h).imp λ_ _ h=>h.imp λ_ _ h=>by rw[Z];exact A8 O h
def jn(G:Gx)(c:Nat):Prop:=∀p,G.ct[c]?=ς p->∃C,ClsAt G.K p.1 C/\Cls G.K C/\p.2.Nodup/\∀f∈p.2,NoAttr G.K C f
noncomputable def eAt(c f:Nat)(fa:Fg):Fg:=λδ ch=>(fa δ ch).bind λp=>match p.1 with
 |.ref i=>match p.2[i]? with
  |some (.ins O l)=>if O=c then(l[f]?).map λx=>(x,p.2)else ψ
  |_=>ψ
 |_=>ψ
theorem dR{f:Str}:∀{fs:η (Str×V)}{j:Nat}{v:V},(fs.map (·.1)).Nodup->(fs.map (·.1))[j]?=ς f->(fs.map (·.2))[j]?=ς v->fs.lookup f=ς v
 |[],j,v,_,h,_=>by simp at h
 |(g,x)::fs,0,v,_,h,h'=>by simp at h h';subst h h';simp[qh1]
 |(g,x)::fs,j+1,v,O,h,h'=>by
  rwa[qa2,qd7]at O;rwa[qa2,qd3]at h h'
  have U:(f==g)=ξ:=by
   have:f≠g:=λe=>O.1 (by rw[<- e];exact qa5 h)
   simpa using this
  rwa[qh1,U];exact dR O.2 h h'
theorem lz{ns:η Str}{l:η CV}{fs:η (Str×V)}{j:Nat}{x:CV}(h:fs.map (·.1)=ns.take l.length)(O:l[j]?=ς x){f:Str}(U:ns[j]?=ς f):(fs.map (·.1))[j]?=ς f:=by rw[h,qq8 (ak O)];exact U
omit x in
theorem Dc{c f:Nat}{pn:Str×η Str}{fn:Str}(hK:X.K=G.K)(hc:jn G c)(hp:G.ct[c]?=ς pn)(hn:pn.2[f]?=ς fn)(h:GE G X o fa)(hb:qi8 o fn X.env (eval o X.env)=eval o X.env):GE G X (.Attribute o fn pos) (eAt c f fa):=PE.mono (Af h hb) λσ H Q hq3=>by
 have⟨Φ,δ,ch,F,ρ,c0,ch',en,O,kk⟩:=hq3;have⟨⟨c1,ch1⟩,h1,hg'⟩:=bS O;clear O;have O:=hg';clear hg';cases c1 with
 |ref i=>
  dsimp only at O;rcases O
  rename_i c' l ho;rcases O
  rename_i Z;subst Z;have⟨x,hx,e⟩:=mS O;cases e;refine⟨Φ,δ,ch,F,ρ,_,_,en,h1,λv F1 H1 ρ1 a1 r1=>?_⟩;have⟨p',C',dx,fs,U,h0,ha,h2,h3⟩:=a1.gh.ok i _ ho;rw[hp]at U;cases U
  have⟨C,hC,W,nd,hna⟩:=hc pn hp;have:=hC.inj h0;subst this;have⟨u,hu,ru⟩:=Paired.get h3 hx;exact⟨_,C,dx,fs,u,r1.1.2,ha,by rw[hK];exact W,by rw[hK];exact hna _ (qa5 hn),dR (by rw[h2];exact nd.sublist (qp0 _ _)) (lz h2 hx hn) hu,kk.sol a1 ru⟩
 |_=>cases O
abbrev Fd:=η CV->CH->ζ (CV×CH)
def RS:RL CV V:=λG _ F _ ρ n c v=>RelS G F ρ n c v
def spZ(G:Gx)(n:Nat)(f:Fd):Sp:=λvs H Q _=>∃F ρ cs ch c ch',Gh G F H ρ ch/\cs.length=n/\(∀t,CV.own θ t∉cs)/\RelCs G F H ρ ch.length cs vs/\f cs ch=ς (c,ch')/\KM G RS F H ρ ch c ch' Q
noncomputable def CV.old:CV->Bool
 |.own θ _=>ξ
 |_=>θ
def A9{cs:η CV}(h:cs.all CV.old=θ)(t:T):CV.own θ t∉cs:=λz=>by have:=qb9.mp h _ z;cases this
def kCa(n:Nat)(g:Fd):η CV->Fg:=λcs _ ch=>if cs.length=n/\cs.all CV.old=θ then g cs ch else ψ
omit x in
def ic{g:Fd}(h:tK G RV (kCa n g) σ vs H Q):spZ G n g vs H Q E0:=by
 have⟨Φ,δ,ch,F,ρ,cs,c,ch',en,rs,O,k⟩:=h;unfold kCa at O;rcases O
 rename_i U;exact⟨F,ρ,cs,ch,c,ch',en.gh,U.1,A9 U.2,rs,O,λb F' H' ρ' a r=>k.sol a r⟩
def eCa(n:Nat)(g:Fd)(fs:FM (η CV)):Fg:=λδ ch=>(fs δ ch).bind λp=>kCa n g p.1 δ p.2
section
variable{sc:J9}{x:Str}{k n:Nat}{ps:η Str}{g:Fd}
theorem wH(h:aL sc x=θ)(F:OkF X.prog X.w X.K X.mg X.base x k ps (spZ G n g))(U:Room k X.A)(Z:GA G X (e::es) fs)(W:aY X sc)(he:qb1 (e::es) X.env=(ξ,eval e X.env)::qb1 es X.env)(O:(qh6 cpos (qb1 es X.env)).any (·.1)=ξ):GE G X (.Call (.Name x p) (e::es) [] cpos) (eCa n g fs):=PE.mono (qa h F U Z W he O) λσ H Q h=>(tK.args (k:=kCa n g) h).imp λvs H1 h=>by rw[qh8];exact ic h
def kg{Q:η V->Hp->Prop}(h:tM G RA aNl σ H Q):mL σ H Q:=h.ret λ_ _ _=>.nil
theorem sZ(h:aL sc x=θ)(F:OkF X.prog X.w X.K X.mg X.base x k ps (spZ G n g))(O:Room k X.A)(U:aY X sc):GE G X (.Call (.Name x p) [] [] cpos) (eCa n g aNl):=PE.mono (mX h F O U) λσ H Q h=>kg ((tK.args (k:=kCa n g) h).imp λvs H1 h=>by rw[qh8];exact ic h)
structure OkM(P:qe7)(w:J5)(K:xA9)(mg:Str->Option Value)(base:Heap)(c m:Str)(k:Nat)(ps:List Str)(sp:Sp):Prop where
 ex:∃C f fd,ClsAt K c C/\Cls K C/\Meth K C m f/\Binds K fd ps []/\FnOk P w K mg base CX0 k f fd ps sp
structure OkI(P:qe7)(w:J5)(K:xA9)(mg:Str->Option Value)(base:Heap)(c:Str)(k:Nat)(ps:List Str)(sp:Sp):Prop where
 ex:∃C f fd,ClsAt K c C/\mg c=ς (.ref C)/\Mk K C f/\Binds K fd ps []/\FnOk P w K mg base CX0 k f fd ps sp
def eMe(c n:Nat)(g:Fd)(fo:Fg)(fs:FM (η CV)):Fg:=λδ ch=>(fo δ ch).bind λp=>match p.1 with
 |.ref i=>match p.2[i]? with
  |some (.ins O _)=>if O=c then(fs δ p.2).bind λq=>kCa n g (.ref i::q.1) δ q.2 else ψ
  |_=>ψ
 |_=>ψ
theorem gb{m:Str}:∀{fs:η (Str×V)},m∉fs.map (·.1)->fs.lookup m=ψ
 |[],_=>rfl
 |(g,x)::fs,h=>by
  rwa[qa2,qc4,not_or]at h;have:(m==g)=ξ:=‹h.1›
  rwa[qh1,this];exact gb h.2
omit x in
theorem tf{c:Nat}{m:Str}{pn:Str×η Str}(hp:G.ct[c]?=ς pn)(h1:ClsAt G.K pn.1 C)(hm:m∉pn.2)(W:∀ σ H Q,tM G RA fs σ H Q->as σ H Q)(σ:ae)(H:Hp)(Q:VK)(h:tM G RV (eMe c n g fa fs) σ H Q):rL C m (spZ G n g) [] E0 (tM G RV fa) as σ H Q:=by
 have⟨Φ,δ,ch,F,ρ,c0,ch',en,O,kk⟩:=h;have⟨⟨c1,ch1⟩,h2,hg'⟩:=bS O;clear O;have O:=hg';clear hg';cases c1 with
 |ref i=>
  dsimp only at O;rcases O
  rename_i c' l ho;rcases O
  rename_i Z;subst Z;have⟨q,hq,hg3⟩:=bS O;refine⟨Φ,δ,ch,F,ρ,_,_,en,h2,λv F1 H1 ρ1 a1 r1=>?_⟩;have⟨p',C',dx,gs,U,h0,ha,h3,h4⟩:=a1.gh.ok i _ ho;rw[hp]at U;cases U
  have:=h1.inj h0;subst this;refine⟨_,dx,gs,r1.1.2,ha,gb (by rw[h3];exact λz=>hm (qp2 z)),W _ _ _ ⟨Φ,δ,ch1,F1,ρ1,q.1,q.2,en.adv a1,hq,λvs F2 H2 ρ2 a2 r2=>?_⟩⟩;show spZ G n g (v::(vs++[])) H2 Q E0;rw[qh8];exact ic (σ:=σ) ⟨Φ,δ,q.2,F2,ρ2,.ref i::q.1,c0,ch',(en.adv a1).adv a2,.cons (r1.1.adv a2) r2,hg3,(kk.adv a1).adv a2⟩
 |_=>cases O
theorem wI {c:Nat} {m:Str} {pn:Str×η Str} (hK:X.K=G.K) (hp:G.ct[c]?=ς pn) (U:m∉pn.2) (F:OkM X.prog X.w X.K X.mg X.base pn.1 m k ps (spZ G n g)) (hr:Room k X.A) (ho:GE G X o fa) (W:GA G X (e::es) fs) {pl:Sem Bool} (he:qb1 (e::es) X.env=(ξ,eval e X.env)::qb1 es X.env) (O:(qh6 cpos (qb1 es X.env)).any (·.1)=ξ)
  (ht:eval (.Call (.Attribute o m apos) (e::es) [] cpos) X.env=(do
   let ov <- eval o X.env
   qw6 apos.atName
   let (f,first) <- qp1 [ov] (qu6 ov m pl)
   zc8 cpos f first (qh6 cpos (qb1 (e::es) X.env)) (qo9 cpos (qi4 [] X.env)))):GE G X (.Call (.Attribute o m apos) (e::es) [] cpos) (eMe c n g fa fs):=by
 have⟨C,f,fd,h1,h2,h3,h4,Z⟩:=F.ex;rw[hK]at h1;exact PE.mono (v3 ho h2 h3 Z hr h4 .nil g9 W he O ht) (tf hp h1 U λ_ _ _ q=>q)
theorem tj {c:Nat} {m:Str} {pn:Str×η Str} (hK:X.K=G.K) (hp:G.ct[c]?=ς pn) (O:m∉pn.2) (F:OkM X.prog X.w X.K X.mg X.base pn.1 m k ps (spZ G n g)) (hr:Room k X.A) (W:GE G X o fa) {pl:Sem Bool}
  (ht:eval (.Call (.Attribute o m apos) [] [] cpos) X.env=(do
   let ov <- eval o X.env
   qw6 apos.atName
   let (f,first) <- qp1 [ov] (qu6 ov m pl)
   zc8 cpos f first (qh6 cpos (qb1 [] X.env)) (qo9 cpos (qi4 [] X.env)))):GE G X (.Call (.Attribute o m apos) [] [] cpos) (eMe c n g fa aNl):=by
 have⟨C,f,fd,h1,h2,Z,h4,U⟩:=F.ex;rw[hK]at h1;exact PE.mono (rO W h2 Z U hr h4 .nil g9 ht) (tf hp h1 O λ_ _ _ q=>kg q)
def eMk(c n:Nat)(g:Fd)(fs:FM (η CV)):Fg:=λδ ch=>(fs δ ch).bind λp=>(kCa n g (.ref p.2.length::p.1) δ (p.2++[.ins c []])).bind λq=>match q.1 with
 |.g .non=>if p.2.length<q.2.length then ς (.ref p.2.length,q.2)else ψ
 |_=>ψ
omit x in
theorem tm{c:Nat}{pn:Str×η Str}(hp:G.ct[c]?=ς pn)(h1:ClsAt G.K pn.1 C)(W:∀ σ H Q,tM G RA fs σ H Q->as σ H Q)(σ:ae)(H:Hp)(Q:VK)(h:tM G RV (eMk c n g fs) σ H Q):rM C (spZ G n g) [] E0 as σ H Q:=by
 have⟨Φ,δ,ch,F,ρ,c0,ch',en,hg,kk⟩:=h;have⟨p,h2,hg2⟩:=bS hg;have⟨⟨q,ch2⟩,h3,O⟩:=bS hg2;dsimp only at O;rcases O
 rcases O
 rename_i Z;cases O;refine W _ _ _ ⟨Φ,δ,ch,F,ρ,p.1,p.2,en,h2,λvs F1 H1 ρ1 a1 r1 x dx hx U hne=>?_⟩;rw[qh8];have st:Step F1 H1 F1 (upd (upd H1 dx (.own x)) x (.ins C dx [])):=(Step.made a1.gh.fh U).trans (Step.made (a1.gh.fh.trans (Same.upd U)) (by rw[ai (qk7 hne)];exact hx))
 have a2:Adv G F1 H1 ρ1 p.2 F1 (upd (upd H1 dx (.own x)) x (.ins C dx [])) (λi=>if i=p.2.length then x else ρ1 i) (p.2++[.ins c []]):=Adv.new a1.gh st hx (a1.gh.fh.free hx) ⟨pn,C,dx,[],hp,h1,af,rfl,.nil⟩
 have hz:(λi=>if i=p.2.length then x else ρ1 i) p.2.length=x:=if_pos rfl;refine ic (σ:=σ) (G:=G) ⟨Φ,δ,p.2++[.ins c []],F1,_,.ref p.2.length::p.1,.g .non,ch',(en.adv a1).adv a2,.cons ⟨Ξ,Ξ⟩ (RelCs.adv a2 r1),h3,λv F3 H3 ρ3 a3 r3=>⟨?_,?_⟩⟩
 .exact r3.1
 .have hl:p.2.length<(p.2++[CO.ins c []]).length:=by simp
  exact kk.sol ((a1.trans a2).trans a3) ⟨Z,by rw[a3.ext _ hl];simp⟩
theorem wJ{c:Nat}{pn:Str×η Str}(hK:X.K=G.K)(hp:G.ct[c]?=ς pn)(h:aL sc pn.1=θ)(F:OkI X.prog X.w X.K X.mg X.base pn.1 k ps (spZ G n g))(hr:Room (k+1) X.A)(W:GA G X (e::es) fs)(U:aY X sc)(he:qb1 (e::es) X.env=(ξ,eval e X.env)::qb1 es X.env)(O:(qh6 cpos (qb1 es X.env)).any (·.1)=ξ):GE G X (.Call (.Name pn.1 p) (e::es) [] cpos) (eMk c n g fs):=by have⟨C,f,fd,h1,h2,h3,h4,Z⟩:=F.ex;rw[hK]at h1;exact PE.mono (v4 h3 Z hr (glD h U) h2 h4 .nil g9 W (cu h) he O) (tm hp h1 λ_ _ _ q=>q)
theorem tp{c:Nat}{pn:Str×η Str}(Z:X.K=G.K)(hp:G.ct[c]?=ς pn)(h:aL sc pn.1=θ)(F:OkI X.prog X.w X.K X.mg X.base pn.1 k ps (spZ G n g))(O:Room (k+1) X.A)(U:aY X sc):GE G X (.Call (.Name pn.1 p) [] [] cpos) (eMk c n g aNl):=by have⟨C,f,fd,h1,h2,h3,h4,W⟩:=F.ex;rw[Z]at h1;exact PE.mono (rP h3 W O (glD h U) h2 h4 .nil g9 (cu h)) (tm hp h1 λ_ _ _ q=>kg q)
end
end
noncomputable def CV.kp:CV->Bool
 |.own ξ _=>ξ
 |_=>θ
section
variable{G:Gx}{Φ:Fr0}{F H F' H' F1 H1:Hp}{ρ ρ' ρ1:Nat->J4}{n:Nat}{δ:Sl}{σ:ae}{ch ch' ch1 ch2:CH}{c:CV}{v:V}{Q:VK}{d:Dt}{t t':T}{i:Nat}{a:J4}
def RelW.there(h:RelW G F H ρ n t v):∃a o,v=.ref a/\H a=ς o/\NT o:=by
 have⟨x,rfl,O,U,_⟩:=h;cases t<;>try(cases O;done)
 all_goals (have⟨b,vs,e,rfl,h1,_⟩:=U;exact⟨_,_,rfl,h1,by intro _ z;cases z⟩)
theorem Ge.put(W:Ge G Φ δ ch σ F H ρ)(ad:Adv G F H ρ ch F' H' ρ' ch')(r:RelC G F' H' ρ' ch'.length c v)(hn:yO H c v)(hk:c.kp=θ)(i:Nat):Ge G Φ (δ.set i (ς c)) ch' (σ.set i (ς v)) F' H' ρ':=by
 have en:=W.adv ad;have hl:=en.len
 have U:∀(j:Nat)(b:Bool)(u:T)(x:J4),δ[j]?=ς (ς (.own b u))->σ[j]?=ς (ς (.ref x))->∃o,H x=ς o:=λj b u x h1 h2=>by
  have⟨w,e1,e2⟩:=W.has j _ h1;have⟨y,o,rfl,ho,_⟩:=RelW.there e2;rw[h2]at e1;cases e1
  exact⟨o,ho⟩
 refine⟨en.ad,by simp[hl],λj c' h=>?_,λj u x h h'=>?_,λj k u w b x Z h1 h2 h3 h4=>?_⟩
 .rcases aH h with ⟨rfl,e⟩|⟨O,h⟩
  .cases e;refine⟨v,?_,r⟩;have hi:i<δ.length:=by have:=ak h;simpa using this
   rw[qe5 Θ]
  .have⟨w,e1,e2⟩:=en.has j c' h;exact⟨w,by rw[gN O];exact e1,e2⟩
 .rcases aH h with ⟨rfl,e⟩|⟨O,h⟩
  .cases e;rcases aH h' with ⟨_,e'⟩|⟨z,_⟩
   .cases e';exact W.ad.hs x (hn u rfl x rfl)
   .exact absurd rfl z
  .rw[gN O]at h';exact en.nw j u x h h'
 .rcases aH h1 with ⟨rfl,e⟩|⟨O,h1'⟩
  .cases e;rcases aH h2 with ⟨z,_⟩|⟨_,h2⟩
   .exact Z z
   .rw[gN Z]at h4;rcases aH h3 with ⟨_,e'⟩|⟨z,_⟩
    .cases e';have⟨o,ho⟩:=U k b w x h2 h4;rw[hn u rfl x rfl]at ho;cases ho
    .exact absurd rfl z
  .rw[gN O]at h3;rcases aH h2 with ⟨rfl,e⟩|⟨hne2,h2⟩
   .cases e;rcases aH h4 with ⟨_,e'⟩|⟨z,_⟩
    .cases e';cases b with
     |false=>cases hk
     |true=>have⟨o,ho⟩:=U j θ u x h1' h3;rw[hn w rfl x rfl]at ho;cases ho
    .exact absurd rfl z
   .rw[gN hne2]at h4;exact en.dis j k u w b x Z h1' h2 h3 h4
theorem Ge.poke(en:Ge G Φ δ ch σ F H ρ){o:HO}(h:δ[i]?=ς (ς (.own θ t)))(Z:σ[i]?=ς (ς (.ref a)))(ht:t'.own=θ)(ho:Own G.K F (upd H a o) t' (.ref a) (· = a)):Ge G Φ (δ.set i (ς (.own θ t'))) ch σ F (upd H a o) ρ:=by
 have⟨w,W,e2⟩:=en.has i _ h;rw[Z]at W;cases W
 have⟨a',e,_,_,hF,hp⟩:=id e2;cases e;have hΦ:=en.nw i t a h Z;have adv:Adv G F H ρ ch F (upd H a o) ρ ch->True:=λ_=>trivial
 have fh:Same F (upd H a o):=λb x e=>by rw[ai λq=>by rw[q,hF]at e;cases e];exact en.gh.fh b x e
 have gh:Gh G F (upd H a o) ρ ch:=⟨fh,en.gh.inj,en.gh.out,λj x hx=>(en.gh.ok j x hx).mono (Same.refl _) (λ_ _=>rfl) (nL _) λy hy=>by rw[ai (hp j (ak hx))];exact hy⟩;refine⟨⟨gh,en.ad.len,en.ad.ext,en.ad.fr,λb x h1 h2=>?_,en.ad.old,en.ad.nw,λb h=>?_⟩,by simp[en.len],λj c h1=>?_,λj u x h1 h2=>?_,λj k u w b x O h1 h2 h3 h4=>?_⟩
 .rw[ai λq=>by rw[q,hΦ]at h1;cases h1];exact en.ad.prot b x h1 h2
 .by_cases q:b=a
  .subst q;rw[af]at h;cases h
  .rw[ai q]at h;exact en.ad.hs b h
 .rcases aH h1 with ⟨rfl,e⟩|⟨U,h1⟩
  .cases e;exact⟨.ref a,Z,a,rfl,ht,ho,hF,hp⟩
  .have⟨w,W,e3⟩:=en.has j c h1;refine⟨w,W,?_⟩;cases c with
   |own b u=>
    have⟨x,e,hu,hw,r1,r2⟩:=id e3;subst e;have hxa:x≠a:=λz=>by subst z;exact en.dis i j t u b x U h h1 Z W
    exact⟨x,rfl,hu,Own.step (Same.refl _) (λy o e h=>by cases e;rw[ai hxa];exact h) hw,r1,r2⟩
   |_=>exact e3
 .rcases aH h1 with ⟨rfl,e⟩|⟨U,h1⟩
  .rw[Z]at h2;cases h2;exact hΦ
  .exact en.nw j u x h1 h2
 .rcases aH h1 with ⟨rfl,e⟩|⟨U,h1⟩
  .rcases aH h2 with ⟨z,_⟩|⟨_,h2⟩
   .exact O z
   .exact en.dis i k t w b x O h h2 h3 h4
  .rcases aH h2 with ⟨rfl,e⟩|⟨_,h2⟩
   .exact en.dis j i u t θ x O h1 h h3 h4
   .exact en.dis j k u w b x O h1 h2 h3 h4
theorem Ge.frz(en:Ge G Φ δ ch σ F H ρ)(h:δ[i]?=ς (ς (.own θ t)))(hd:t.d=ς d):∃F',Ge G Φ (δ.set i (ς (.g d))) ch σ F' H ρ:=by
 have⟨w,e1,e2⟩:=en.has i _ h;have⟨a,rfl,ht,ho,hF,hp⟩:=id e2;have hΦ:=en.nw i t a h e1;have W:Same F (j0 F H (· = a)):=j6 λb z=>by cases z;exact hF
 have O:∀b,b≠a->j0 F H (· = a) b=F b:=λb hb=>et hb
 have gh:Gh G (j0 F H (· = a)) H ρ ch:=⟨oo en.gh.fh,en.gh.inj,λj x Z hl=>by rw[O _ (hp j (ak Z))];exact en.gh.out j x Z hl,λj x Z=>(en.gh.ok j x Z).mono W (λ_ _=>rfl) (nL _) λ_ h=>h⟩;refine⟨_,⟨gh,en.ad.len,en.ad.ext,en.ad.fr,en.ad.prot,en.ad.old.trans W,λb o z=>?_,en.ad.hs⟩,by simp[en.len],λj c h1=>?_,λj u x h1 h2=>?_,λj k u w b x hjk h1 h2 h3 h4=>?_⟩
 .by_cases hb:b=a
  .subst hb;exact .inr (.inl hΦ)
  .rw[O b hb]at z;exact en.ad.nw b o z
 .rcases aH h1 with ⟨rfl,e⟩|⟨U,h1⟩
  .cases e;exact⟨_,e1,Own.freeze (λb z=>by cases z;exact hF) ho hd⟩
  .have⟨w,q1,q2⟩:=en.has j c h1;refine⟨w,q1,?_⟩;cases c with
   |own b u=>
    have⟨x,e,hu,hw,r1,r2⟩:=id q2;subst e;have hxa:x≠a:=λz=>by subst z;exact en.dis i j t u b x U h h1 e1 q1
    exact⟨x,rfl,hu,Own.step W (λ_ _ _ h=>h) hw,by rw[O x hxa];exact r1,r2⟩
   |g d=>exact Rep.same W q2
   |ref k=>exact q2
   |fn x F0=>exact⟨q2.1,q2.2.trans W⟩
 .rcases aH h1 with ⟨rfl,e⟩|⟨U,h1⟩
  .cases e
  .exact en.nw j u x h1 h2
 .rcases aH h1 with ⟨rfl,e⟩|⟨U,h1⟩
  .cases e
  .rcases aH h2 with ⟨rfl,e⟩|⟨_,h2⟩
   .cases e
   .exact en.dis j k u w b x hjk h1 h2 h3 h4
end
inductive Og where
 |nx (δ:Sl) (ch:CH)|rt (c:CV) (ch:CH)|bk (δ:Sl) (ch:CH)|ct (δ:Sl) (ch:CH)
def PostZ(G:Gx)(Φ:Fr0)(D:Ends):Og->Prop
 |.nx δ ch=>∀ σ F H ρ,Ge G Φ δ ch σ F H ρ->D.nx σ H
 |.bk δ ch=>∀ σ F H ρ,Ge G Φ δ ch σ F H ρ->D.bk σ H
 |.ct δ ch=>∀ σ F H ρ,Ge G Φ δ ch σ F H ρ->D.ct σ H
 |.rt c ch=>∀v F H ρ,Adv G Φ.F Φ.H Φ.ρ Φ.ch F H ρ ch->RelS G F ρ ch.length c v->D.rt v H
abbrev Fs:=Sl->CH->ζ Og
def tZ(G:Gx)(g:Fs):TS:=λD σ H=>∃ Φ δ ch F ρ o,Ge G Φ δ ch σ F H ρ/\g δ ch=ς o/\PostZ G Φ D o
def GS1(G:Gx)(X:Cx)(st:J6)(g:Fs):Prop:=PSBq X st (tZ G g)
def GS(G:Gx)(X:Cx)(ss:η J6)(g:Fs):Prop:=PSs X ss (tZ G g)
variable{sc:J9}{N:η Str}
section
variable{G:Gx}{X:Cx}{st:J6}{rest a b body:η J6}{g g1 g2:Fs}{e c o tg iter:J8}{es:η J8}{pos pos' apos cpos:Pos}{f fa fe fk:Fg}{tc:FM Bool}{i:Nat}
noncomputable def ax:Fs:=λδ ch=>ς (.nx δ ch)
noncomputable def aj(g1 g2:Fs):Fs:=λδ ch=>(g1 δ ch).bind λo=>match o with
 |.nx δ' ch'=>g2 δ' ch'
 |o=>ς o
def Ba:GS G X [] ax:=PSs.mono vN λD σ H O=>by have⟨Φ,δ,ch,F,ρ,o,en,U,k⟩:=O;cases U;exact k σ F H ρ en
def wK(h1:GS1 G X st g1)(h2:GS G X rest g2):GS G X (st::rest) (aj g1 g2):=PSs.mono (qZ h1 h2) λD σ H U=>by
 have⟨Φ,δ,ch,F,ρ,o,en,hg,k⟩:=U;have⟨Z,h1,O⟩:=bS hg;refine⟨Φ,δ,ch,F,ρ,Z,en,h1,?_⟩;cases Z with
 |nx δ' ch'=>exact λσ' F' H' ρ' W=>⟨Φ,δ',ch',F',ρ',o,W,O,k⟩
 |bk _ _=>cases O;exact k
 |ct _ _=>cases O;exact k
 |rt _ _=>cases O;exact k
def EH:GS1 G X (.Pass pos) ax:=PSBq.mono vO λD σ H O=>by have⟨Φ,δ,ch,F,ρ,o,en,U,k⟩:=O;cases U;exact k σ F H ρ en
theorem gs_doc{y j}:GS1 G X (.Expr (.Constant (.str y) j pos) pos') ax:=PSBq.mono zL λD σ H O=>by have⟨Φ,δ,ch,F,ρ,o,en,U,k⟩:=O;cases U;exact k σ F H ρ en
def sFz(i:Nat)(g:Fs):Fs:=λδ ch=>match δ[i]? with
 |some (ς (.own θ t))=>t.d.bind λd=>g (δ.set i (ς (.g d))) ch
 |_=>ψ
omit x in
def Bb(h:GS G X rest g):GS G X rest (sFz i g):=PSs.mono h λD σ H U=>by
 have⟨Φ,δ,ch,F,ρ,o,en,O,k⟩:=U;unfold sFz at O;rcases O
 rename_i t ht;have⟨d,hd,Z⟩:=bS O;have⟨F',W⟩:=en.frz ht hd;exact⟨Φ,_,ch,F',ρ,o,W,Z,k⟩
noncomputable def sDr(f:Fg):Fs:=λδ ch=>(f δ ch).map λp=>.nx δ p.2
theorem wL(h:GE G X e f)(hs:qi9 e ψ pos.line X.env=pure ξ):GS1 G X (.Expr e pos) (sDr f):=PSBq.mono (dq h hs) λD σ H O=>by have⟨Φ,δ,ch,F,ρ,o,en,U,k⟩:=O;have⟨p,h1,e⟩:=mS U;cases e;exact⟨Φ,δ,ch,F,ρ,p.1,p.2,en,h1,λv F' H' ρ' a r=>k σ F' H' ρ' (en.adv a)⟩
def sRt(f:Fg):Fs:=λδ ch=>(f δ ch).bind λp=>if p.1.sol then ς (.rt p.1 p.2)else ψ
omit x in
def Bc(h:GE G X e f):GS1 G X (.Return (ς e) pos) (sRt f):=PSBq.mono (zM h) λD σ H O=>by
 have⟨Φ,δ,ch,F,ρ,o,en,W,k⟩:=O;have⟨p,h1,U⟩:=bS W;split at U<;>cases U
 rename_i Z;exact⟨Φ,δ,ch,F,ρ,p.1,p.2,en,h1,λv F' H' ρ' a r=>k v F' H' ρ' (en.ad.trans a) (r.1.s Z)⟩
noncomputable def sRn:Fs:=λ_ ch=>ς (.rt (.g .non) ch)
theorem wM:GS1 G X (.Return ψ pos) sRn:=PSBq.mono vP λD σ H O=>by have⟨Φ,δ,ch,F,ρ,o,en,U,k⟩:=O;cases U;exact k .non F H ρ en.ad (by show Rep G.K F .non .non;rwa[Rep])
noncomputable def sIf(c:FM Bool)(g1 g2:Fs):Fs:=λδ ch=>(c δ ch).bind λp=>if p.1 then g1 δ p.2 else g2 δ p.2
theorem Dg(hc:GT G X c tc)(h1:GS G X a g1)(h2:GS G X b g2):GS1 G X (.If c a b pos) (sIf tc g1 g2):=PSBq.mono (CC hc h1 h2) λD σ H U=>by
 have⟨Φ,δ,ch,F,ρ,o,en,W,k⟩:=U;have⟨p,h1,O⟩:=bS W;refine⟨Φ,δ,ch,F,ρ,p.1,p.2,en,h1,λb F' H' ρ' a r=>?_⟩;cases r;cases q:p.1 with
 |true=>rw[q]at O;exact⟨Φ,δ,p.2,F',ρ',o,en.adv a,O,k⟩
 |false=>rw[q]at O;exact⟨Φ,δ,p.2,F',ρ',o,en.adv a,O,k⟩
def bC(i:Nat)(f:Fg):Fs:=λδ ch=>(f δ ch).bind λp=>if p.1.kp then ς (.nx (δ.set i (ς p.1)) p.2)else ψ
omit x in
theorem tq{x:Str}(h:b6 sc N i x=θ)(hl:iO sc x=θ)(W:N.Nodup)(he:GE G X e f)(Z:aY X sc)(e2:X.N=N)(hf:X.fn x=θ\/X.env.scope.names.lookup x=ς .local)
 (hs:qi9 e (ς (.Name x pos')) pos.line X.env=pure ξ):GS1 G X (.Assign [.Name x pos'] e pos) (bC i f):=PSBq.mono (wo h hl W he Z e2 hf hs) λD σ H O=>by
 have⟨Φ,δ,ch,F,ρ,o,en,hg,k⟩:=O;have⟨p,h1,U⟩:=bS hg;split at U<;>cases U
 rename_i hk;exact⟨Φ,δ,ch,F,ρ,p.1,p.2,en,h1,λv F' H' ρ' a r=>k _ F' H' ρ' (en.put a r.1 r.2 hk i)⟩
end
section
variable{prog:qe7}{w:J5}{A:ql5}{E:Value->qa8->Prop}{s:qa8}{I t:J4}{j:Nat}{vs:Array Value}
def nc{y:Value}(W:s.heap.IsTupleIter I t j)(hv:s.heap.IsTuple t vs)(hy:vs[j]?=ς y)
 (q:∀h',h'.IsTupleIter I t (j+1)->qg2 I s.heap h'->Q y {s with heap:=h'}):wpAny (model prog w) A (qm3 (.ref I)) Q E s:=by
 have⟨oi,U,hci,O⟩:=id W;have⟨ot,Z,_,nt,hdt⟩:=hv;unfold qm3;refine wB (qj8 (name:=qd0 "__next__") W.typeIs ql0 (qj6 ql0 W.typeIs qu9 ?_ (qu1 _)));show wpAny _ _ (field (.ref I) 0 >>= _) _ _ s;refine wB (qj5 U O (x:=.ref t) rfl ?_);show wpAny _ _ (if(qc1 t==qg4)=θ then _ else _) _ _ s;rw[if_neg (show ¬ (qc1 t==qg4)=θ by exact qb5)];show wpAny _ _ (field (.ref I) 1 >>= _) _ _ s;refine wB (qj5 U O (x:=.int j 0) rfl ?_);show wpAny _ _ (seqItems? (.ref t) >>= _) _ _ s;refine wB (qx3 Z hdt ?_);rwa[qi6,hy];refine qk2 (zd3 U O Ξ (qa7 ⟨y,rfl,qa7 (q _ ?_ (qq3 ..))⟩));exact⟨_,qf8 _ U (Obj.isFreed_of_fields (Obj.data_mapFields O _)),(Obj.cls_mapFields ..).trans hci,by rw[Obj.data_mapFields O];simp[qv5]⟩
def qi(hh:A.handled=ψ)(W:s.heap.IsTupleIter I t j)(hv:s.heap.IsTuple t vs)(hy:vs[j]?=ψ)
 (q:∀h' e,Heap.ExtBut I s.heap h'->(∃o,h'.get? e=ς o/\o.cls=.type "StopIteration")->E (.ref e) {s with heap:=h'}):wpAny (model prog w) A (qm3 (.ref I)) Q E s:=by
 have⟨oi,O,hci,U⟩:=id W;have⟨ot,Z,_,nt,hdt⟩:=hv;unfold qm3;refine wB (qj8 (name:=qd0 "__next__") W.typeIs ql0 (qj6 ql0 W.typeIs qu9 ?_ (qu1 _)));show wpAny _ _ (field (.ref I) 0 >>= _) _ _ s;refine wB (qj5 O U (x:=.ref t) rfl ?_);show wpAny _ _ (if(qc1 t==qg4)=θ then _ else _) _ _ s;rw[if_neg (show ¬ (qc1 t==qg4)=θ by exact qb5)];show wpAny _ _ (field (.ref I) 1 >>= _) _ _ s;refine wB (qj5 O U (x:=.int j 0) rfl ?_);show wpAny _ _ (seqItems? (.ref t) >>= _) _ _ s;refine wB (qx3 Z hdt ?_);rwa[qi6,hy];refine qk2 (wpAny_rule (qk2 (zd3 O U Ξ ?_)));show wpAny _ _ (newExc (.type "StopIteration") [] >>= _) _ _ _;refine wB ?_;rwa[newExc,newTuple];refine wB (qf4 ?_ (by first|size_fits|decide));refine qk2 (m:=qx4 _ _) (wpAny_of_eq (a:=qg4) (by first|rfl|(rwa[qx4]<;>rfl)) ?_);refine qf4 ?_ (by first|size_fits|decide);rwa[raiseNew];refine wB (wpAny_handled ?_)
 first|rw[hh]|rw[show A.in1.handled=ψ by exact hh]
 refine wB (qa7 (wpAny_throw ?_));exact q _ _ (((qq3 ..).extBut.push _).push _) ⟨_,qb8 _ rfl,rfl⟩
end
variable{prog:qe7}
theorem lA{w:J5}(W:A.handled=ψ)(I t:J4)(O:t≠I)(vs:Array Value):Draws prog w A I [I,t] vs.size (λi v=>vs[i]?=ς v) (λi h=>h.IsTupleIter I t i/\h.IsTuple t vs) where
 live:=λ_ _ st=>let ⟨o,ho,_⟩:=st.1;⟨o,ho⟩
 frame:=λ_ _ _ st U=>⟨let ⟨o,ho,r⟩:=st.1;⟨o,U I Ξ o ho,r⟩,let ⟨o,ho,r⟩:=st.2;⟨o,U t Ξ o ho,r⟩⟩
 item:=λi s Q E hi st Z=>nc st.1 st.2 (y:=vs[i]) (by simp[hi]) λh' a b=>Z _ h' s.toks (by simp[hi]) ⟨a,let ⟨o,ho,r⟩:=st.2;⟨o,b.extBut _ _ O ho,r⟩⟩ b
 done:=λs Q E st hE=>qi W st.1 st.2 Ξ hE
def SqB(b:Bool)(K:xA9)(H:Hp)(a:J4)(xs:η V):Prop:=match b with
 |true=>SqL K H a xs
 |false=>SqT K H a xs
def ItB(b:Bool)(h:Heap)(I a:J4)(i:Nat):Prop:=match b with
 |true=>h.IsListIter I a i
 |false=>h.IsTupleIter I a i
def CoB(b:Bool)(h:Heap)(a:J4)(vs:Array Value):Prop:=match b with
 |true=>h.IsList a vs
 |false=>h.IsTuple a vs
theorem ItB.obj{b:Bool}{h:Heap}{I:J4}{i:Nat}(x:ItB b h I a i):∃o,h.get? I=ς o/\(o.cls=.type "list_iterator"\/o.cls=.type "tuple_iterator")/\∀v,o.data≠.cell v:=by
 cases b with
 |true=>have⟨o,e,c,d⟩:=x;exact⟨o,e,.inl c,λv z=>by rw[d]at z;cases z⟩
 |false=>have⟨o,e,c,d⟩:=x;exact⟨o,e,.inr c,λv z=>by rw[d]at z;cases z⟩
variable{h':Heap}
def ItB.at{b:Bool}{h:Heap}{I:J4}{i:Nat}(x:ItB b h I a i)(k:∀o,h.get? I=ς o->h'.get? I=ς o):ItB b h' I a i:=by
 cases b with
 |true=>have⟨o,e,r⟩:=x;exact⟨o,k o e,r⟩
 |false=>have⟨o,e,r⟩:=x;exact⟨o,k o e,r⟩
theorem CoB.obj{b:Bool}{h:Heap}{vs:Array Value}(x:CoB b h a vs):∃o,h.get? a=ς o/\(o.cls=.type "list"\/o.cls=.type "tuple"):=by
 cases b with
 |true=>have⟨o,e,c,_⟩:=x;exact⟨o,e,.inl c⟩
 |false=>have⟨o,e,c,_⟩:=x;exact⟨o,e,.inr c⟩
def yT{x y:String}(h:x≠y):qo8 x≠qo8 y:=λz=>h (by cases z;rfl)
theorem tz{b c:Bool}{h:Heap}{I l:J4}{i:Nat}{vs:Array Value}(x:ItB b h I a i)(y:CoB c h l vs):l≠I:=by have⟨o,W,U,_⟩:=x.obj;have⟨o',e2,O⟩:=y.obj;rintro rfl;rw[W]at e2;cases e2;rcases U with U|U<;>rcases O with O|O<;>rw[U]at O<;>exact absurd O (yT Ω)
variable{t':Nat}{fp:η J4}
section
variable{X:Cx}{J0:η (J4×Obj)}{σ:ae}{H:Hp}{s:qa8}{a I:J4}{xs:η V}{b:Bool}
def Inv.seqB(J:Inv X J0 σ H s)(h:SqB b X.K H a xs):∃J3:η Value,Vals xs J3/\CoB b s.heap a J3.toArray:=by
 cases b with
 |true=>have⟨J3,r,p,_⟩:=J.list h;exact⟨J3,r,p.isList⟩
 |false=>have⟨J3,r,p,_⟩:=J.tuple h;exact⟨J3,r,p⟩
def Inv.seqB_inj{ys:η V}(J:Inv X J0 σ H s)(h:SqB b X.K H a xs)(h':SqB b X.K H a ys):xs=ys:=by
 cases b with
 |true=>exact J.list_inj h h'
 |false=>exact J.tuple_inj h h'
theorem tB{w:J5}(U:A.handled=ψ)(O:a≠I)(vs:Array Value):Draws prog w A I [I,a] vs.size (λi v=>vs[i]?=ς v) (λi h=>ItB b h I a i/\CoB b h a vs):=by
 cases b with
 |true=>exact Draws.list U I a O vs
 |false=>exact lA U I a O vs
theorem Inv.turnedL(J:Inv X J0 σ H s)(k:∀b o,b∉fp->s.heap.get? b=ς o->h'.get? b=ς o)(O:∀b∈fp,dO X J0 H b):Inv X J0 σ H {s with heap:=h',toks:=t'}:=by
 have U:∀b u,H b=ς u->b∉fp:=λb u e z=>by rw[(O b z).1]at e;cases e
 refine J.step (g':=s.gens) (d':=s.drawn) (ch:=fp) (λb hb=>?_) (λb o _ _ hc e _=>k b o hc e) (λb o _ _ hc e _=>⟨o.slots,k b o hc e⟩) (λ_ _ _ _ n=>n)
  (λb o hc e=>⟨o,k b o hc e⟩) (λ_ _ e=>e) (λ_ _ _ e=>e) (λb ps e=>⟨#[],by rw[e];simp⟩) (λ_ _ e=>e) (λm W=>?_) (λb u e=>?_) J.bare
 .exact⟨(O b hb).2.2.2.1,(O b hb).2.1,(O b hb).2.2.2.2.1,(O b hb).2.2.2.2.2⟩
 .have⟨o,es,ep,Z,r⟩:=W;exact⟨o,es,ep,k _ o (λz=>(O _ z).2.1 rfl) Z,r⟩
 .refine(J.hok b u e).stay (λc v hc q=>k c v ?_ q) (λ_ q=>q) (λ_ _ q=>q) λ_ _ _ q=>q
  rcases hc with z|z
  .rw[z];exact U b u e
  .exact U c _ z
end
section
variable{X:Cx}{J0:η (J4×Obj)}{σ:ae}{H:Hp}{s:qa8}
theorem Inv.turnedT {t:J4} (J:Inv X J0 σ H s) (k:∀ b o,b∉fp->s.heap.get? b=ς o->h'.get? b=ς o) (U:∀ b∈fp,dO X J0 H b) (ht:s.heap.objs.size<=t) (new:ObjOk X.prog X.w (upd H t u) h' t u) :
  Inv X J0 σ (upd H t u) {s with heap:=h',toks:=t'}:=by
 have W:∀b u,H b=ς u->b∉fp:=λb u e z=>by rw[(U b z).1]at e;cases e
 have hn:H t=ψ:=J.hok.fresh ht;have O:∀b v,H b=ς v->b≠t:=λb v e=>aI e hn
 have Z:∀b o,s.heap.get? b=ς o->b≠t:=λb o e z=>by subst z;exact absurd (qb3 e) (qn7.mpr ht)
 refine J.step (g':=s.gens) (d':=s.drawn) (ch:=fp) (λb hb=>?_) (λb o _ _ hc e _=>k b o hc e) (λb o _ _ hc e _=>⟨o.slots,k b o hc e⟩) (λb o _ e n=>by rw[ai (Z b o e)];exact n)
  (λb o hc e=>⟨o,k b o hc e⟩) (λb xs e=>by rw[ai (O b _ e)];exact e) (λb o v e=>by rw[ai (O b _ e)];exact e) (λb ps e=>⟨#[],by rw[ai (O b _ e),e];simp⟩) (λb xs e=>by rw[ai (O b _ e)];exact e) (λm hm=>?_) (λb v e=>?_) J.bare
 .exact⟨(U b hb).2.2.2.1,(U b hb).2.1,(U b hb).2.2.2.2.1,(U b hb).2.2.2.2.2⟩
 .have⟨o,es,ep,ho,r⟩:=hm;exact⟨o,es,ep,k _ o (λz=>(U _ z).2.1 rfl) ho,r⟩
 .by_cases hb:b=t
  .subst hb;rw[af]at e;cases e;exact new
  .rw[ai hb]at e;refine(J.hok b v e).stay (λc ob hc q=>k c ob ?_ q) (λc q=>by rw[ai (O c _ q)];exact q) (λc ys q=>by rw[ai (O c _ q)];exact q) λc ob ys q=>by rw[ai (O c _ q)];exact q
   rcases hc with z|z
   .rw[z];exact W b v e
   .exact W c _ z
end
noncomputable def Ite(b:Bool)(K:xA9)(a:J4):It:=⟨λi H=>∃xs x,SqB b K H a xs/\xs[i]?=ς x,λi H x H'=>∃t v,H t=ψ/\x=.ref t/\H'=upd H t (.t [.int i,v])/\∀xs,SqB b K H a xs->xs[i]?=ς v,λi H=>∃xs,SqB b K H a xs/\xs.length=i⟩
variable{P:qe7}
def qj {w:J5} {elts:η J8} {pos:Pos} (b:Bool) (a e I:J4) (hne:e≠I) :
  Turn P w K (.Tuple elts n pos) (Ite b K a) [e,I] e (λi h=>(∃old,IsEnum h e I i old)/\ItB b h I a i) where
 mem:=by simp
 obj:=λi h st c hc=>by
  have⟨⟨old,W⟩,U⟩:=st;rwa[qc4,qq0,or_false]at hc;rcases hc with rfl|rfl
  .exact⟨_,W,λv z=>nomatch z⟩
  .have⟨o,q,_,d⟩:=U.obj;exact⟨o,q,d⟩
 keep:=λi h h' st k=>by have⟨⟨old,W⟩,U⟩:=st;exact⟨⟨old,k e Ξ _ W⟩,U.at λo q=>k I Ξ o q⟩
 item:=by
  intro X hP hw hK hc i J0 s σ H E J hf st hg;subst hP hw hK;have⟨⟨old,W⟩,U⟩:=st;have⟨xs,x,hq,hx⟩:=hg;have⟨J3,rv,co⟩:=J.seqB hq;have⟨u,hu,ru⟩:=rv.get hx;have hi:i<J3.toArray.size:=‹(gX hu).1›
  have hae:e∉[I,a]:=by rwa[qc4,qq0,or_false,not_or];refine⟨hne,λz=>?_⟩;have⟨o,q,c⟩:=co.obj;rw[<- z,W]at q;cases q;rcases c with c|c<;>exact absurd c (yT Ω)
  refine wpAny_pyNext_enum_itemD (tB (A:=X.A.in1) (b:=b) (I:=I) (a:=a) (show X.A.in1.handled=ψ from J.ok.hd hc) (tz U co) J3.toArray) W ⟨U,co⟩ hi hne hae λy h1 tk hy ho hs1 hT hsz hk=>⟨_,rfl,?_⟩
  have ey:y=u:=by rw[show J3.toArray[i]?=J3[i]? by simp,hu]at hy;exact(qc9 hy).symm
  subst ey;refine wpAny_letOwnedTupleGo_enum ho λh2 he2 Z=>?_
  have kk:∀c o,c∉[e,I]->s.heap.get? c=ς o->h2.get? c=ς o:=λc o O q=>by rwa[qc4,qq0,or_false,not_or]at O;exact(Z.2 c O.1).trans (hk c o O.1 O.2 q)
  have lt:∀c∈[e,I],c<s.heap.objs.size:=λc O=>by
   rwa[qc4,qq0,or_false]at O;rcases O with rfl|rfl
   .exact qb3 W
   .have⟨o,q,_⟩:=U.obj;exact qb3 q
  -- first the records,then the pair
  have hT2:h2.get? s.heap.objs.size=ς {cls:=.type "tuple",data:=.seq #[.int i tk,y]}:=(Z.2 _ (λz=>qm9 _ (z▸lt e Ξ))).trans hT
  have J2:Inv X J0 σ (upd H s.heap.objs.size (.t [.int i,x])) {s with heap:=h2,toks:=tk+1}:=by refine J.turnedT kk hf (nL _) ⟨by show 2<=qa4;decide,[.int i tk,y],.cons ⟨_,rfl⟩ (.cons ru .nil),?_⟩;exact .of hT2 rfl rfl rfl
  refine⟨.ref s.heap.objs.size,_,J2,rfl,⟨_,x,J.hok.fresh (qu4 _),rfl,rfl,λys hy=>by rw[J.seqB_inj hy hq];exact hx⟩,⟨⟨_,‹he2›⟩,hs1.1.at λo q=>(Z.2 I (qk7 hne)).trans q⟩,λc O=>?_⟩;rw[ai (qc2 (lt c O))];exact(hf c O).1
 done:=by
  intro X hP hw hK hc i J0 s σ H E J hf st hg;subst hP hw hK;have⟨⟨old,W⟩,U⟩:=st;have⟨xs,hq,hx⟩:=hg;have⟨J3,rv,co⟩:=J.seqB hq;have hi:i=J3.toArray.size:=by rw[<- hx];simpa using rv.length
  refine wpAny_pyNext_enum_endD (tB (A:=X.A.in1) (b:=b) (I:=I) (a:=a) (show X.A.in1.handled=ψ from J.ok.hd hc) (tz U co) J3.toArray) W (show ItB b s.heap I a J3.toArray.size/\CoB b s.heap a J3.toArray from⟨hi▸U,co⟩) λh' eb=>⟨rfl,?_⟩
  exact J.turnedL (t':=s.toks) (λc o O q=>eb c o (λz=>O (by simp[z])) q) hf
 self:=λA i s Q E st h=>by have⟨⟨old,W⟩,U⟩:=st;exact wpAny_pyIter_enum W h
omit x in
def lE (t:J4) (vs:Array Value) (n:Nat) (dd:ζ J4) (sl:Array (ζ Value)) :
  Meets (qj4.«enumerate.__new__» ⟨[.type "enumerate",.ref t],[]⟩) (λ_ R s=>s.heap.get? t=ς {cls:=.type "tuple",dict:=dd,data:=.seq vs n,slots:=sl}∧
   R (.ok (.ret (.ref (s.heap.push {cls:=.type "tuple_iterator",data:=.fields #[.ref t,.int 0 0]}).objs.size)))
    {s with heap:=(s.heap.push {cls:=.type "tuple_iterator",data:=.fields #[.ref t,.int 0 0]}).push {cls:=.type "enumerate",data:=.fields #[.none,.bool ξ,.ref s.heap.objs.size,qv5 0,.none,.none]}}):=
 .of_wp λprog w A R s h=>by
  have⟨hp,g,d,Z,os⟩:=s;have⟨O,h⟩:=h;have U:=sub_enumerate;have W:Heap.IsTuple (qa8.heap ⟨hp,g,d,Z,os⟩) t vs:=⟨_,O,rfl,n,rfl⟩;wp_walk using qr0 O;refine wpAny_stack_any λst=>qa7 ?_
  split
  .rename_i c _ _ _ _ _;cases (c==qo8 "enumerate")<;>(wp_walk using qr0 O,qr4 W)<;>exact⟨_,rfl,h⟩
  . (wp_walk using qr0 O,qr4 W)<;>exact⟨_,rfl,h⟩
section
variable{prog:qe7}{w:J5}{A:ql5}{E:Value->qa8->Prop}{s:qa8}
def ni{t:J4}{vs:Array Value}(hT:s.heap.IsTuple t vs)
 (h:∀h',IsEnum h' (s.heap.objs.size+1) s.heap.objs.size 0 .none->h'.IsTupleIter s.heap.objs.size t 0->h'.objs.size=s.heap.objs.size+2→
 (∀c u,s.heap.get? c=ς u->h'.get? c=ς u)->Q (.ref (s.heap.objs.size+1)) {s with heap:=h'}) :
  wpAny (model prog w) A (call (.type "enumerate") [.ref t]) Q E s:=by
 have⟨⟨c,dct,dt,sl⟩,hl,hc,n,Z⟩:=hT;have hc:c=.type "tuple":=hc;have Z:dt=.seq vs n:=Z;subst hc Z;refine callType_new F.called_enumerate Ω (F.typeCall_enumerate_1 _) (F.newCall_enumerate_1 _) (λobj=>F.args_object_init_2 obj _) F.entry_enumerate_new (lE t vs n dct sl) ⟨hl,?_⟩;have W:(s.heap.push {cls:=.type "tuple_iterator",data:=.fields #[.ref t,.int 0 0]}).objs.size=s.heap.objs.size+1:=qn6 ..;have U:((s.heap.push {cls:=.type "tuple_iterator",data:=.fields #[.ref t,.int 0 0]}).push {cls:=.type "enumerate",data:=.fields #[.none,.bool ξ,.ref s.heap.objs.size,qv5 0,.none,.none]}).objs.size=s.heap.objs.size+2:=by rw[qn6,W]
 rw[W];have O:=qb8 (s.heap.push {cls:=.type "tuple_iterator",data:=.fields #[.ref t,.int 0 0]}) (o:={cls:=.type "enumerate",data:=.fields #[.none,.bool ξ,.ref s.heap.objs.size,qv5 0,.none,.none]}) rfl;rw[W]at O;exact⟨⟨_,O,rfl⟩,h _ O ⟨_,gP _ (qb8 _ rfl),rfl,rfl⟩ U λc u z=>gP _ (gP _ z)⟩
def nj{b:Bool}{t:J4}{vs:Array Value}(O:CoB b s.heap t vs)
 (h:∀h',IsEnum h' (s.heap.objs.size+1) s.heap.objs.size 0 .none->ItB b h' s.heap.objs.size t 0->h'.objs.size=s.heap.objs.size+2→
 (∀c u,s.heap.get? c=ς u->h'.get? c=ς u)->Q (.ref (s.heap.objs.size+1)) {s with heap:=h'}) :
  wpAny (model prog w) A (call (.type "enumerate") [.ref t]) Q E s:=by
 cases b with
 |true=>exact call_enumerate_list O h
 |false=>exact ni O h
end
section
variable{X:Cx}{x:J8}{p pos tpos:Pos}{sc:J9}{fs:De->ζ (η Dt)}{elts:η J8}{n:Nat}
def Dh(K:xA9)(ta:TA):TI:=λσ H R=>ta σ H λvs H1=>∃b a xs,vs=[.ref a]/\SqB b K H1 a xs/\R (Ite b K a) H1
theorem wN {ta:TA} (h:aL sc "enumerate"=θ) (hm:X.mg "enumerate"=ψ) (ha:PA X [x] ta) (e1:aY X sc:=by rfl) (hs:qb1 [x] X.env=[(ξ,eval x X.env)]:=by rfl) :
  PI X (.Tuple elts n tpos) (.Call (.Name "enumerate" p) [x] [] pos) (Dh X.K ta):=by
 intro J0 s σ H R I h';refine Call_ (gJ I (glD h e1) hm jW (qo3 (thn (ha pos J0 s σ H _ I h') λus s1 W=>?_) hs rfl));have⟨vs,H1,U,r1,q1⟩:=W;have⟨b,a,xs,rfl,hq,q⟩:=q1;have⟨u,rfl,ru⟩:=cQ r1;cases ru;have⟨J3,rv,co⟩:=U.seqB hq;refine nj co λh2 Z hi hz hk=>wpAny_pyIter_enum Z ?_
 have I2:Inv X J0 σ H1 {s1 with heap:=h2}:=U.kept (t':=s1.toks) hk;refine⟨s1.heap.objs.size+1,[s1.heap.objs.size+1,s1.heap.objs.size],_,_,H1,rfl,I2,qj b a _ _ (qj0 (qp8 _)),⟨⟨_,Z⟩,hi⟩,λc hc=>?_,q⟩
 have O:s1.heap.objs.size<=c:=by
  rwa[qc4,qq0,or_false]at hc;rcases hc with rfl|rfl
  .exact qi5 _
  .exact nL _
 exact U.fpOk O (U.hok.fresh O)
noncomputable def cb(i:Nat):η Dt->η Dt
 |[]=>[]
 |d::r=>.t [.int i,d]::cb (i+1) r
theorem jo:∀(l:η Dt)(i:Nat),(cb i l).length=l.length
 |[],_=>rfl
 |_::r,i=>by simp[cb,jo r]
theorem jp:∀(l:η Dt)(i k:Nat),(cb i l)[k]?=l[k]?.map λd=>.t [.int ((i+k:Nat):Int),d]
 |[],i,k=>by simp[cb]
 |d::r,i,0=>by simp[cb]
 |d::r,i,k+1=>by simp[cb,jp r,Nat.add_assoc,zb8 1]
theorem tD{F:Hp}{d e:Dt}{v w:V}{t:J4}(h:F t=ς (.t [v,w]))(r:Rep K F d v)(O:Rep K F e w):Rep K F (.t [d,e]) (.ref t):=by rwa[Rep,Reps];exact⟨t,_,rfl,SqT.of h,v,[w],rfl,r,w,[],rfl,O,rfl⟩
theorem jq{F:Hp}{b:Bool}(r:Reps K F l xs):sI K F (Ite b K a) (cb 0 l) (λH=>SqB b K H a xs):=λi H F2 O W ff=>by have hl:=r.length;rw[jo];refine⟨λh=>⟨xs,xs[i],O,by simp[show i<xs.length by lia]⟩,λh=>⟨xs,O,Θ⟩,λx H' hi hy=>?_⟩;have⟨t,v,U,rfl,rfl,hv⟩:=hy;have Z:=hv xs O;have⟨d,hd,rd⟩:=r.same_get Z;refine⟨_,upd F2 t (.t [.int i,v]),?_,Step.new W U,tD af ba ((rd.same ff).same (Same.upd (W.free U)))⟩;rw[jp,hd];simp
end
section
variable{X:Cx}{elt tg iter:J8}{ifs:η J8}{scope:J9}{pos:Pos}{M:η Str}{src:η (ζ Nat)}{wi:TI}{g:TG}{tt:TT}{te:TE}
theorem wO {i:Nat} {y:Str} {py spos:Pos} (hN:X.N.Nodup) (hi':X.N[i]?=ς y) (hx:Loc X.env.scope y) (hf:X.fn y=θ\/X.env.scope.names.lookup y=ς .local)
  (S:CmpScope X.N X.env.scope scope M src) (hc:X.calm=θ) (hi:PI X tg iter wi) (hg:M.Nodup->∀C s H ex,PG (cxC X M scope C s H ex) tg g) (ht:∀C s H ex,PTs (cxC X M scope C s H ex) ifs tt)
  (he:∀C s H ex,PE (cxC X M scope C s H ex) elt te) (hs:∀x,qh3 iter X.env x=pure x)
  (hsw:qi9 (.ListComp elt [⟨tg,iter,ifs,0⟩] scope pos) (ς (.Name y py)) spos.line X.env=pure θ) :
  PSBq X (.Assign [.Name y py] (.ListComp elt [⟨tg,iter,ifs,0⟩] scope pos) spos) (vR (jh src wi g tt te) (ei i)):=by
 intro J0 s σ H D I h;rw[exec_Assign_Name_used _ _ _ _ hsw];refine wB (zd9 (wB ?_));show wpAny _ X.A (do let _ <- ze6 (.ListComp elt [⟨tg,iter,ifs,0⟩] scope pos) scope X.env _ (newList []) ξ (eval iter X.env) (ς (qz4 (.Name y py) X.env))) _ _ s;refine wB (qn5 (ji (use:=ς (qz4 (.Name y py) X.env)) (QQ:=λ_ s'=>∃O H',Inv X J0 O H' s'/\D.nx O H') S hc hi hg ht he hs I h ?_) (λ_ s' hq=>qa7 (qa7 hq)) λ_ _ e=>e);intro Dd C H' s' m IA U hn q;show wpAny _ X.A (qz4 (.Name y py) X.env (.ref Dd)) _ _ s';refine wpAny_assign_Name (iY IA hN hi' hx (v:=.ref Dd) rfl (λs2 I2 W=>?_) hf);have⟨a,sb,Z⟩:=W
 have ne:C≠a:=by
  rcases Z with rfl|Z
  .exact U.2.1
  .exact qk7 (U.2.2.2.2.1 y a Z)
 exact⟨m,hn.sameBut sb ne,λh3 sb3=>⟨_,H',I2.but U sb3,q⟩⟩
end
noncomputable def Be(x:Str)(n:Int):Str:=if n<1 then Str.empty else if(n==1||x.length==0)=θ then x else⟨(qa9 n.toNat x.cps).foldl (· ++ ·) #[]⟩
noncomputable def qk(O:Bool):Dt->Dt->ζ T
 |.bl a,.bl b=>ς (.f (.bl (if O then !decide (a=b)else decide (a=b))))
 |_,_=>ψ
section
variable{X:Cx}
theorem Bg:OpR X (qf1 .Is) (λx y H Q=>∃a b,x=.bl a/\y=.bl b/\Q (.bl (decide (a=b))) H):=by intro J0 s σ H x y v u Q I U O h;have⟨a,b,rfl,rfl,q⟩:=h;cases U;cases O;refine wpAny_is_plain rfl (ar I q ?_);cases a<;>cases b<;>rfl
theorem ql:OpR X (qf1 .IsNot) (λx y H Q=>∃a b,x=.bl a/\y=.bl b/\Q (.bl (!decide (a=b))) H):=by intro J0 s σ H x y v u Q I U O h;have⟨a,b,rfl,rfl,q⟩:=h;cases U;cases O;refine wpAny_isNot_plain rfl (ar I q ?_);cases a<;>cases b<;>rfl
def Di:R2D K (λx y H Q=>∃a b,x=.bl a/\y=.bl b/\Q (.bl (decide (a=b))) H) (qk ξ):=by
 intro F H x y vx vy Q t U Z W O k;unfold qk at O;rcases O
 cases O;cases Z;cases W;exact⟨_,_,rfl,rfl,k.bl U⟩
def tE:R2D K (λx y H Q=>∃a b,x=.bl a/\y=.bl b/\Q (.bl (!decide (a=b))) H) (qk θ):=by
 intro F H x y vx vy Q t U Z W O k;unfold qk at O;rcases O
 cases O;cases Z;cases W;exact⟨_,_,rfl,rfl,k.bl U⟩
def lF(K:xA9):R2:=λx y H Q=>∃a b ys,x=.ref a/\y=.ref b/\SqT K H a []/\SqT K H b ys/\Q (.ref b) H
def wP:OpR X (qh7 .Add) (lF X.K):=by
 intro J0 s σ H x y v u Q I rx ry h;have⟨a,b,ys,rfl,rfl,ha,hb,q⟩:=h;cases rx;cases ry;have⟨J3,r1,p1,_⟩:=I.tuple ha;have⟨Z,r2,p2,_⟩:=I.tuple hb;cases r1;have⟨⟨cls,dd,data,sl⟩,ho,hc,n,hd⟩:=id p1;have⟨⟨cls2,dd2,data2,sl2⟩,O,U,n2,W⟩:=id p2;simp only at hc hd U W;subst hc hd U W
 exact qv9 ⟨_,ho,rfl⟩ ⟨_,O,rfl⟩ qt3 qy9 PySem.F.slot_tuple_add PySem.F.entry_tuple_add (PySem.F.args_tuple_add_2 _ _)
  (tuple_addW0 a b #[] Z.toArray n n2 dd dd2 sl sl2 rfl) ⟨ho,O,⟨.ref b,H,I,rfl,q⟩⟩
def tG:Dt->Dt->ζ T
 |.t [],.t m=>ς (.f (.t m))
 |.t (d::l),.t (e::m)=>eG (.t (d::l)) (.t (e::m))
 |_,_=>ψ
def wQ:OpR X (qh7 .Add) (λx y H Q=>lF X.K x y H Q\/jl X.K x y H Q):=OpR.or wP oz
omit x in
def Bh:R2D K (λx y H Q=>lF K x y H Q\/jl K x y H Q) tG:=by
 intro F H x y vx vy Q t U rx Z O k;unfold tG at O;rcases O
 .rename_i m;cases O;have⟨a,vs,rfl,h1,h2⟩:=rx;have⟨b,ws,rfl,W,h4⟩:=Z;rwa[Reps]at h2;subst h2;refine .inl ⟨a,b,ws,rfl,rfl,U.tup h1,U.tup W,k.leaf.here U ?_⟩;rwa[Rep];exact⟨b,ws,rfl,W,h4⟩
 .exact .inr (yL F H _ _ vx vy Q t U rx Z O k)
end
noncomputable def tH:η Dt->ζ T
 |[.int i,.int j]=>ς (.f (.int (if j<i then j else i)))
 |_=>ψ
def rMin:η V->Hp->VK->Prop:=λxs H Q=>∃i j,xs=[.int i,.int j]/\Q (.int (if j<i then j else i)) H
def qm(hc:X.calm=θ):CallR X (.builtin "min") rMin:=pR hc
def Dj:CRD K rMin tH:=by
 intro F H ds vs Q t fh r O k;unfold tH at O;rcases O
 cases O;have⟨v,ws,rfl,r1,w,U,rfl,Z,W⟩:=r;cases r1;cases Z;have W:U=[]:=W;subst W;exact⟨_,_,rfl,k.int fh⟩
noncomputable def aw:Key->Dt
 |.inl i=>.int i
 |.inr x=>.str x
def wR{F:Hp}(k:Key):Rep K F (aw k) (kV k):=by
 cases k with
 |inl i=>exact ba
 |inr x=>exact eC
def yU(i j:Int):Prop:=0<j/\j<18446744073709551616
def tJ:OpR X (qh7 .FloorDiv) (gK yU λi j=>.int (i/j)):=opI λi j _ _ _ _ _ hc q=>by
 have h1:(0:Int)<j:=hc.1;have h2:j<18446744073709551616:=hc.2;refine floordiv_int Θ (by rw[qv3 i Θ];exact q) (.inl (PyProof.noPylong_of_log2 ?_));have O:j.natAbs≠0:=by lia
 exact ql8 ((Nat.log2_lt O).mpr (show j.natAbs<2^64 by lia)) Ω
noncomputable def gd:Dt->Dt->ζ T
 |.int i,.int j=>if 0<j/\j<18446744073709551616 then ς (.f (.int (i/j)))else ψ
 |_,_=>ψ
omit x in
def Bi:R2D K (gK yU λi j=>.int (i/j)) gd:=by
 intro F H x y vx vy Q t U Z W O k;unfold gd at O;rcases O
 split at O
 .rename_i hc;cases O;cases Z;cases W;exact⟨_,_,rfl,rfl,hc,k.int U⟩
 .cases O
inductive Pt where
 |one (i:Nat)|many (is:List Nat)
noncomputable def gj:η Nat->η Dt->Sl->ζ Sl
 |[],[],δ=>ς δ
 |i::is,d::ds,δ=>gj is ds (δ.set i (ς (.g d)))
 |_,_,_=>ψ
def bnd:Pt->Dt->Sl->ζ Sl
 |.one i,d,δ=>ς (δ.set i (ς (.g d)))
 |.many is,.t ds,δ=>gj is ds δ
 |_,_,_=>ψ
noncomputable def Pt.slots:Pt->η Nat
 |.one i=>[i]
 |.many is=>is
def Only(ts:η Nat)(σ O:ae):Prop:=O.length=σ.length/\∀j,j∉ts->O[j]?=σ[j]?
def tP(G:Gx)(b:Dt->Sl->ζ Sl)(ts:η Nat):TG:=λv σ H Q=>∃ Φ δ ch F ρ d δ',Ge G Φ δ ch σ F H ρ/\Rep G.K F d v/\b d δ=ς δ'/\∀O,Ge G Φ δ' ch O F H ρ->Only ts σ O->Q O H
def tPs(G:Gx)(b:η Dt->Sl->ζ Sl)(ts:η Nat):TGs:=λvs σ H Q=>∃ Φ δ ch F ρ ds δ',Ge G Φ δ ch σ F H ρ/\Reps G.K F ds vs/\b ds δ=ς δ'/\∀O,Ge G Φ δ' ch O F H ρ->Only ts σ O->Q O H
def GP(G:Gx)(X:Cx)(tg:J8)(p:Pt):Prop:=PG X tg (tP G (bnd p) p.slots)
variable{is:η Nat}
section
variable{G:Gx}{X:Cx}{tg iter e:J8}{es:η J8}{pos:Pos}{i:Nat}
def Only.one{v:V}:Only [i] σ (σ.set i (ς v)):=⟨Ξ,λj O=>by rw[qt8 λe=>O (by simp[e])]⟩
theorem Ge.dat{F:Hp}{d:Dt}{v:V}(en:Ge G Φ δ ch σ F H ρ)(r:Rep G.K F d v)(i:Nat):Ge G Φ (δ.set i (ς (.g d))) ch (σ.set i (ς v)) F H ρ:=en.put (.refl en.gh) (c:=.g d) r (λ_ e=>nomatch e) rfl i
theorem Bj(h:PG X tg (ei i)):GP G X tg (.one i):=PG.mono h λv σ H Q O=>by have⟨Φ,δ,ch,F,ρ,d,δ',en,r,U,k⟩:=O;cases U;exact k _ (en.dat r i) .one
def wS:PGs X [] (tPs G (gj []) []):=λJ0 s σ H vs us Q I r O=>by
 have⟨Φ,δ,ch,F,ρ,ds,δ',en,rs,U,k⟩:=O;cases ds with
 |cons d ds=>cases U
 |nil=>cases U;rwa[Reps]at rs;exact vQ J0 s σ H vs us Q I r ⟨rs,k σ en ⟨rfl,λ_ _=>rfl⟩⟩
theorem tL(h1:PG X e (ei i))(h2:PGs X es (tPs G (gj is) is))(hs:(qi3 (e::es) X.env).map (·.2)=qz4 e X.env::(qi3 es X.env).map (·.2)):PGs X (e::es) (tPs G (gj (i::is)) (i::is)):=
 λJ0 s σ H vs us Q I r Z=>by
  have⟨Φ,δ,ch,F,ρ,ds,δ',en,rs,hd,k⟩:=Z;cases ds with
  |nil=>cases hd
  |cons d ds=>
   rwa[Reps]at rs;have⟨v,ws,rfl,r1,r2⟩:=rs;refine rh h1 h2 hs J0 s σ H _ us Q I r ⟨v,ws,rfl,Φ,_,ch,F,ρ,ds,δ',en.dat r1 i,r2,hd,λU W ho=>k U W ⟨?_,λj O=>?_⟩⟩
   .rw[ho.1];simp
   .rwa[qc4,not_or]at O;rw[ho.2 j O.2,gN (qk7 O.1)]
theorem wT{k:Nat}(Z:X.K=G.K)(hc:X.calm=θ)(h:PGs X es (tPs G (gj is) is))(hn:(qi3 es X.env).length=is.length)(O:(qi3 es X.env).findIdx? (·.1)=ψ):GP G X (.Tuple es k pos) (.many is):=PG.mono (zN hc h hn O) λv σ H Q U=>by
 have⟨Φ,δ,ch,F,ρ,d,δ',en,r,W,kk⟩:=U
 have hl:∀(is:η Nat)(ds:η Dt)(δ δ':Sl),gj is ds δ=ς δ'->ds.length=is.length:=by
  intro is;induction is with
  |nil=>intro ds δ δ' h;cases ds<;>first|rfl|cases h
  |cons i is ih=>intro ds δ δ' h;cases ds with
   |nil=>cases h
   |cons d ds=>simp[ih ds _ _ h]
 cases d with
 |t ds=>rwa[Rep]at r;have⟨a,vs,rfl,h1,h2⟩:=r;exact⟨a,vs,rfl,by rw[Z];exact(en.gh.fh.tup h1),by rw[h2.length,hl _ _ _ _ W],Φ,δ,ch,F,ρ,ds,δ',en,h2,W,kk⟩
 |_=>cases W
def tI(G:Gx)(f:FM (η Dt)):TI:=λσ H R=>∃ Φ δ ch F ρ ds ch',Ge G Φ δ ch σ F H ρ/\f δ ch=ς (ds,ch')/\∀J ok F' H' ρ',Adv G F H ρ ch F' H' ρ' ch'->sI G.K F' J ds ok->(∀H2,Same F' H2->ok H2)->R J H'
def GI(G:Gx)(X:Cx)(tg iter:J8)(f:FM (η Dt)):Prop:=PI X tg iter (tI G f)
def iE(f:Fg):FM (η Dt):=λδ ch=>(f δ ch).bind λp=>match p.1 with
 |.g d=>(itD d).map λl=>(l,p.2)
 |_=>ψ
def gi_e{l:J8}{f:Fg}(W:X.K=G.K)(h:GE G X l f):GI G X tg l (iE f):=PI.mono (PI.or (vS h) (zT h)) λσ H R U=>by
 have⟨Φ,δ,ch,F,ρ,ds,ch',en,Z,k⟩:=U;have⟨⟨c,ch1⟩,h1,O⟩:=bS Z;cases c with
 |g d=>
  have⟨l,hl,e⟩:=mS O;cases e;cases d with
  |e l=>cases hl;refine .inl ⟨Φ,δ,ch,F,ρ,_,_,en,h1,λv F' H' ρ' a r=>?_⟩;have r:=r.1;rwa[RelC,RelS,Rep]at r;have⟨x,vs,rfl,q1,q2⟩:=r;rw[W];exact⟨x,rfl,⟨vs,a.gh.fh.seq q1⟩,k _ _ F' H' ρ' a (plain_list.walk q2) λH2 s=>s.seq q1⟩
  |t l=>cases hl;refine .inr ⟨Φ,δ,ch,F,ρ,_,_,en,h1,λv F' H' ρ' a r=>?_⟩;have r:=r.1;rwa[RelC,RelS,Rep]at r;have⟨x,vs,rfl,q1,q2⟩:=r;rw[W];exact⟨x,rfl,⟨vs,a.gh.fh.tup q1⟩,k _ _ F' H' ρ' a (plain_tup.walk q2) λH2 s=>s.tup q1⟩
  |_=>cases hl
 |_=>cases O
noncomputable def gf:η CV->ζ (η Int)
 |[]=>ς []
 |.g (.int i)::l=>(gf l).map (i::·)
 |_=>ψ
theorem lG{F:Hp}:∀{l:η CV}{vs:η V}{is:η Int},RelCs G F H ρ n l vs->gf l=ς is->vs=is.map V.int
 |[],_,_,.nil,h=>by cases h;rfl
 |c::l,_,_,.cons r t,h=>by
  cases c with
  |g d=>
   cases d with
   |int i=>have⟨O,h1,rfl⟩:=mS h;rw[lG t h1];have r:Rep G.K F (.int i) _:=r;rwa[Rep]at r;rw[r];rfl
   |_=>cases h
  |_=>cases h
noncomputable def eI(i:Int):Bool:=decide (-(2^62)<=i)&&decide (i<2^62)
def tN{i:Int}(h:eI i=θ):-(2^62)<=i/\i<2^62:=by unfold eI at h;rwa[qa1,decide_eq_true_eq]at h;exact h
def rng:Nat->η Int->ζ (η Dt)
 |1,[j]=>if eI j then ς (aB 0 j.toNat)else ψ
 |_,_=>ψ
def iR(n:Nat)(fs:FM (η CV)):FM (η Dt):=λδ ch=>(fs δ ch).bind λp=>(gf p.1).bind λis=>(rng n is).map λl=>(l,p.2)
section
variable{sc:J9}{p tpos:Pos}{x y z:J8}{fs:FM (η CV)}{elts:η J8}{n:Nat}{f:Fg}
omit x in
theorem qo(h:aL sc "range"=θ)(hm:X.mg "range"=ψ)(ha:GA G X [x] fs)(e1:aY X sc)(hs:qb1 [x] X.env=[(ξ,eval x X.env)]):GI G X tg (.Call (.Name "range" p) [x] [] pos) (iR 1 fs):=PI.mono (mY h hm ha e1 hs) λσ H R W=>by
 have⟨Φ,δ,ch,F,ρ,ds,ch',en,hf,k⟩:=W;have⟨q,h1,Z⟩:=bS hf;have⟨is,h2,U⟩:=bS Z;have⟨l,O,e⟩:=mS U;cases e;refine⟨Φ,δ,ch,F,ρ,q.1,q.2,en,h1,λvs F' H' ρ' a r=>?_⟩;have hv:=lG r h2;obtain _|⟨j,_|⟨_,_⟩⟩:=is<;>first|(simp[rng]at O;done)|skip
 .have O:(if eI j then ς (aB 0 j.toNat)else ψ)=ς ds:=O;split at O<;>cases O
  rename_i hb;have:=tN hb;exact⟨j,hv,this.1,this.2,k _ _ F' H' ρ' a (plain_range.walk (Reps.map (λ_=>ba) _)) λ_ _=>trivial⟩
noncomputable def iN(f:Fg):FM (η Dt):=λδ ch=>(f δ ch).bind λp=>match p.1 with
 |.g (.e l)=>ς (cb 0 l,p.2)
 |.g (.t l)=>ς (cb 0 l,p.2)
 |_=>ψ
theorem wU(W:X.K=G.K)(h:aL sc "enumerate"=θ)(Z:X.mg "enumerate"=ψ)(ha:GE G X x f)(e1:aY X sc)(hs:qb1 [x] X.env=[(ξ,eval x X.env)]):GI G X (.Tuple elts n tpos) (.Call (.Name "enumerate" p) [x] [] pos) (iN f):=PI.mono (wN h Z (bw ha cq hs) e1 hs) λσ H R U=>by
 have⟨Φ,δ,ch,F,ρ,ds,ch',en,hf,k⟩:=U;have⟨⟨c,ch1⟩,h1,O⟩:=bS hf;dsimp only at O;refine⟨Φ,δ,ch,F,ρ,c,ch1,en,h1,λv F' H' ρ' a r=>?_⟩;have r:=r.1;split at O
 .cases O;rwa[RelC,RelS,Rep]at r;have⟨y,vs,rfl,q1,q2⟩:=r;rw[W];exact⟨θ,y,vs,rfl,a.gh.fh.seq q1,k _ _ F' H' ρ' a (jq (b:=true) q2) λH2 s=>s.seq q1⟩
 .cases O;rwa[RelC,RelS,Rep]at r;have⟨y,vs,rfl,q1,q2⟩:=r;rw[W];exact⟨ξ,y,vs,rfl,a.gh.fh.tup q1,k _ _ F' H' ρ' a (jq (b:=false) q2) λH2 s=>s.tup q1⟩
 .cases O
end
noncomputable def bE(b:Dt->Sl->ζ Sl)(g:Fs):η Dt->Fs
 |[],δ,ch=>ς (.nx δ ch)
 |d::r,δ,ch=>(b d δ).bind λU=>(g U ch).bind λo=>match o with
  |.nx O ch2=>bE b g r O ch2
  |.ct O ch2=>bE b g r O ch2
  |.bk O ch2=>ς (.nx O ch2)
  |.rt c ch2=>ς (.rt c ch2)
def lH(fi:FM (η Dt))(b:Dt->Sl->ζ Sl)(g:Fs):Fs:=λδ ch=>(fi δ ch).bind λp=>bE b g p.1 δ p.2
noncomputable def Fr0.at(Φ:Fr0)(F1:Hp):Fr0:={Φ with F:=F1}
theorem Adv.back{F0 W F1 F:Hp}{U ρ1:Nat->J4}{O ch1:CH}(a:Adv G F0 W U O F1 H1 ρ1 ch1)(b:Adv G F1 W U O F H ρ ch):Adv G F0 W U O F H ρ ch:={b with old:=a.old.trans b.old,nw:=λx o h=>(b.nw x o h).elim (a.nw x o) .inr}
theorem Ge.at{F1:Hp}(en:Ge G Φ δ ch σ F1 H ρ):Ge G (Φ.at F1) δ ch σ F1 H ρ:={en with ad:={en.ad with old:=Same.refl _,nw:=λ_ _ h=>.inl h}}
theorem Ge.back{δ':Sl}{ch':CH}{O:ae}{F1 F:Hp}{ρ':Nat->J4}(en:Ge G Φ δ ch σ F1 H1 ρ)(e:Ge G (Φ.at F1) δ' ch' O F H ρ'):Ge G Φ δ' ch' O F H ρ':={e with ad:=en.ad.back e.ad}
def PostZ.at{F1:Hp}{D:Ends}{o:Og}(en:Ge G Φ δ ch σ F1 H ρ)(k:PostZ G Φ D o):PostZ G (Φ.at F1) D o:=by
 cases o with
 |nx δ' ch'=>exact λO F H ρ e=>k O F H ρ (en.back e)
 |bk δ' ch'=>exact λO F H ρ e=>k O F H ρ (en.back e)
 |ct δ' ch'=>exact λO F H ρ e=>k O F H ρ (en.back e)
 |rt c ch'=>exact λv F H ρ a r=>k v F H ρ (en.ad.back a) r
variable{body:η J6}{fi:FM (η Dt)}{g:Fs}{pt:Pt}{c:J8}{tc:FM Bool}
theorem Bk(hp:zb1 (model X.prog X.w) X.A X.env X.xe)(hc:X.calm=θ)(hi:GI G X tg iter fi)(hg:GP G X tg pt)(hb:GS G X body g)(hs:∀x,qh3 iter X.env x=pure x):GS1 G X (.For tg iter body [] pos) (lH fi (bnd pt) g):=PSBq.mono (zU hp hc hi hg hb hs) λD σ H hq10=>by
 have⟨Φ0,δ,ch,F,ρ,o,en,hgo,k0⟩:=hq10;have⟨⟨ds,ch1⟩,hd,hgo1⟩:=bS hgo;rw[wn];refine⟨Φ0,δ,ch,F,ρ,ds,ch1,en,hd,λJ ok F1 H1 ρ1 a1 wd ho=>?_⟩;have k:=PostZ.at (en.adv a1) k0;refine sM (n:=ds.length) (λi Z H'=>∃ δ' ch' F' ρ',Ge G (Φ0.at F1) δ' ch' Z F' H' ρ'/\bE (bnd pt) g (ds.drop i) δ' ch'=ς o) ⟨δ,ch1,F1,ρ1,(en.adv a1).at,‹hgo1›⟩ (λi Z H' ⟨δ',ch',F',ρ',O,_⟩=>?_) ?_ ?_
 .have⟨p1,p2,_⟩:=wd i H' F' (ho H' (O.ad.old.trans O.gh.fh)) O.gh.fh O.ad.old;exact⟨p1,p2⟩
 .rintro i x Z H' H'' hi ⟨δ',ch',F',ρ',O,U⟩ hy;have⟨_,_,p3⟩:=wd i H' F' (ho H' (O.ad.old.trans O.gh.fh)) O.gh.fh O.ad.old;have⟨d,F2,hd',st2,rd⟩:=p3 x H'' hi hy;rw[ou hd']at U;have⟨δ1,h1,hgo3⟩:=bS U;have⟨o1,h2,W⟩:=bS hgo3;refine⟨_,δ',ch',F2,ρ',d,δ1,O.adv (.of O.gh st2),rd,h1,λσ1 en1 _=>⟨_,δ1,ch',F2,ρ',o1,en1,h2,?_⟩⟩;cases o1 with
  |nx δ2 ch2=>exact λσ2 F2 H2 ρ2 en2=>⟨δ2,ch2,F2,ρ2,en2,W⟩
  |ct δ2 ch2=>exact λσ2 F2 H2 ρ2 en2=>⟨δ2,ch2,F2,ρ2,en2,W⟩
  |bk δ2 ch2=>cases W;exact k
  |rt c ch2=>cases W;exact k
 .rintro Z H' ⟨δ',ch',F',ρ',O,U⟩;rw[qt6]at U;cases U;exact k Z F' H' ρ' O
noncomputable def whZ(c:FM Bool)(g:Fs):Nat->Fs
 |0,_,_=>ψ
 |n+1,δ,ch=>(c δ ch).bind λp=>if p.1 then(g δ p.2).bind λo=>match o with
  |.nx O ch2=>whZ c g n O ch2
  |.ct O ch2=>whZ c g n O ch2
  |.bk O ch2=>ς (.nx O ch2)
  |.rt c ch2=>ς (.rt c ch2)else ς (.nx δ p.2)
theorem tO(n:Nat)(hp:zb1 (model X.prog X.w) X.A X.env X.xe)(hc:GT G X c tc)(hb:GS G X body g):GS1 G X (.While c body [] pos) (whZ tc g n):=PSBq.mono (rA hp hc hb) λD σ H hq12=>by
 have⟨Φ,δ,ch,F,ρ,o,en,hg,k⟩:=hq12;refine⟨λm σ' H'=>∃ δ' ch' F' ρ',Ge G Φ δ' ch' σ' F' H' ρ'/\whZ tc g m δ' ch'=ς o,⟨n,δ,ch,F,ρ,en,hg⟩,?_⟩;rintro m σ' H' ⟨δ',ch',F',ρ',en',hgo⟩;cases m with
 |zero=>cases hgo
 |succ m=>
  have⟨p,hx,W⟩:=bS hgo;refine⟨Φ,δ',ch',F',ρ',p.1,p.2,en',hx,λb F1 H1 ρ1 a1 r=>?_⟩;cases r;cases q:p.1 with
  |true=>
   rw[q,if_pos rfl]at W;rw[if_pos rfl];have⟨o1,h2,U⟩:=bS W;refine⟨λZ H2=>∃O ch2 F2 ρ2,Ge G Φ O ch2 Z F2 H2 ρ2/\whZ tc g m O ch2=ς o,λZ H2 z=>⟨m,qp8 m,z⟩,Φ,δ',p.2,F1,ρ1,o1,en'.adv a1,h2,?_⟩;cases o1 with
   |nx O ch2=>exact λZ F2 H2 ρ2 en2=>⟨O,ch2,F2,ρ2,en2,U⟩
   |ct O ch2=>exact λZ F2 H2 ρ2 en2=>⟨O,ch2,F2,ρ2,en2,U⟩
   |bk O ch2=>cases U;exact k
   |rt c ch2=>cases U;exact k
  |false=>rw[q]at W;cases W;exact k σ' F1 H1 ρ1 (en'.adv a1)
end
noncomputable def gC(src:η (ζ Nat))(δ:Sl):Sl:=src.map λo=>(o.bind λj=>(δ[j]?).join).map lent
def aE(b:Dt->Sl->ζ Sl)(ft:FM Bool)(fe:Fg)(δ0:Sl):η Dt->CH->ζ (η CV×CH)
 |[],ch=>ς ([],ch)
 |d::r,ch=>(b d δ0).bind λO=>(ft O ch).bind λp=>if p.1 then(fe O p.2).bind λq=>if q.1.sol then(aE b ft fe δ0 r q.2).map λz=>(q.1::z.1,z.2)else ψ else aE b ft fe δ0 r p.2
def eCo(m:Md)(src:η (ζ Nat))(fi:FM (η Dt))(b:Dt->Sl->ζ Sl)(ft:FM Bool)(fe:Fg):Fg:=λδ ch=>(fi δ ch).bind λp=>(aE b ft fe (gC src δ) p.1 p.2).bind λq=>if q.1.length<=qa4 then finL m q.1 q.2 else ψ
section
variable{G:Gx}{Φ:Fr0}{F H F' H' F1 H1:Hp}{ρ ρ' ρ1:Nat->J4}{ch ch' ch1:CH}{src:η (ζ Nat)}{δ:Sl}{σ:ae}{D:J4}{done:η CV}{ys:η V}{m:Md}{Q:VK}
def nl{k:Nat}{c:CV}(h:(gC src δ)[k]?=ς (ς c)):∃j c',src[k]?=ς (ς j)/\δ[j]?=ς (ς c')/\c=lent c':=by
 unfold gC at h;rw[qa6]at h;cases e:src[k]? with
 |none=>rw[e]at h;cases h
 |some o=>
  rw[e]at h;cases o with
  |none=>cases h
  |some j=>
   rwa[qb0,qa0,qx9]at h;have⟨c',h1,rfl⟩:=mS h;refine⟨j,c',rfl,?_,rfl⟩;cases q:δ[j]? with
   |none=>rw[q]at h1;cases h1
   |some u=>rw[q]at h1;rwa[qp9]at h1;rw[h1]
def RelC.lent{c:CV}{v:V}(h:RelC G F H ρ n c v):RelC G F H ρ n (lent c) v:=by cases c<;>exact h
def lI{c:CV}{t:T}:lent c≠.own θ t:=λe=>by cases c<;>cases e
theorem Ge.comp(en:Ge G Φ δ ch σ F H ρ):Ge G ⟨F,H,ρ,ch⟩ (gC src δ) ch (aK src σ) F H ρ:=⟨.refl en.gh,by simp[gC,aK],λk c h=>by have⟨j,U,h1,h2,rfl⟩:=nl h;have⟨v,O,h4⟩:=en.has j U h2;exact⟨v,wr h1 O,h4.lent⟩,λk t a h=>by have⟨_,_,_,_,e⟩:=nl h;exact absurd e.symm lI,λk j t u b a _ h=>by have⟨_,_,_,_,e⟩:=nl h;exact absurd e.symm lI⟩
structure Bd(G:Gx)(F1 H1:Hp)(ρ1:Nat->J4)(ch1:CH)(D:J4)(F H:Hp)(ρ:Nat->J4)(ch:CH)(done:List CV)(ys:List V):Prop where
 adv:Adv G F1 H1 ρ1 ch1 F H ρ ch
 hD:H D=ς (.e ys)
 fD:F D=ψ
 nD:∀i,i<ch.length->ρ i≠D
 rel:RelSs G F ρ ch.length done ys
theorem Bd.step(b:Bd G F1 H1 ρ1 ch1 D F H ρ ch done ys)(a:Adv G F H ρ ch F' H' ρ' ch'):Bd G F1 H1 ρ1 ch1 D F' H' ρ' ch' done ys:=by
 have w:RelW G F H ρ ch.length (.e []) (.ref D)->True:=λ_=>trivial
 refine⟨b.adv.trans a,a.prot D _ b.hD λi hi=>b.nD i hi,?_,λi hi e=>?_,b.rel.mono a.old a.ext a.len⟩
 .cases q:F' D with
  |none=>rfl
  |some o=>
   rcases a.nw D o q with z|z|⟨xs,z⟩
   .rw[b.fD]at z;cases z
   .rw[b.hD]at z;cases z
   .subst z;have O:=a.gh.fh _ _ q;rw[a.prot D _ b.hD λi hi=>b.nD i hi]at O;cases O
 .by_cases h:i<ch.length
  .rw[a.ext i h]at e;exact b.nD i h e
  .have:=a.fr i (qn7.mp h) hi;rw[e,b.hD]at this;cases this
theorem Bd.more(O:H1 D=ψ)(b:Bd G F1 H1 ρ1 ch1 D F H ρ ch done ys){c:CV}{v:V}(r:RelS G F ρ ch.length c v):Bd G F1 H1 ρ1 ch1 D F (upd H D (.e (ys++[v]))) ρ ch (done++[c]) (ys++[v]) where
 adv:=⟨⟨λx o e=>by
     rw[ai λz=>by rw[z,b.fD]at e;cases e];exact b.adv.gh.fh x o e,b.adv.gh.inj,b.adv.gh.out,λi o h=>(b.adv.gh.ok i o h).mono (Same.refl _) (λ_ _=>rfl) (nL _) λu U=>by
     rw[ai (b.nD i (ak h))];exact U⟩,b.adv.len,b.adv.ext,b.adv.fr,λx o h1 h2=>by
     rw[ai λz=>by rw[z,O]at h1;cases h1];exact b.adv.prot x o h1 h2,b.adv.old,b.adv.nw,λx h=>by
     by_cases z:x=D
     .rw[z,af]at h;cases h
     .rw[ai z]at h;exact b.adv.hs x h⟩
 hD:=af
 fD:=b.fD
 nD:=b.nD
 rel:=Paired.app b.rel (.cons r .nil)
omit x in
theorem Bd.fin{c:CV}(Z:H1 D=ψ)(b:Bd G F1 H1 ρ1 ch1 D F H ρ ch done ys)(W:finL m done ch=ς (c,ch'))(k:KM G RV F1 H1 ρ1 ch1 c ch' Q):Q (.ref D) H:=by
 have U:KM G RV F1 H1 ρ1 ch1 (.ref ch.length) (ch++[.e done]) Q->Q (.ref D) H:=λk=>by
  have lt:∀{i:Nat},i<ch.length->(if i=ch.length then D else ρ i)=ρ i:=λ{i} hi=>if_neg (qc2 hi)
  have g:=b.adv.gh
  have key:∀i x,(ch++[CO.e done])[i]?=ς x->(i<ch.length/\ch[i]?=ς x)\/(i=ch.length/\x=.e done):=λi x O=>by
   by_cases h1:i<ch.length
   .rw[gL h1]at O;exact .inl ⟨h1,O⟩
   .rw[gR (qn7.mp h1)]at O;have h2:i=ch.length:=by have:=ak O;simp at this;lia
    subst h2;simp at O;exact .inr ⟨rfl,O.symm⟩
  refine k.sol (F':=F) (H':=H) (ρ':=λi=>if i=ch.length then D else ρ i) ⟨⟨g.fh,λi j hi hj e=>?_,λi x O hl=>?_,λi x O=>?_⟩,by have:=b.adv.len;simp;lia,λi hi=>?_,λi h1 h2=>?_,b.adv.prot,b.adv.old,b.adv.nw,b.adv.hs⟩ ⟨Ξ,Ξ⟩
  .rwa[qc5,qb6,qg6]at hi hj;by_cases h1:i=ch.length<;>by_cases h2:j=ch.length
   .rw[h1,h2]
   .rw[if_pos h1,if_neg h2]at e;exact absurd e.symm (b.nD j Θ)
   .rw[if_neg h1,if_pos h2]at e;exact absurd e (b.nD i Θ)
   .rw[if_neg h1,if_neg h2]at e;exact g.inj i j Θ Θ e
  .rcases key i x O with ⟨h1,h2⟩|⟨h1,h2⟩
   .rw[lt h1];exact g.out i x h2 hl
   .rw[if_pos h1];exact b.fD
  .rwa[qc5,qb6,qg6];rcases key i x O with ⟨h1,h2⟩|⟨h1,h2⟩
   .rw[lt h1];exact(g.ok i x h2).mono (Same.refl _) (λj hj=>lt hj) (qi5 _) λu hu=>hu
   .subst h1;subst h2;rw[if_pos rfl];exact⟨ys,b.hD,b.rel.mono (Same.refl _) (λj hj=>lt hj) (qi5 _)⟩
  .rw[lt (qc6 hi b.adv.len)];exact b.adv.ext i hi
  .rwa[qc5,qb6,qg6]at h2;by_cases h3:i=ch.length
   .rw[if_pos h3];exact Z
   .rw[if_neg h3];exact b.adv.fr i h1 Θ
 unfold finL at W;split at W
 .rename_i ds hd;have rs:=aU hd b.rel;cases m with
  |o=>have e:=cw hd;cases W;rw[<- e]at k;exact U k
  |w=>cases W;exact k _ F H ρ b.adv ⟨⟨D,rfl,rfl,⟨D,ys,rfl,rfl,b.hD,rs⟩,b.fD,b.nD⟩,λ_ _ a e=>by cases e;exact Z⟩
  |v=>
   cases W;have ff:Same F (upd F D (.e ys)):=λx o e=>by rw[ai λz=>by rw[z,b.fD]at e;cases e];exact e
   refine k.sol (F':=upd F D (.e ys)) (H':=H) (ρ':=ρ) ⟨⟨λx o e=>?_,b.adv.gh.inj,λi x O hl=>?_,λi x O=>(b.adv.gh.ok i x O).mono ff (λ_ _=>rfl) (nL _) λ_ h=>h⟩,b.adv.len,b.adv.ext,b.adv.fr,b.adv.prot,b.adv.old.trans ff,λx o h=>?_,b.adv.hs⟩ ?_
   .by_cases z:x=D
    .subst z;rw[af]at e;cases e;exact b.hD
    .rw[ai z]at e;exact b.adv.gh.fh x o e
   .rw[ai (b.nD i (ak O))];exact b.adv.gh.out i x O hl
   .by_cases z:x=D
    .subst z;exact .inr (.inl Z)
    .rw[ai z]at h;exact b.adv.nw x o h
   .show Rep G.K _ (.e ds) (.ref D);rwa[Rep];exact⟨D,ys,rfl,SqL.of af,rs.same ff⟩
 .split at W<;>cases W
  exact U k
end
section
variable{G:Gx}{X:Cx}{elt tg iter:J8}{ifs:η J8}{scope:J9}{pos:Pos}{M:η Str}{src:η (ζ Nat)}{fi:FM (η Dt)}{ft:FM Bool}{fe:Fg}{m:Md}{pt:Pt}
omit x in
theorem oF(hts:(pt.slots.all λk=>decide (src[k]?=ς ψ))=θ)(σ:ae)(H:Hp)(Q:VK)(h:tM G RV (eCo m src fi (bnd pt) ft fe) σ H Q):jh src (tI G fi) (tP G (bnd pt) pt.slots) (tM G RB ft) (tM G RV fe) σ H Q:=by
 have⟨Φ,δ,ch,F,ρ,c,ch',en,hf,k0⟩:=h;have⟨⟨ds,ch0⟩,hd,hf1⟩:=bS hf;have⟨⟨all,ch2⟩,ha,hf2⟩:=bS hf1;dsimp only at ha hf2;rcases hf2
 rename_i hz;rw[sw];refine⟨Φ,δ,ch,F,ρ,ds,ch0,en,hd,λJ ok F1 H1 ρ1 a1 wd ho D hD=>?_⟩;have en1:=en.adv a1;have k:=k0.adv a1
 have wk:∀{σ2:ae},Only pt.slots (aK src σ) σ2->Wk (aK src σ) σ2:=λ{σ2} ho=>by
  refine⟨ho.1.symm,λj v hj=>?_⟩;by_cases hm:j∈pt.slots
  .have hn:src[j]?=ς ψ:=of_decide_eq_true (qb9.mp hts j hm);have⟨i,e,_⟩:=AB hj;rw[hn]at e;cases e
  .rw[ho.2 j hm];exact hj
 refine qc (n:=ds.length) (λi H=>∃F ρ' c' ys done O,Bd G F1 H1 ρ1 ch0 D F H ρ' c' done ys/\aE (bnd pt) ft fe (gC src δ) (ds.drop i) c'=ς (O,ch2)/\done++O=all) ?_ ?_ ?_ ?_
 .refine⟨F1,ρ1,ch0,[],[],all,⟨.of en1.gh (Step.made en1.gh.fh hD),af,en1.gh.fh.free hD,λi hi e=>?_,.nil⟩,‹ha›,rfl⟩;have⟨u,hu⟩:=en1.gh.at hi;rw[e,hD]at hu;cases hu
 .rintro i H' ⟨F',ρ',c',ys,done,O,b,_⟩;have⟨p1,p2,_⟩:=wd i H' F' (ho H' (b.adv.old.trans b.adv.gh.fh)) b.adv.gh.fh b.adv.old;exact⟨p1,p2⟩
 .rintro i x H0' H' hi ⟨F0',ρ0,c0,ys,done,O,b0,hgo,U⟩ hy0;have⟨_,_,p3⟩:=wd i H0' F0' (ho H0' (b0.adv.old.trans b0.adv.gh.fh)) b0.adv.gh.fh b0.adv.old;have⟨d,F',hd',stw,rd⟩:=p3 x H' hi hy0;have b1:=b0.step (.of b0.adv.gh stw);have en2:=(en1.adv b1.adv).comp (src:=src);rw[ou hd']at hgo;have⟨δ1,h1,hgo1⟩:=bS hgo;have⟨p,h2,W⟩:=bS hgo1;refine⟨_,_,c0,F',ρ0,d,δ1,en2,rd,h1,λσ2 en3 on=>⟨wk on,_,δ1,c0,F',ρ0,p.1,p.2,en3,h2,λbb F3 H3 ρ3 a3 r3=>?_⟩⟩;cases r3;have b2:=b1.step a3;cases q:p.1 with
  |false=>rw[q]at W;exact⟨F3,ρ3,p.2,ys,done,O,b2,W,U⟩
  |true=>
   rw[q,if_pos rfl]at W;rw[if_pos rfl];have⟨e,h4,Z⟩:=bS W;rcases Z
   rename_i hs;have⟨z,h5,hgo4⟩:=mS Z;cases hgo4;refine⟨_,δ1,p.2,F3,ρ3,e.1,e.2,en3.adv a3,h4,λv F4 H4 ρ4 a4 r4=>?_⟩;have b3:=b2.step a4;refine⟨ys,b3.hD,?_,F4,ρ4,e.2,ys++[v],done++[e.1],z.1,b3.more hD (r4.1.s hs),h5,‹U›⟩;have:done.length<all.length:=by rw[<- U];simp
   rw[b3.rel.length];exact qc6 this hz
 .rintro H' ⟨F',ρ',c',ys,done,O,b,hgo,U⟩;rw[qt6]at hgo;cases hgo;rw[qh8]at U;subst U;exact b.fin hD hf2 k
end
variable{p2:Pos}
section
variable{G:Gx}{X:Cx}{elt tg iter:J8}{ifs:η J8}{scope:J9}{pos spos py apos cpos p:Pos}{M:η Str}{src:η (ζ Nat)}{fi:FM (η Dt)}{ft:FM Bool}{f fa fe fk:Fg}{fs:FM (η CV)}{m:Md}{pt:Pt}{i:Nat}{e o a:J8}{es:η J8}{sc:J9}{x:Str}
noncomputable def tYs:FM Bool:=λ_ ch=>ς (θ,ch)
def GTs(G:Gx)(X:Cx)(ifs:η J8)(f:FM Bool):Prop:=PTs X ifs (tM G RB f)
def oG:GTs G X [] tYs:=λJ0 s σ H Q I h=>wj J0 s σ H Q I (h.ret λ_ _ _=>rfl)
def oH{c:J8}{f:FM Bool}(h:GT G X c f):GTs G X [c] f:=wl h
theorem wV (S:CmpScope X.N X.env.scope scope M src) (hc:X.calm=θ) (hi:GI G X tg iter fi) (U:M.Nodup->∀ C s H ex,GP G (cxC X M scope C s H ex) tg pt) (W:∀ C s H ex,GTs G (cxC X M scope C s H ex) ifs ft)
  (he:∀C s H ex,GE G (cxC X M scope C s H ex) elt fe) (O:(pt.slots.all λk=>decide (src[k]?=ς ψ))=θ) (hs:∀x,qh3 iter X.env x=pure x):GE G X (.ListComp elt [⟨tg,iter,ifs,0⟩] scope pos) (eCo m src fi (bnd pt) ft fe):=
 PE.mono (so S hc hi (λZ C s H ex=>U Z C s H ex) (λC s H ex=>W C s H ex) (λC s H ex=>he C s H ex) hs) (oF O)
omit x in
theorem wW(h:b6 sc N i x=θ)(hl:iO sc x=θ)(U:N.Nodup)(e1:aY X sc)(e2:X.N=N)(hf:X.fn x=θ\/X.env.scope.names.lookup x=ς .local)
 (S:CmpScope X.N X.env.scope scope M src) (hc:X.calm=θ) (hi:GI G X tg iter fi) (Z:M.Nodup->∀C s H ex,GP G (cxC X M scope C s H ex) tg pt) (ht:∀C s H ex,GTs G (cxC X M scope C s H ex) ifs ft)
 (he:∀C s H ex,GE G (cxC X M scope C s H ex) elt fe) (W:(pt.slots.all λk=>decide (src[k]?=ς ψ))=θ) (hs:∀x,qh3 iter X.env x=pure x)
 (hsw:qi9 (.ListComp elt [⟨tg,iter,ifs,0⟩] scope pos) (ς (.Name x py)) spos.line X.env=pure θ):GS1 G X (.Assign [.Name x py] (.ListComp elt [⟨tg,iter,ifs,0⟩] scope pos) spos) (bC i (eCo m src fi (bnd pt) ft fe)):=by
 subst e2;refine PSBq.mono (wO U (fC h) (by rw[e1];exact jY hl) hf S hc hi (λU C s H ex=>Z U C s H ex) (λC s H ex=>ht C s H ex) (λC s H ex=>he C s H ex) hs hsw) λD σ H ⟨Φ,δ,ch,F,ρ,o,en,Z,k⟩=>?_
 have⟨p,h1,O⟩:=bS Z;split at O<;>cases O
 rename_i hk;exact oF W σ H _ ⟨Φ,δ,ch,F,ρ,p.1,p.2,en,h1,λv F' H' ρ' a r=>k _ F' H' ρ' (en.put a r.1 r.2 hk i)⟩
def fOp:ζ Fg->FM (ζ Int)
 |none=>λ_ ch=>ς (ψ,ch)
 |some f=>λδ ch=>(f δ ch).bind λp=>(bY p.1).map λi=>(ς i,p.2)
def eSl(m:Md)(fa:Fg)(lo hi:ζ Fg):Fg:=λδ ch=>(fa δ ch).bind λp=>(fOp lo δ p.2).bind λq=>(fOp hi δ q.2).bind λr=>(vw r.2 p.1).bind λd=>(gSl d q.1 r.1).bind (fin m r.2)
def RO:RL (ζ Int) (ζ Int):=λ_ _ _ _ _ _ a b=>a=b
def wX:jN X ψ (tM G RO (fOp ψ)):=λJ0 s σ H Q I h=>v6 J0 s σ H Q I (h.ret λ_ _ _=>rfl)
theorem wY(h:GE G X e f):jN X (ς e) (tM G RO (fOp (ς f))):=λJ0 s σ H Q I O=>by have⟨Φ,δ,ch,F,ρ,c,ch',en,W,k⟩:=O;exact v7 h J0 s σ H Q I (by have⟨p,h1,U⟩:=bS W;have⟨j,h2,q⟩:=mS U;cases q;exact⟨Φ,δ,ch,F,ρ,p.1,p.2,en,h1,λv F' H' ρ' a r=>⟨j,cz h2 r.1,k _ F' H' ρ' a rfl⟩⟩)
theorem tQ{lo hi:ζ J8}{U O:ζ Fg}(hK:X.K=G.K)(he:GE G X e f)(hl:jN X lo (tM G RO (fOp U)))(hh:jN X hi (tM G RO (fOp O))):GE G X (.Subscript e (.Slice lo hi ψ p2) pos) (eSl m f U O):=PE.mono (rS AH he hl hh) λσ H Q hq3=>by have⟨Φ,δ,ch,F,ρ,c,ch',en,hf,k⟩:=hq3;have⟨p,h1,hf2⟩:=bS hf;have⟨q,h2,Z⟩:=bS hf2;have⟨r,h3,hf4⟩:=bS Z;have⟨d,h4,hf5⟩:=bS hf4;have⟨t,h5,W⟩:=bS hf5;refine⟨Φ,δ,ch,F,ρ,_,_,en,h1,λv F1 H1 ρ1 a1 r1=>⟨Φ,δ,_,F1,ρ1,_,_,en.adv a1,h2,λl F2 H2 ρ2 a2 r2=>⟨Φ,δ,_,F2,ρ2,_,_,(en.adv a1).adv a2,h3,λu F3 H3 ρ3 a3 r3=>?_⟩⟩⟩;cases r2;cases r3;rw[hK];exact r_sl a3.gh.fh (aN a3.gh ((r1.1.adv a2).adv a3) h4) h5 (bP a3.gh W (((k.adv a1).adv a2).adv a3))
def kB(m:Md)(g:η Dt->ζ T):η CV->Fg:=λcs _ ch=>(vws ch cs).bind λds=>(g ds).bind (fin m ch)
def eB(m:Md)(g:η Dt->ζ T)(fs:FM (η CV)):Fg:=λδ ch=>(fs δ ch).bind λp=>kB m g p.1 δ p.2
theorem yV{r:η V->Hp->VK->Prop}{g:η Dt->ζ T}(U:CRD G.K r g){Q:VK}(h:tK G RV (kB m g) σ vs H Q):r vs H Q:=by have⟨Φ,δ,ch,F,ρ,cs,c,ch',en,rs,O,k⟩:=h;have⟨ds,h1,O⟩:=bS O;have⟨t,h2,O⟩:=bS O;exact U F H ds vs Q t en.gh.fh (fK en.gh rs h1) h2 (bP en.gh O k)
theorem tR{id:String}{r:η V->Hp->VK->Prop}{g:η Dt->ζ T}(h:aL sc x=θ)(hc:CallR X (.builtin id) r)(W:CRD G.K r g)(U:X.mg x=ψ)(Z:qf6 x=ς (.builtin id))(ha:GA G X (e::es) fs)(e1:aY X sc)(he:qb1 (e::es) X.env=(ξ,eval e X.env)::qb1 es X.env)(O:(qh6 pos (qb1 es X.env)).any (·.1)=ξ):GE G X (.Call (.Name x p) (e::es) [] pos) (eB m g fs):=PE.mono (jk h hc U Z ha e1 he O) λσ H Q h=>(tK.args (k:=kB m g) h).imp λ_ _=>yV W
theorem tS{Ty:String}{r:η V->Hp->VK->Prop}{g:η Dt->ζ T}(h:aL sc x=θ)(hc:CallR X (.type Ty) r)(W:CRD G.K r g)(U:X.mg x=ψ)(Z:qf6 x=ς (.type Ty))(ha:GA G X (e::es) fs)(e1:aY X sc)(he:qb1 (e::es) X.env=(ξ,eval e X.env)::qb1 es X.env)(O:(qh6 pos (qb1 es X.env)).any (·.1)=ξ):GE G X (.Call (.Name x p) (e::es) [] pos) (eB m g fs):=PE.mono (dQ h hc U Z ha e1 he O) λσ H Q h=>(tK.args (k:=kB m g) h).imp λ_ _=>yV W
def eIs(c:String)(f:Fg):Fg:=λδ ch=>(f δ ch).bind λp=>(vw p.2 p.1).bind λd=>ς (.g (.bl (cY c d)),p.2)
theorem qp{cn:Str}{cs:String}{p1:Pos}(hK:X.K=G.K)(h:aL sc "isinstance"=θ)(hcn:aL sc cn=θ)(hm:X.mg "isinstance"=ψ)(hmc:X.mg cn=ψ)(hv:qf6 cn=ς (.type cs))(hk:j8 X.K cs)(ha:GE G X a fa)(e1:aY X sc)
 (he:qb1 [a,.Name cn p2] X.env=(ξ,eval a X.env)::qb1 [.Name cn p2] X.env) (U:qb1 [.Name cn p2] X.env=(ξ,eval (.Name cn p2) X.env)::qb1 [] X.env) (O:(qh6 pos (qb1 [.Name cn p2] X.env)).any (·.1)=ξ) :
  GE G X (.Call (.Name "isinstance" p1) [a,.Name cn p2] [] pos) (eIs cs fa):=
 PE.mono (jk h na hm iM (bw ha (bw (sG (v:=.ty cs) hcn hmc hv rfl e1) cq U) he) e1 he O) λσ H Q W=>by have⟨Φ,δ,ch,F,ρ,c,ch',en,hf,k⟩:=W;have⟨p,hp,Z⟩:=bS hf;have⟨d,hd,hf2⟩:=bS Z;cases hf2;exact⟨Φ,δ,ch,F,ρ,p.1,p.2,en,hp,λv F' H' ρ' a r=>⟨v,cs,d,_,rfl,by rw[hK];exact(aN a.gh r.1 hd).rep a.gh.fh,rfl,hk d rfl,k.sol a (by show Rep G.K F' _ _;exact hJ)⟩⟩
def eMt(m:Md)(g:Dt->η Dt->ζ T)(fa:Fg)(fs:FM (η CV)):Fg:=λδ ch=>(fa δ ch).bind λp=>match p.1 with
 |.g (.str z)=>(fs δ p.2).bind λq=>(vws q.2 q.1).bind λds=>(g (.str z) ds).bind (fin m q.2)
 |_=>ψ
omit x in
theorem Bl {name:Str} {id:String} {r:V->η V->Hp->VK->Prop} {g:Dt->η Dt->ζ T} (slot:Slot "str" name id) (hty:typeOf (.builtin id)=pure (.type "method_descriptor")) (hm:MtR X id r) (hr:MRD G.K r g) (ho:GE G X o fa) (ha:GA G X (e::es) fs)
  (W:qi8 o name X.env (eval o X.env)=eval o X.env)
  (hfew:((qh6 cpos (qb1 (e::es) X.env)).all (λx=>!x.1)&&(qo9 cpos (qi4 [] X.env)).all (λx=>x.1.isSome)
   && decide ((e::es).length+([]:η qw8).length+(if([]:η qw8).isEmpty then 0 else 1)<30))=θ)
  (Z:(apos.endLine==cpos.line)=θ) (hs:qb1 (e::es) X.env=(ξ,eval e X.env)::qb1 es X.env) (O:(qh6 cpos (qb1 es X.env)).any (·.1)=ξ) :
  GE G X (.Call (.Attribute o name apos) (e::es) [] cpos) (eMt m g fa fs):=PE.mono (ll PySem.F.plainAttrs_str slot hty hm ho ha W hfew Z hs O) λσ H Q hq5=>by
 have⟨Φ,δ,ch,F,ρ,c,ch',en,hf,k⟩:=hq5;have⟨⟨c1,ch1⟩,h1,U⟩:=bS hf;dsimp only at U;rcases U
 rename_i z;have⟨q,h2,hf3⟩:=bS U;have⟨ds,h3,hf4⟩:=bS hf3;have⟨t,h4,hf5⟩:=bS hf4;refine⟨Φ,δ,ch,F,ρ,_,_,en,h1,λv F1 H1 ρ1 a1 r1=>?_⟩;have r1:=r1.1;have rv:v=.str z:=by simpa only[RelC,RelS,Rep] using r1
 subst rv;exact⟨rfl,Φ,δ,_,F1,ρ1,_,_,en.adv a1,h2,λus F2 H2 ρ2 a2 r2=>hr F2 H2 (.str z) _ ds us Q t a2.gh.fh (RepB.of a2.gh.fh eC) (fK a2.gh r2 h3) h4 (bP a2.gh hf5 ((k.adv a1).adv a2))⟩
def eDn(m:Md)(t:Bool):Fg:=λ_ ch=>fin m ch (if t then .dcT []else .dct [])
def wZ{t:Bool}:GE G X (.Dict [] [] pos) (eDn m t):=by
 cases t with
 |false=>exact PE.mono sd λσ H Q U p hp=>by have⟨Φ,δ,ch,F,ρ,c,ch',en,O,k⟩:=U;exact bP (t:=.dct []) en.gh O k _ _ F (λb=>b=p) (Step.made en.gh.fh hp) ⟨p,[],rfl,rfl,af,rfl,by simp[Reps]⟩ λb z=>by subst z;exact⟨en.gh.fh.free hp,hp,_,af,nofun⟩
 |true=>exact PE.mono se λσ H Q W p hp=>by have⟨Φ,δ,ch,F,ρ,c,ch',en,O,k⟩:=W;exact bP (t:=.dcT []) en.gh O k _ _ F (λb=>b=p) (Step.made en.gh.fh hp) ⟨p,[],rfl,rfl,af,rfl,by simp[Reps]⟩ λb z=>by subst z;exact⟨en.gh.fh.free hp,hp,_,af,nofun⟩
def getV(ch:CH)(x:CV)(k:Dt)(z:CV):ζ CV:=match x with
 |.ref i=>match ch[i]? with
  |some (.dK l)=>(cO k).map λk=>(lkC l k).getD z
  |some (.dT l)=>(isK k).map λk=>(lkC l k).getD z
  |_=>ψ
 |x=>(vw ch x).bind λx=>(bQ x k).map λr=>(r.map .g).getD z
def ie(ch:CH)(x:CV):Bool:=match x with
 |.ref i=>match ch[i]? with
  |some (.dK _)|some (.dT _)=>θ
  |_=>ξ
 |x=>match vw ch x with
  |some (.dct _ _)|some (.dcT _ _)=>θ
  |_=>ξ
def eGt(fa fk fe:Fg):Fg:=λδ ch=>(fa δ ch).bind λp=>if ie p.2 p.1 then(fk δ p.2).bind λq=>(fe δ q.2).bind λr=>(vw r.2 q.1).bind λk=>if r.1.sol then(getV r.2 p.1 k r.1).map λc=>(c,r.2)else ψ else ψ
def w6{F:Hp}{c:CV}{v:V}(g:Gh G F H ρ ch)(r:RelC G F H ρ ch.length c v)(h:ie ch c=θ):∃a,v=.ref a/\IsD H a:=by
 have O:∀d,vw ch c=ς d->(match (ς d:ζ Dt)with|some (.dct _ _)|some (.dcT _ _)=>θ|_=>ξ)=θ->∃a,v=.ref a/\IsD H a:=λd Z h=>by
  have W:=aN g r Z;cases d with
  |dct ks l=>have⟨a,J1,e,q,_⟩:=W;exact⟨a,e,.inl ⟨J1,q⟩⟩
  |dcT ks l=>have⟨a,J1,e,q,_⟩:=W;exact⟨a,e,.inr ⟨J1,q⟩⟩
  |_=>cases h
 cases c with
 |ref i=>
  have⟨hi,rfl⟩:=r;cases q:ch[i]? with
  |none=>simp[ie,q]at h
  |some o=>
   have U:=g.ok i o q;cases o with
   |dK l=>have⟨_,J1,e,_⟩:=U;exact⟨_,rfl,.inl ⟨J1,.of e⟩⟩
   |dT l=>have⟨_,J1,e,_⟩:=U;exact⟨_,rfl,.inr ⟨J1,.of e⟩⟩
   |_=>simp[ie,q]at h
 |g d=>exact O d rfl h
 |own b t=>
  cases q:vw ch (.own b t)with
  |none=>simp[ie,q]at h
  |some d=>exact O d q (by rwa[ie]at h;rw[q]at h;exact h)
 |fn _ _=>cases h
theorem w8{F:Hp}{x z c:CV}{k:Dt}{vz:V}(hI:fL G.K=θ)(g:Gh G F H ρ ch)(rx:RelC G F H ρ ch.length x vx)(rk:RepB G.K F H k vk)(rz:RelS G F ρ ch.length z vz)(h:getV ch x k z=ς c):∃a o,vx=.ref a/\DGet H a vk o/\RelS G F ρ ch.length c (o.getD vz):=by
 have U:(vw ch x).bind (λx=>(bQ x k).map λr=>(r.map .g).getD z)=ς c->∃a o,vx=.ref a/\DGet H a vk o/\RelS G F ρ ch.length c (o.getD vz):=λh=>by
  have⟨d,h1,h2⟩:=bS h;have⟨r,O,rfl⟩:=mS h2;have⟨a,o,e,hg,hm⟩:=ia hI g.fh (aN g rx h1) rk O;refine⟨a,o,e,hg,?_⟩;cases r with
  |none=>rw[hm.2 rfl];exact rz
  |some y=>have⟨v,rfl,rv⟩:=hm.1 y rfl;exact rv
 have obj:∀{κ:Type}[DecidableEq κ]{n:Nat}{l:η (κ×CV)}{J1:η (κ×V)}{k:κ},J1.map (·.1)=l.map (·.1)->RelSs G F ρ ch.length (l.map (·.2)) (J1.map (·.2))->RelS G F ρ ch.length ((lkC l k).getD z) ((bH J1 k).getD vz):=λ{κ _ n l J1 k} h2 O=>by
  have Z:=gv (k:=k) h2 O;cases q:lkC l k with
  |none=>rw[q]at Z;rw[Z];exact rz
  |some c=>rw[q]at Z;have⟨v,e,r⟩:=Z;rw[e];exact r
 cases x with
 |ref i=>
  have⟨hi,rfl⟩:=rx;cases q:ch[i]? with
  |none=>simp[getV,q]at h
  |some o=>
   have W:=g.ok i o q;cases o with
   |dK l=>rwa[getV,q]at h;have⟨j,hj,rfl⟩:=mS h;have⟨nd,J1,h1,h2,O⟩:=W;rw[dz rk hj];exact⟨_,_,rfl,DGet.k h1,obj (n:=0) h2 O⟩
   |dT l=>rwa[getV,q]at h;have⟨j,hj,rfl⟩:=mS h;have⟨nd,J1,h1,h2,O⟩:=W;have⟨b,rfl,hb⟩:=kf hI hj rk;exact⟨_,_,rfl,DGet.t h1 (g.fh _ _ hb),obj (n:=0) h2 O⟩
   |_=>simp[getV,q]at h
 |g d=>exact U h
 |own b t=>exact U h
 |fn _ _=>cases h
omit x in
theorem w9{k:Nat}{Z:J8}(hI:fL G.K=θ)(hr:Room k X.A)(ho:GE G X o fa)(hk:GE G X Z fk)(he:GE G X e fe)(mm:M2 X o "get" apos Z e cpos):GE G X (.Call (.Attribute o "get" apos) [Z,e] [] cpos) (eGt fa fk fe):=PE.mono (sf (lp hr) ho hk he mm) λσ H Q hq8=>by
 have⟨Φ,δ,ch,F,ρ,c,ch',en,hf,k⟩:=hq8;have⟨p,h1,U⟩:=bS hf;rcases U
 rename_i hd;have⟨q,h2,W⟩:=bS U;have⟨r,h3,hf4⟩:=bS W;have⟨d,h4,O⟩:=bS hf4;rcases O
 rename_i hs;have⟨c',h5,e5⟩:=mS O;cases e5;refine⟨Φ,δ,ch,F,ρ,_,_,en,h1,λv F1 H1 ρ1 a1 r1=>?_⟩;have⟨a,ea,da⟩:=w6 a1.gh r1.1 hd;refine⟨a,ea,da,Φ,δ,_,F1,ρ1,_,_,en.adv a1,h2,λw F2 H2 ρ2 a2 r2=>⟨Φ,δ,_,F2,ρ2,_,_,(en.adv a1).adv a2,h3,λu F3 H3 ρ3 a3 r3=>?_⟩⟩;have⟨b,o,eb,hg,rc⟩:=w8 hI a3.gh ((r1.1.adv a2).adv a3) (aN a3.gh (r2.1.adv a3) h4) (r3.1.s hs) h5;rw[ea]at eb;cases eb;exact⟨o,hg,((k.adv a1).adv a2).sol a3 rc⟩
end
noncomputable def bF{κ:Type}[DecidableEq κ]:η (κ×CV)->κ->CV->η (κ×CV)
 |[],k,c=>[(k,c)]
 |p::l,k,c=>if p.1=k then(p.1,c)::l else p::bF l k c
section
variable{κ:Type}[DecidableEq κ]{k:κ}{c:CV}{v:V}
theorem lJ{j:κ}:∀{l:η (κ×CV)},j∈(bF l k c).map (·.1)->j=k\/j∈l.map (·.1)
 |[],h=>by simp[bF]at h;exact .inl h
 |p::l,h=>by
  unfold bF at h;split at h
  .exact .inr ‹h›
  .rcases qc4.mp h with e|h
   .exact .inr (by simp[e])
   .exact(lJ h).imp_right (qe6 _)
omit x in
theorem kh:∀{l:η (κ×CV)},(l.map (·.1)).Nodup->((bF l k c).map (·.1)).Nodup
 |[],_=>by simp[bF]
 |p::l,h=>by
  have h':=qd7.mp h;unfold bF;split
  .exact h
  .rename_i O;refine qd7.mpr ⟨λz=>?_,kh h'.2⟩;rcases lJ z with e|e
   .exact O e
   .exact h'.1 e
theorem ig {G:Gx} {F:Hp} (r:RelS G F ρ n c v):∀ {l:η (κ×CV)} {J1:η (κ×V)},(l.map (·.1)).Nodup->J1.map (·.1)=l.map (·.1)->RelSs G F ρ n (l.map (·.2)) (J1.map (·.2))→
  (aA J1 k v).map (·.1)=(bF l k c).map (·.1)/\RelSs G F ρ n ((bF l k c).map (·.2)) ((aA J1 k v).map (·.2))
 |[],[],_,_,_=>⟨rfl,.cons r .nil⟩
 |[],q::J1,_,h,_=>by cases h
 |p::l,[],_,h,_=>by cases h
 |p::l,q::J1,nd,h,rs=>by
  rwa[qa2,zc1]at h;have⟨h1,h2⟩:=h;obtain _|⟨r1,r2⟩:=rs;have U:=qd7.mp nd;by_cases W:p.1=k
  .have Z:q.1=k:=h1.trans W
   have O:∀x∈J1,¬ x.1=k:=λx hx e=>U.1 (by have:x.1∈J1.map (·.1):=List.mem_map_of_mem hx;rw[h2]at this;rw[e,<- W]at this;exact this)
   have e2:aA (q::J1) k v=(q.1,v)::J1:=by
    unfold aA;rw[if_pos (by simp[Z])];rwa[qa2,if_pos Z,zc1,true_and];have:∀x∈J1,(if x.1=k then(x.1,v)else x)=id x:=λx hx=>if_neg (O x hx)
    rw[qn2 this,List.map_id]
   have e1:bF (p::l) k c=(p.1,c)::l:=by rwa[bF,if_pos W]
   rw[e1,e2];exact⟨by simp[h1,h2],.cons r r2⟩
  .have Z:¬ q.1=k:=λz=>W (h1.symm.trans z)
   have e2:aA (q::J1) k v=q::aA J1 k v:=by
    unfold aA;by_cases ha:(J1.any λkv=>decide (kv.1=k))=θ
    .rw[if_pos ha,if_pos (by rwa[ql7,ha,Bool.or_true])];rwa[qa2,if_neg Z]
    .rw[if_neg ha,if_neg (by rwa[ql7,decide_eq_false Z,ze4];exact ha)];rfl
   have e1:bF (p::l) k c=p::bF l k c:=by rwa[bF,if_neg W]
   have⟨i1,i2⟩:=ig r U.2 h2 r2;rw[e1,e2];exact⟨by simp[h1,i1],.cons r1 i2⟩
end
def gk(o:CO)(d:Dt)(c:CV):ζ CO:=match o with
 |.e l=>(asI d).bind λj=>(ixN l.length j).map λm=>.e (l.set m c)
 |.dK l=>(cO d).bind λk=>if l.length<qa4 then ς (.dK (bF l k c))else ψ
 |.dT l=>(isK d).bind λk=>if l.length<qa4 then ς (.dT (bF l k c))else ψ
 |_=>ψ
variable{aop:qp7}
section
variable{G:Gx}{X:Cx}{st:J6}{e c o ik:J8}{es:η J8}{pos pos' apos cpos:Pos}{f fa fe fk:Fg}{fs:FM (η CV)}{i:Nat}{Φ:Fr0}{F H F' H' F1 H1:Hp}{ρ ρ' ρ1:Nat->J4}{δ:Sl}{σ:ae}{ch ch' ch1:CH}{D:Ends}
theorem xa{κ:Type}{l:η (κ×CV)}{J1:η (κ×V)}(h:J1.map (·.1)=l.map (·.1)):J1.length=l.length:=by have:=congrArg qm1 h;simpa using this
omit x in
theorem xb {o:CO} {w:CO} {d:Dt} {x:CV} {v:V} {P:Hp->Prop} (hI:fL G.K=θ) (g:Gh G F H ρ ch) (Z:ch[i]?=ς o) (rk:RepB G.K F H d vk) (r:RelS G F ρ ch.length x v) (h:gk o d x=ς w) (k:∀ H',Adv G F H ρ ch F H' ρ (ch.set i w)->P H') :
  yD (.ref (ρ i)) vk v H P\/yS (.ref (ρ i)) vk v H P:=by
 have O:=g.ok i o Z;cases o with
 |e l=>have⟨j,U,h⟩:=bS h;have⟨m,hm,rfl⟩:=mS h;have⟨vs,q1,q2⟩:=O;exact .inl ⟨_,vs,j,m,rfl,ib U rk,q1,by rw[RelSs.length q2];exact hm,k _ (.put (o:=.e (l.set m x)) g Z trivial ⟨_,af,Paired.set r m q2⟩)⟩
 |dK l=>
  have⟨j,U,h⟩:=bS h;split at h<;>cases h
  rename_i hz;have⟨W,J1,q1,q2,q3⟩:=O;have⟨z1,z2⟩:=ig (k:=j) r W q2 q3;rw[dz rk U];exact .inr ⟨_,_,rfl,DPut.k q1 (by rw[xa q2];exact hz),k _ (.put (o:=.dK (bF l j x)) g Z trivial ⟨kh W,_,af,z1,z2⟩)⟩
 |dT l=>
  have⟨j,U,h⟩:=bS h;split at h<;>cases h
  rename_i hz;have⟨W,J1,q1,q2,q3⟩:=O;have⟨z1,z2⟩:=ig (k:=j) r W q2 q3;have⟨b,rfl,hb⟩:=kf hI U rk;exact .inr ⟨_,_,rfl,DPut.t q1 (g.fh _ _ hb) (by rw[xa q2];exact hz),k _ (.put (o:=.dT (bF l j x)) g Z trivial ⟨kh W,_,af,z1,z2⟩)⟩
 |_=>cases h
def sPt(fa fk fe:Fg):Fs:=λδ ch=>(fe δ ch).bind λp=>(fa δ p.2).bind λq=>(fk δ q.2).bind λr=>match q.1 with
 |.ref i=>if p.1.sol then(vw r.2 r.1).bind λd=>((r.2[i]?).bind λo=>gk o d p.1).map λo'=>.nx δ (r.2.set i o')else ψ
 |_=>ψ
structure AsS(X:Cx)(o ik e:J8)(pos pos':Pos):Prop where
 hs:qu0 [.Subscript o ik pos'] e pos.line X.env=pure ξ
 hw:ze0 [.Subscript o ik pos'] e X.env=pure ψ
 h1:(qi3 [.Subscript o ik pos'] X.env).map (·.2)=[qz4 (.Subscript o ik pos') X.env]
 ha:∀ v,qz4 (.Subscript o ik pos') X.env v=(do
     let ov <- qp1 [v] (eval o X.env);let iv <- qp1 [v,ov] (eval ik X.env)
     qw6 pos'
     qp1 [v,ov,iv] (setItem ov iv v)
     release [v,ov,iv] [])
omit x in
theorem Bm{k:Nat}(hI:fL G.K=θ)(hr:Room k X.A)(hx:GE G X o fa)(hk:GE G X ik fk)(he:GE G X e fe)(A:AsS X o ik e pos pos'):GS1 G X (.Assign [.Subscript o ik pos'] e pos) (sPt fa fk fe):=
 PSBq.mono (rj he (zO hx hk (PSet.or rT (sY (lp hr))) A.ha) A.hs A.hw A.h1) λD σ H Z=>by
  have⟨Φ,δ,ch,F,ρ,og,en,hg,kk⟩:=Z;have⟨p,h1,hg1⟩:=bS hg;have⟨⟨c2,ch2⟩,h2,hg2⟩:=bS hg1;have⟨r,h3,O⟩:=bS hg2;dsimp only at h3 O;cases c2 with
  |ref i=>
   dsimp only at O;rcases O
   rename_i hs;have⟨d,h4,W⟩:=bS O;have⟨w,h5,e5⟩:=mS W;cases e5;have⟨o,ho,h6⟩:=bS h5;refine⟨Φ,δ,ch,F,ρ,_,_,en,h1,λv F1 H1 ρ1 a1 r1=>⟨Φ,δ,_,F1,ρ1,_,_,en.adv a1,h2,λx F2 H2 ρ2 a2 r2=>⟨Φ,δ,_,F2,ρ2,_,_,(en.adv a1).adv a2,h3,λy F3 H3 U a3 r3=>?_⟩⟩⟩;have⟨hi,rfl⟩:=(r2.1.adv a3);exact xb hI a3.gh ho (aN a3.gh r3.1 h4) (((r1.1.adv a2).adv a3).s hs) h6 λH' a4=>kk σ F3 H' U ((((en.adv a1).adv a2).adv a3).adv a4)
  |_=>cases O
def putT(t:T)(d x:Dt):ζ T:=match t with
 |.e l=>(asI d).bind λj=>(ixN l.length j).map λm=>.e (l.set m x)
 |.dct l=>(cO d).bind λk=>if l.length<qa4/\(l.map (·.1)).Nodup then ς (.dct (bI l k x))else ψ
 |.dcT l=>(isK d).bind λk=>if l.length<qa4/\(l.map (·.1)).Nodup then ς (.dcT (bI l k x))else ψ
 |_=>ψ
noncomputable def Bn:CV->ζ T
 |.own θ t=>ς t
 |_=>ψ
noncomputable def c9(δ:Sl)(i:Nat):ζ T:=(δ[i]?).join.bind Bn
def tT{t:T}(h:c9 δ i=ς t):δ[i]?=ς (ς (.own θ t)):=by
 unfold c9 at h;have⟨c,h1,h2⟩:=bS h;cases q:δ[i]? with
 |none=>rw[q]at h1;cases h1
 |some u=>
  rw[q]at h1;rwa[qp9]at h1;subst h1;cases c with
  |own b t'=>cases b<;>cases h2;rfl
  |_=>cases h2
def sPs(i:Nat)(fk fe:Fg):Fs:=λδ ch=>(fe δ ch).bind λp=>(fk δ p.2).bind λr=>match p.1 with
 |.g x=>(vw r.2 r.1).bind λd=>(c9 δ i).bind λt=>(putT t d x).map λt'=>.nx (δ.set i (ς (.own θ t'))) r.2
 |_=>ψ
def cP(c f:Nat)(o:CO)(x:CV):ζ CO:=match o with
 |.ins O l=>if O=c/\x.sol=θ/\l.length<1000 then(if f<l.length then ς (.ins c (l.set f x))else if f=l.length then ς (.ins c (l++[x]))else ψ)else ψ
 |_=>ψ
theorem oI{fn:Str}{v:V}:∀{fs:η (Str×V)}{f:Nat},(fs.map (·.1)).Nodup->(fs.map (·.1))[f]?=ς fn->(bA fn v fs).map (·.1)=fs.map (·.1)/\(bA fn v fs).map (·.2)=(fs.map (·.2)).set f v
 |[],f,_,h=>by simp at h
 |(g,x)::fs,0,_,h=>by simp at h;subst h;simp[bA]
 |(g,x)::fs,f+1,O,h=>by
  rwa[qa2,qd7]at O;rwa[qa2,qd3]at h;have W:g≠fn:=λe=>O.1 (by rw[e];exact qa5 h)
  have⟨U,Z⟩:=oI (v:=v) O.2 h;simp[bA,W,U,Z]
theorem lK{fn:Str}{v:V}:∀{fs:η (Str×V)},fn∉fs.map (·.1)->(bA fn v fs).map (·.1)=fs.map (·.1)++[fn]/\(bA fn v fs).map (·.2)=fs.map (·.2)++[v]
 |[],_=>by simp[bA]
 |(g,x)::fs,h=>by rwa[qa2,qc4,not_or]at h;have⟨O,U⟩:=lK (v:=v) h.2;simp[bA,qk7 h.1,O,U]
omit x in
theorem oJ {c f:Nat} {o w:CO} {x:CV} {v:V} {pn:Str×η Str} {fn:Str} (hc:jn G c) (hp:G.ct[c]?=ς pn) (W:pn.2[f]?=ς fn) (g:Gh G F H ρ ch) (ho:ch[i]?=ς o) (r:RelS G F ρ ch.length x v) (h:cP c f o x=ς w) :
  ∃C dx fs,ClsAt G.K pn.1 C/\H (ρ i)=ς (.ins C dx fs)/\Cls G.K C/\NoAttr G.K C fn/\fs.length<1000/\Adv G F H ρ ch F (upd H (ρ i) (.ins C dx (bA fn v fs))) ρ (ch.set i w):=by
 cases o with
 |ins c' l=>
  have h:(if c'=c/\x.sol=θ/\l.length<1000 then(if f<l.length then ς (CO.ins c (l.set f x))else if f=l.length then ς (CO.ins c (l++[x]))else ψ)else ψ)=ς w:=h;rcases h
  rename_i hz;have⟨rfl,_,hz⟩:=hz;have⟨p',C',dx,fs,O,h0,ha,h2,h3⟩:=g.ok i _ ho;rw[hp]at O;cases O
  have⟨C,U,hcl,nd,hna⟩:=hc pn hp;have:=U.inj h0;subst this;have hl:fs.length=l.length:=by have:=RelSs.length h3;simpa using this
  have nd':(fs.map (·.1)).Nodup:=by rw[h2];exact nd.sublist (qp0 _ _)
  refine⟨C,dx,fs,U,ha,hcl,hna _ (qa5 W),Θ,?_⟩;split at h
  .rename_i hf;cases h;have hx:(fs.map (·.1))[f]?=ς fn:=by rw[h2,qq8 hf];exact W
   have⟨i1,Z⟩:=oI (v:=v) nd' hx;exact .put g ho trivial ⟨pn,C,dx,_,hp,U,af,by rw[i1,h2];simp,by rw[Z];exact Paired.set r f h3⟩
  .split at h<;>cases h
   rename_i hf
   have hx:fn∉fs.map (·.1):=by
    rw[h2];intro z;have⟨j,hj,e⟩:=List.mem_iff_getElem.mp z;rw[List.getElem_take]at e;have hj':j<l.length:=by rw[ql2]at hj;lia
    have e1:pn.2[j]?=ς fn:=by rw[<- e];simp
    have:=gH nd e1 W;lia
   have⟨i1,Z⟩:=lK (v:=v) hx;refine .put g ho trivial ⟨pn,C,dx,_,hp,U,af,?_,by rw[Z];exact Paired.app h3 (.cons r .nil)⟩;rw[i1,h2,qc5,qb6,qg6,List.take_add_one,<- hf,W];rfl
 |_=>cases h
def sFl(c f:Nat)(fa fe:Fg):Fs:=λδ ch=>(fe δ ch).bind λp=>(fa δ p.2).bind λq=>match q.1 with
 |.ref i=>((q.2[i]?).bind λo=>cP c f o p.1).map λo'=>.nx δ (q.2.set i o')
 |_=>ψ
omit x in
def nn{c f:Nat}{o w:CO}{x:CV}(h:cP c f o x=ς w):x.sol=θ:=by
 unfold cP at h;split at h
 .rcases h
  rename_i O;exact O.2.1
 .cases h
theorem Bo{c f:Nat}{pn:Str×η Str}{fn:Str}(hK:X.K=G.K)(hc:jn G c)(hp:G.ct[c]?=ς pn)(hn:pn.2[f]?=ς fn)(h:GE G X o fa)(he:GE G X e fe)(hs:qi9 e (ς (.Attribute o fn pos')) pos.line X.env=pure ξ):GS1 G X (.Assign [.Attribute o fn pos'] e pos) (sFl c f fa fe):=
 PSBq.mono (Ag h he hs) λD σ H W=>by
  have⟨Φ,δ,ch,F,ρ,og,en,hg,kk⟩:=W;have⟨p,h1,U⟩:=bS hg;have⟨⟨c2,ch2⟩,h2,O⟩:=bS U;cases c2 with
  |ref i=>have⟨w,h5,e5⟩:=mS O;cases e5;have⟨o,ho,Z⟩:=bS h5;refine⟨Φ,δ,ch,F,ρ,_,_,en,h1,λv F1 H1 ρ1 a1 r1=>⟨Φ,δ,_,F1,ρ1,_,_,en.adv a1,h2,λx F2 H2 ρ2 a2 r2=>?_⟩⟩;have⟨hi,rfl⟩:=r2.1;have⟨C,dx,fs,_,q1,q2,q3,q4,a3⟩:=oJ hc hp hn a2.gh ho ((r1.1.adv a2).s (nn Z)) Z;rw[hK];exact⟨_,C,dx,fs,rfl,q1,q2,q3,q4,kk σ F2 _ ρ2 (((en.adv a1).adv a2).adv a3)⟩
  |_=>cases O
def sFa(c f:Nat)(op:Int->Int->Int)(fa fe:Fg):Fs:=λδ ch=>(fa δ ch).bind λp=>match p.1 with
 |.ref i=>match p.2[i]? with
  |some (.ins O l)=>if O=c then(l[f]?).bind λx=>(bY x).bind λn=>(fe δ p.2).bind λq=>(bY q.1).bind λm=>((q.2[i]?).bind λo=>cP c f o (.g (.int (op n m)))).map λo'=>.nx δ (q.2.set i o')else ψ
  |_=>ψ
 |_=>ψ
omit x in
theorem qr{c f:Nat}{pn:Str×η Str}{fn:Str}{op:Int->Int->Int}{tpos:Pos}(hK:X.K=G.K)(hc:jn G c)(hp:G.ct[c]?=ς pn)(hn:pn.2[f]?=ς fn)(ho:InOp X aop (ipI op))(h:GE G X o fa)(he:GE G X e fe):GS1 G X (.AugAssign (.Attribute o fn tpos) aop e pos) (sFa c f op fa fe):=
 PSBq.mono (pV h he ho) λD σ H W=>by
  have⟨Φ,δ,ch,F,ρ,og,en,hg,kk⟩:=W;have⟨⟨c1,ch1⟩,h1,hg1⟩:=bS hg;clear hg;cases c1 with
  |ref i=>
   dsimp only at hg1;rcases hg1
   rename_i c' l ho1;rcases hg1
   rename_i hcc;subst hcc;have⟨x,h2,hg2⟩:=bS hg1;have⟨n,h3,hg3⟩:=bS hg2;have⟨q,h4,hg4⟩:=bS hg3;have⟨m,h5,Z⟩:=bS hg4;have⟨w,h6,e6⟩:=mS Z;cases e6;have⟨o2,ho2,h7⟩:=bS h6;refine⟨Φ,δ,ch,F,ρ,_,_,en,h1,λv F1 H1 ρ1 a1 r1=>?_⟩;have⟨hi,rfl⟩:=r1.1;have⟨p',C',dx,fs,O,h0,ha,z2,z3⟩:=a1.gh.ok i _ ho1;rw[hp]at O;cases O
   have⟨C,hC,hcl,nd,hna⟩:=hc pn hp;have:=hC.inj h0;subst this;have⟨u,hu,ru⟩:=Paired.get z3 h2;have hu2:=cz h3 ru.toC (H:=H1);subst hu2;rw[hK];refine⟨_,C,dx,fs,_,rfl,ha,hcl,hna _ (qa5 hn),dR (by rw[z2];exact nd.sublist (qp0 _ _)) (lz z2 h2 hn) hu,Φ,δ,_,F1,ρ1,_,_,en.adv a1,h4,λy F2 H2 ρ2 a2 r2=>?_⟩;have hy:=cz h5 r2.1;subst hy;refine⟨n,m,rfl,rfl,?_⟩;have hz:ρ2 i=ρ1 i:=a2.ext i hi;have⟨C2,dx2,U,q0,q1,q2,q3,q4,a3⟩:=oJ hc hp hn a2.gh ho2 (show RelS G F2 ρ2 _ (.g (.int (op n m))) (.int (op n m))from ba (K:=G.K) (F:=F2)) h7;have:=hC.inj q0;subst this;rw[hz]at q1 a3;exact⟨dx2,U,q1,q4,kk σ F2 _ ρ2 (((en.adv a1).adv a2).adv a3)⟩
  |_=>cases hg1
def sAu(i:Nat)(op:Int->Int->Int)(fe:Fg):Fs:=λδ ch=>((δ[i]?).join.bind bY).bind λn=>(fe δ ch).bind λq=>(bY q.1).map λm=>.nx (δ.set i (ς (.g (.int (op n m))))) q.2
theorem Bp{x:Str}{op:Int->Int->Int}(h:b6 sc N i x=θ)(hl:iO sc x=θ)(Z:N.Nodup)(ho:PIp X aop (ipI op))(he:GE G X e fe)(e1:aY X sc)(e2:X.N=N)(hf:X.fn x=θ\/X.env.scope.names.lookup x=ς .local):GS1 G X (.AugAssign (.Name x pos') aop e pos) (sAu i op fe):=by
 subst e2;refine PSBq.mono (zQ Z (fC h) (by rw[e1];exact jY hl) he ho hf) λD σ H ⟨Φ,δ,ch,F,ρ,og,en,hg,kk⟩=>?_
 have⟨n,h1,O⟩:=bS hg;have⟨q,h2,U⟩:=bS O;have⟨m,W,e3⟩:=mS U;cases e3;have⟨c,h4,h5⟩:=bS h1
 have h6:δ[i]?=ς (ς c):=by
  cases q:δ[i]? with
  |none=>rw[q]at h4;cases h4
  |some u=>rw[q]at h4;rwa[qp9]at h4;rw[h4]
 have⟨v,q1,q2⟩:=en.has i c h6;have:=cz h5 q2;subst this;refine⟨_,q1,Φ,δ,ch,F,ρ,_,_,en,h2,λy F2 H2 ρ2 a2 r2=>?_⟩;have hy:=cz W r2.1;subst hy;exact⟨n,m,rfl,rfl,kk _ F2 H2 ρ2 ((en.adv a2).dat ba i)⟩
def sUn(pt:Pt)(fe:Fg):Fs:=λδ ch=>(fe δ ch).bind λp=>match p.1 with
 |.g d=>(bnd pt d δ).map λδ'=>.nx δ' p.2
 |_=>ψ
theorem Bq{pt:Pt}(he:GE G X e fe)(hg:GP G X tg pt)(hs:qu0 [tg] e pos.line X.env=pure ξ)(hw:ze0 [tg] e X.env=pure ψ)(h1:(qi3 [tg] X.env).map (·.2)=[qz4 tg X.env]):GS1 G X (.Assign [tg] e pos) (sUn pt fe):=PSBq.mono (rj he hg hs hw h1) λD σ H U=>by
 have⟨Φ,δ,ch,F,ρ,og,en,W,kk⟩:=U;have⟨⟨c,ch1⟩,h1,O⟩:=bS W;cases c with
 |g d=>have⟨δ',h2,e2⟩:=mS O;cases e2;exact⟨Φ,δ,ch,F,ρ,_,_,en,h1,λv F1 H1 ρ1 a1 r1=>⟨Φ,δ,_,F1,ρ1,d,δ',en.adv a1,r1.1,h2,λZ en' _=>kk Z F1 H1 ρ1 en'⟩⟩
 |_=>cases O
structure AsM(X:Cx)(o:J8)(m:Str)(apos:Pos)(es:List J8)(cpos:Pos):Prop where
 base:qi8 o m X.env (eval o X.env)=eval o X.env
 few:((qh6 cpos (qb1 es X.env)).all (λx=>!x.1)&&(qo9 cpos (qi4 [] X.env)).all (λx=>x.1.isSome)
     && decide (es.length+([]:List qw8).length+(if([]:List qw8).isEmpty then 0 else 1)<30))=θ
 line:(apos.endLine==cpos.line)=θ
 star:∀e r,es=e::r->qb1 (e::r) X.env=(ξ,eval e X.env)::qb1 r X.env/\(qh6 cpos (qb1 r X.env)).any (·.1)=ξ
noncomputable def cK(ch:CH)(i:Nat):ζ (η CV):=match ch[i]? with
 |some (.e l)=>ς l
 |_=>ψ
def cc{l:η CV}(h:cK ch i=ς l):ch[i]?=ς (.e l):=by
 unfold cK at h;split at h<;>cases h
 assumption
def sAp(fa fe:Fg):Fs:=λδ ch=>(fa δ ch).bind λp=>(fe δ p.2).bind λq=>match p.1 with
 |.ref i=>(cK p.2 i).bind λ_=>(cK q.2 i).bind λl=>if l.length<qa4/\q.1.sol=θ then ς (.nx δ (q.2.set i (.e (l++[q.1]))))else ψ
 |_=>ψ
omit x in
theorem qt(hx:GE G X o fa)(he:GE G X e fe)(A:AsM X o "append" apos [e] cpos)(hsw:qi9 (.Call (.Attribute o "append" apos) [e] [] cpos) ψ pos.line X.env=pure ξ):GS1 G X (.Expr (.Call (.Attribute o "append" apos) [e] [] cpos) pos) (sAp fa fe):=
 PSBq.mono (dq (ll PySem.F.plainAttrs_list PySem.F.slot_list_append PySem.F.type_list_append fq hx (bw he cq (A.star _ _ rfl).1) A.base A.few A.line (A.star _ _ rfl).1 (A.star _ _ rfl).2) hsw) λD σ H W=>by
  have⟨Φ,δ,ch,F,ρ,og,en,hg,k⟩:=W;have⟨⟨c1,ch1⟩,h1,hg1⟩:=bS hg;have⟨q,h2,U⟩:=bS hg1;cases c1 with
  |ref i=>
   have⟨l0,h3,hg3⟩:=bS U;have⟨l,h4,O⟩:=bS hg3;split at O<;>cases O
   rename_i hz;refine⟨Φ,δ,ch,F,ρ,_,_,en,h1,λv F1 H1 ρ1 a1 r1=>?_⟩;have⟨vs0,q0,_⟩:=a1.gh.ok i _ (cc h3);have⟨hi,rfl⟩:=r1.1;refine⟨.inl ⟨rfl,vs0,.inl (.inl q0)⟩,Φ,δ,_,F1,ρ1,_,_,en.adv a1,h2,λw F2 H2 ρ2 a2 r2=>?_⟩;have⟨vs,q1,q2⟩:=a2.gh.ok i _ (cc h4);have Z:ρ2 i=ρ1 i:=a2.ext i hi;have a3:Adv G F2 H2 ρ2 q.2 F2 _ ρ2 _:=.put (o:=.e (l++[q.1])) (u:=.e (vs++[w])) a2.gh (cc h4) trivial ⟨_,af,Paired.app q2 (.cons (r2.1.s hz.2) .nil)⟩;rw[Z]at q1 a3;exact⟨_,vs,w,rfl,rfl,q1,by rw[RelSs.length q2];exact hz.1,k σ F2 _ ρ2 (((en.adv a1).adv a2).adv a3)⟩
  |_=>cases U
noncomputable def sAs(i:Nat)(fe:Fg):Fs:=λδ ch=>(fe δ ch).bind λq=>match q.1,c9 δ i with
 |.g d,ς (.e l)=>if l.length<qa4 then ς (.nx (δ.set i (ς (.own θ (.e (l++[d]))))) q.2)else ψ
 |_,_=>ψ
omit x in
theorem np(hx:PE X o (qU i))(he:GE G X e fe)(A:AsM X o "append" apos [e] cpos)(hsw:qi9 (.Call (.Attribute o "append" apos) [e] [] cpos) ψ pos.line X.env=pure ξ):GS1 G X (.Expr (.Call (.Attribute o "append" apos) [e] [] cpos) pos) (sAs i fe):=
 PSBq.mono (dq (ll PySem.F.plainAttrs_list PySem.F.slot_list_append PySem.F.type_list_append fq hx (bw he cq (A.star _ _ rfl).1) A.base A.few A.line (A.star _ _ rfl).1 (A.star _ _ rfl).2) hsw) λD σ H Z=>by
  have⟨Φ,δ,ch,F,ρ,og,en,hg,k⟩:=Z;have⟨⟨c1,ch1⟩,h1,hg1⟩:=bS hg;clear hg;cases c1 with
  |g d=>
   dsimp only at hg1;rcases hg1
   rename_i d' l ed ht;cases ed;split at hg1<;>cases hg1
   rename_i hz;have U:=tT ht;have⟨w,q1,q2⟩:=en.has i _ U;have⟨a,rfl,_,⟨_,W,e0,rfl,z1,z2⟩,_⟩:=id q2;refine⟨_,q1,.inl ⟨rfl,W,SqL.of z1⟩,Φ,δ,ch,F,ρ,_,_,en,h1,λv F1 H1 ρ1 a1 r1=>?_⟩;have O:=en.adv a1;have⟨w,q3,q4⟩:=O.has i _ U;rw[q1]at q3;cases q3
   have⟨a',e',_,⟨_,vs,e1,rfl,y1,y2⟩,_⟩:=id q4;cases e';refine⟨_,vs,v,rfl,rfl,y1,by rw[y2.length];exact hz,k σ F1 _ ρ1 (O.poke U q1 rfl ⟨_,_,rfl,rfl,af,y2.append (Reps.one r1.1)⟩)⟩
  |_=>cases hg1
end
def EntB(h:Heap)(d:J4)(kv:η (Value×Value))(ep:Nat):Prop:=∃o es,h.get? d=ς o/\o.ExactDict/\o.data=.dict es ep/\es.toList.map (λe=>(e.key,e.val))=kv
variable{kv:η (Value×Value)}{ep:Nat}
theorem EntB.upTo{h:Heap}{d:J4}(q:EntB h d kv ep)(k:∀o,h.get? d=ς o->h'.get? d=ς o):EntB h' d kv ep:=let ⟨o,es,h1,r⟩:=q;⟨o,es,k o h1,r⟩
def EntB.ty{s:qa8}{d:J4}(q:EntB s.heap d kv ep):s.TypeIs (.ref d) "dict":=let ⟨o,_,h1,h2,_⟩:=q;⟨o,h1,h2.1⟩
def EntB.lt{h:Heap}{d:J4}(q:EntB h d kv ep):d<h.objs.size:=let ⟨_,_,h1,_⟩:=q;qb3 h1
abbrev iT(h:Heap)(it d:J4)(i n ep:Nat)(x0:Value)(f:Bool)(ok ov:Value):Prop:=h.get? it=ς {cls:=.type "dict_itemiterator",dict:=ψ,data:=.fields #[x0,.bool f,.ref d,.int i 0,.int n 0,.int ep 0,ok,ov],slots:=#[]}
def ItmS(h:Heap)(it d:J4)(i n ep:Nat):Prop:=∃O f ok U,iT h it d i n ep O f ok U/\((O=.none/\f=ξ)\/∃a:J4,O=qv5 a/\a≠it/\∃oa,h.get? a=ς oa)
section
variable{prog:qe7}{w:J5}{A:ql5}{E:Value->qa8->Prop}{s:qa8}{v d it:J4}{kv:η (Value×Value)}{i ep:Nat}
theorem qu(lo:(d==qk3)=ξ)(q:EntB s.heap d kv ep)(k:Q (.ref s.heap.objs.size) {s with heap:=s.heap.push {cls:=.type "dict_items",data:=.fields #[.ref d]}}):wpAny (model prog w) A (call (.builtin "dict.items") [.ref d]) Q E s:=by refine qj6 F.slot_dict_items q.ty F.entry_dict_items ?_ (F.args_dict_items_1 _);unfold qj4.«dict.items»;refine wB ?_;unfold qj4.Dict.noArgs;refine wB (qs8 q.ty ?_);show wpAny _ _ (pure d) _ _ s;refine qa7 ?_;show wpAny _ _ (zc2 d >>= _) _ _ s;unfold zc2;rw[if_neg (by rw[lo];exact qb5)];refine wB (qa7 ?_);exact wB (qf4 (qa7 ⟨_,rfl,k⟩))
def qv(W:s.heap.IsItemsView v d)(q:EntB s.heap d kv ep)
 (k:∀h',ItmS h' s.heap.objs.size d 0 kv.length ep->(∀b o,s.heap.get? b=ς o->h'.get? b=ς o)->s.heap.objs.size<h'.objs.size->Q (.ref s.heap.objs.size) {s with heap:=h'}):wpAny (model prog w) A (pyIter (.ref v)) Q E s:=by
 have⟨ov,U,hcv,O⟩:=id W;have⟨o,es,Z,e2,e3,e4⟩:=id q;refine wpAny_pyIter_slot W.typeIs za2 (qj6 za2 W.typeIs F.entry_dict_items_iter ?_ (F.args_dict_items_iter_1 _));unfold qj4.«dict_items.__iter__»;refine wB (qa7 (wB ?_));unfold qj4.Dict_items.dictOf;refine wB (qj5 U O (x:=.ref d) rfl (qa7 (wB ?_)));unfold qj4.Dict_items.newIterator;refine wB (qs6 Z e3 (wB (zc3 Z e3 ?_)));have ez:es.size=kv.length:=by rw[<- e4];simp
 have ow:qo0 "dict_itemiterator"=θ:=by decide
 rwa[ow,if_true]
 refine qf4 (qa7 ⟨_,rfl,"dict_itemiterator",_,⟨_,qb8 _ rfl,rfl⟩,qg9.lookup,?_⟩)
  (by rwa[sizeOk,qq4,qb4,qc5,qb6,qg6,qb7];lia)
 refine k _ ⟨.none,ξ,.none,.none,?_,.inl ⟨rfl,rfl⟩⟩ (λb o e=>gP _ e) (by rw[qn6];exact qp8 _);show(s.heap.push _).get? s.heap.objs.size=_;rw[qb8 _ rfl];simp[qv5,ez,qq4]
theorem qw {U val:Value} {Q:ζ Value->qa8->Prop} (st:ItmS s.heap it d i kv.length ep) (q:EntB s.heap d kv ep) (hx:kv[i]?=ς (U,val))
  (k:∀h',ItmS h' it d (i+1) kv.length ep->h'.get? s.heap.objs.size=ς {cls:=.type "tuple",data:=.seq #[U,val]}->h'.objs.size=s.heap.objs.size+1→
   (∀b o,b≠it->s.heap.get? b=ς o->h'.get? b=ς o)->Q (ς (.ref s.heap.objs.size)) {s with heap:=h'}):wpAny (model prog w) A (qz5 (.ref it)) Q E s:=by
 have⟨hp,g,dr,tk,os⟩:=s;have⟨x0,f,ok,ov,hit,ho⟩:=st;have⟨od,es,e1,e2,e3,e4⟩:=id q;have hT:qa8.TypeIs ⟨hp,g,dr,tk,os⟩ (.ref it) "dict_itemiterator":=⟨_,hit,rfl⟩;unfold qz5;refine wB (wpAny_attempt (qj8 (name:=qd0 "__next__") hT qg9 (qj6 qg9 hT qs9 ?_ (qs7 _))));refine wB (qa7 (wB (wB ?_)))
 first|refine wB (qj2 hT (qa7 ?_))|refine wB (qm4 hT (qa7 ?_))
 refine wB (wpAny_fieldsOf hit rfl ?_);have ow:qo0 "dict_itemiterator"=θ:=by decide
 rwa[ow,if_true];show wpAny _ _ (if(qc1 d==qg4)=θ then _ else _) _ _ _;rw[if_neg (show ¬ ((qc1 d==qg4)=θ)from qb5)];refine wB (qa7 (wB (qs6 e1 e3 ?_)));have ez:es.size=kv.length:=by rw[<- e4];simp
 rw[if_neg (by rw[ez];simp)];refine wB (qa7 (wB (zc3 e1 e3 ?_)));rw[if_neg Ξ];refine qa7 ?_;have li:i<es.size:=by rw[ez];exact(gX hx).1
 have hkv:es[i].key=U/\es[i].val=val:=by rw[<- e4,qa6,zb7,qx5 li]at hx;have:=qc9 hx;exact⟨congrArg Prod.fst this,congrArg Prod.snd this⟩
 rwa[show ¬ ((i:Int)<0)from by lia,if_false,qi6,qx5 li];refine wB ?_
 first|refine wB (qj2 hT (qa7 ?_))|refine wB (qm4 hT (qa7 ?_))
 refine wB (qs2 hT ?_);show wpAny _ _ (setField (.ref it) 3 (qv5 ((i:Int)+1)) >>= _) _ _ ⟨hp,g,dr,tk,os⟩;refine qk2 (ql9 hit Ξ λh1 he1 hs1=>?_)
 replace hs1:qg2 it hp h1:=hs1
 replace he1:iT h1 it d (i+1) kv.length ep x0 f ok ov:=by
  have e:((i+1:Nat):Int)=(i:Int)+1:=by lia
  unfold iT;rw[e];simpa[qv5] using he1
 have hT1:qa8.TypeIs ⟨h1,g,dr,tk,os⟩ (.ref it) "dict_itemiterator":=⟨_,he1,rfl⟩;refine wB (qn0 (wB (qs2 hT1 (wB (qs2 hT1 ?_)))));show wpAny _ _ (qs0 (.ref it) 6 es[i].key es[i].val) _ _ ⟨h1,g,dr,tk,os⟩;rw[hkv.1,hkv.2];unfold qs0;refine wB (wpAny_newTuple ?_);have Z:iT (h1.push {cls:=.type "tuple",data:=.seq #[U,val]}) it d (i+1) kv.length ep x0 f ok ov:=gP _ he1;generalize hh2:h1.push {cls:=.type "tuple",data:=.seq #[U,val]}=h2 at Z;have hz1:h1.objs.size=hp.objs.size:=hs1.1;have hil:it<hp.objs.size:=qb3 hit;have ht2:h2.get? hp.objs.size=ς {cls:=.type "tuple",data:=.seq #[U,val]}:=by rw[<- hh2,<- hz1];exact qb8 _ rfl
 have hz2:h2.objs.size=hp.objs.size+1:=by rw[<- hh2,qn6,hz1]
 have hk2:∀b o,b≠it->hp.get? b=ς o->h2.get? b=ς o:=λb o hb e=>by rw[<- hh2];exact gP _ (hs1.extBut b o hb e)
 show wpAny _ _ (qq5 (.ref it) >>= _) _ _ ⟨h2,g,dr,tk,os⟩;rw[hz1];clear hh2 he1 hs1 hT1 hz1 h1
 have fin:∀(h3:Heap)(y0:Value)(f':Bool)(ok' ov':Value),iT h3 it d (i+1) kv.length ep y0 f' ok' ov'->(∃a:J4,y0=qv5 a/\a≠it/\∃oa,h2.get? a=ς oa)->qg2 it h2 h3->Q (ς (.ref hp.objs.size)) ⟨h3,g,dr,tk,os⟩:=λh3 y0 f' ok' ov' he3 ha O=>by have⟨a,rfl,hai,oa,hoa⟩:=ha;exact k h3 ⟨_,f',ok',ov',he3,.inr ⟨a,rfl,hai,oa,O.extBut a oa hai hoa⟩⟩ (O.extBut _ _ (qj0 hil) ht2) (by show h3.objs.size=hp.objs.size+1;rw[O.1,hz2]) λb o hb e=>O.extBut b o hb (hk2 b o hb e)
 refine wB ?_;unfold qq5;rcases ho with ⟨rfl,rfl⟩|⟨a,rfl,hai,oa,hoa⟩
 .refine wB (qj5 Z rfl (x:=.none) rfl (qa7 ?_));rwa[if_true];refine wB (qj5 Z rfl (x:=ok) rfl (wB (qj5 Z rfl (x:=ov) rfl ?_)));refine qk2 (ql9 Z Ξ λh3 he3 O=>?_)
  replace O:qg2 it h2 h3:=O
  replace he3:iT h3 it d (i+1) kv.length ep .none ξ U ov:=he3
  refine qk2 (ql9 he3 Ξ λh4 he4 hs4=>?_)
  replace hs4:qg2 it h3 h4:=hs4
  replace he4:iT h4 it d (i+1) kv.length ep .none ξ U val:=he4
  refine qk2 (ql9 he4 Ξ λh5 he5 hs5=>?_)
  replace hs5:qg2 it h4 h5:=hs5
  replace he5:iT h5 it d (i+1) kv.length ep (qv5 hp.objs.size) ξ U val:=he5
  refine qk2 (ql9 he5 Ξ λh6 he6 hs6=>?_)
  replace hs6:qg2 it h5 h6:=hs6
  replace he6:iT h6 it d (i+1) kv.length ep (qv5 hp.objs.size) ξ U val:=he6
  exact wB (wpAny_letGo (qa7 (qa7 ⟨_,rfl,qa7 (fin h6 _ _ _ _ he6 ⟨hp.objs.size,rfl,qj0 hil,_,ht2⟩ (O.trans (hs4.trans (hs5.trans hs6))))⟩)))
 .have ha2:h2.get? a=ς oa:=hk2 a oa hai hoa;refine wB (qj5 Z rfl (x:=qv5 a) rfl ?_);show wpAny _ _ (loadIfAlive ((a:Int).toNat) >>= _) _ _ _;rw[qi6];refine wB (PySem.W.kdx_alive ha2 ?_);rwa[Option.isNone_some,qg3,if_false];refine wB (qj5 Z rfl (x:=.bool f) rfl ?_);cases f with
  |true=>rw[if_neg (show ¬ ((qs3 θ != qs3 θ)=θ)from qb5)];refine qa7 ?_;rwa[qg3,if_false];exact qa7 (qa7 ⟨_,rfl,qa7 (fin h2 _ _ _ _ Z ⟨a,rfl,hai,oa,ha2⟩ (qg2.refl _ _))⟩)
  |false=>
   rw[if_pos (show(qs3 ξ != qs3 θ)=θ from rfl)];refine qk2 (ql9 Z Ξ λh3 he3 O=>?_)
   replace O:qg2 it h2 h3:=O
   replace he3:iT h3 it d (i+1) kv.length ep (qv5 a) θ ok ov:=he3
   refine qa7 ?_;rwa[qg3,if_false];exact qa7 (qa7 ⟨_,rfl,qa7 (fin h3 _ _ _ _ he3 ⟨a,rfl,hai,oa,ha2⟩ O)⟩)
theorem tU {Q:ζ Value->qa8->Prop} (nh:A.handled=ψ) (st:ItmS s.heap it d i kv.length ep) (q:EntB s.heap d kv ep) (hi:i=kv.length)
  (k:∀h',Heap.ExtBut it s.heap h'->Q ψ {s with heap:=h'}):wpAny (model prog w) A (qz5 (.ref it)) Q E s:=by
 have⟨x0,f,ok,ov,O,ho⟩:=st;have⟨od,es,W,e2,Z,e4⟩:=id q;have U:s.TypeIs (.ref it) "dict_itemiterator":=⟨_,O,rfl⟩;unfold qz5;refine wB (wpAny_attempt (qj8 (name:=qd0 "__next__") U qg9 (qj6 qg9 U qs9 ?_ (qs7 _))));refine wB (qa7 (wB (wB ?_)))
 first|refine wB (qj2 U (qa7 ?_))|refine wB (qm4 U (qa7 ?_))
 refine wB (wpAny_fieldsOf O rfl ?_);have ow:qo0 "dict_itemiterator"=θ:=by decide
 rwa[ow,if_true];show wpAny _ _ (if(qc1 d==qg4)=θ then _ else _) _ _ s;rw[if_neg (show ¬ ((qc1 d==qg4)=θ)from qb5)];refine wB (qa7 (wB (qs6 W Z ?_)));have ez:es.size=kv.length:=by rw[<- e4];simp
 rw[if_neg (by rw[ez];simp)];refine wB (qa7 (wB (zc3 W Z ?_)));rw[if_neg Ξ];refine qa7 ?_;have ge:es.size<=i:=by rw[ez];lia
 rwa[show ¬ ((i:Int)<0)from by lia,if_false,qi6,Array.getElem?_eq_none ge];refine wB ?_
 first|refine wB (qj2 U (qa7 ?_))|refine wB (qm4 U (qa7 ?_))
 show wpAny _ _ (setField (.ref it) 2 .none >>= _) _ _ s;refine qk2 (zd3 O rfl Ξ ?_);show wpAny _ _ (newExc (.type "StopIteration") [] >>= _) _ _ _;refine wB ?_;rwa[newExc,newTuple];refine wB (qf4 ?_ (by size_fits));refine qk2 (m:=qx4 _ _) (wpAny_of_eq (a:=qg4) (by first|rfl|(rwa[qx4];rfl)) (qf4 ?_ (by size_fits)));rwa[raiseNew];refine wB (wpAny_handled ?_);rw[show A.in1.handled=ψ from nh];refine wB (qa7 (wpAny_throw ?_));refine wB (wpAny_isInstance (b:=true) (T:="StopIteration") ⟨_,qb8 _ rfl,rfl⟩ isSubtype_stop ?_);exact qa7 (k _ (((qq3 ..).extBut.push _).push _))
end
abbrev Orc:=J4->Hp->η Dt->ζ T
theorem oK:∀a b:η Nat,ltCps a b=ξ->ltCps b a=ξ->a=b
 |[],[],_,_=>rfl
 |[],_::_,h,_=>by simp[ltCps]at h
 |_::_,[],_,h=>by simp[ltCps]at h
 |x::r,y::t,h,h'=>by
  rwa[ltCps,qt9,decide_eq_false_iff_not,qt0,beq_iff_eq]at h h';have e:x=y:=by lia
  subst e;rw[oK r t (h.2 rfl) (h'.2 rfl)]
theorem oM:∀a b:η Nat,ltCps a b=θ->ltCps b a=ξ
 |[],[],h=>by simp[ltCps]at h
 |[],_::_,_=>rfl
 |_::_,[],h=>by simp[ltCps]at h
 |x::r,y::t,h=>by
  rwa[ltCps,qf2,decide_eq_true_eq,qa1,beq_iff_eq]at h;rwa[ltCps,qt9,decide_eq_false_iff_not,qt0,beq_iff_eq];rcases h with h|⟨rfl,h⟩
  .exact⟨Θ,λe=>Θ⟩
  .exact⟨Θ,λ_=>oM r t h⟩
theorem jr:∀a b c:η Nat,ltCps b a=ξ->ltCps c b=ξ->ltCps c a=ξ
 |[],b,c,h1,h2=>by
  cases b with
  |nil=>exact h2
  |cons y t=>
   cases c with
   |nil=>simp[ltCps]at h2
   |cons z u=>rfl
 |x::r,[],c,h1,h2=>by simp[ltCps]at h1
 |x::r,y::t,[],h1,h2=>by simp[ltCps]at h2
 |x::r,y::t,z::u,h1,h2=>by
  rwa[ltCps,qt9,decide_eq_false_iff_not,qt0,beq_iff_eq]at h1 h2 ⊢;refine⟨Θ,λe=>?_⟩;subst e;have e:y=z:=by lia
  subst e;exact jr r t u (h1.2 rfl) (h2.2 rfl)
noncomputable def leS(a b:Str):Bool:=!ltCps b.cps.toList a.cps.toList
def leS_iff{a b:Str}:leS a b=θ↔ltCps b.cps.toList a.cps.toList=ξ:=by simp[leS]
def jt(a b c:Str)(h:leS a b=θ)(h':leS b c=θ):leS a c=θ:=leS_iff.mpr (jr _ _ _ (leS_iff.mp h) (leS_iff.mp h'))
def qx(a b:Str):(leS a b||leS b a)=θ:=by
 cases h:leS a b with
 |true=>rfl
 |false=>
  have h1:ltCps b.cps.toList a.cps.toList=θ:=by simpa[leS] using h
  simp[leS_iff.mpr (oM _ _ h1)]
def tV{a b:Str}(h:leS a b=θ)(h':leS b a=θ):a=b:=by
 have e:=oK _ _ (leS_iff.mp h') (leS_iff.mp h);cases a with
 |mk a=>cases b with
  |mk b=>simp only at e;rw[Array.toList_inj.mp e]
noncomputable def dM(ss:η Str):η Str:=ss.mergeSort leS
def cA(ss:η Str):(dM ss).Perm ss:=List.mergeSort_perm ss leS
def tW(ss:η Str):(dM ss).Pairwise λa b=>leS a b=θ:=List.pairwise_mergeSort jt qx ss
theorem ju:∀(p:Str)(l:η Str),risingS p l=θ->(p::l).Pairwise λa b=>leS a b=θ
 |p,[],_=>by simp
 |p,x::r,h=>by
  rwa[risingS,qa1]at h;have U:=ju x r h.2;have h1:leS p x=θ:=h.1;refine qm0.mpr ⟨λy O=>?_,U⟩;rcases qc4.mp O with rfl|O
  .exact h1
  .exact jt _ _ _ h1 ((qm0.mp U).1 y O)
def qy:∀l:η Str,sortedS l=θ->l.Pairwise λa b=>leS a b=θ
 |[],_=>qx8
 |x::r,h=>ju x r h
theorem jv:∀{a b:η Str},a.Perm b->(a.Pairwise λa b=>leS a b=θ)->(b.Pairwise λa b=>leS a b=θ)->a=b
 |[],_,p,_,_=>p.nil_eq
 |x::r,b,p,O,hb=>by
  cases b with
  |nil=>exact absurd p.length_eq Ξ
  |cons y t=>
   have U:x∈y::t:=p.mem_iff.mp (.head _);have W:y∈x::r:=p.mem_iff.mpr (.head _)
   have e:x=y:=by
    rcases qc4.mp U with h|h
    .exact h
    .rcases qc4.mp W with h'|h'
     .exact h'.symm
     .exact tV ((qm0.mp O).1 y h') ((qm0.mp hb).1 x h)
   subst e;rw[jv (List.Perm.cons_inv p) (qm0.mp O).2 (qm0.mp hb).2]
theorem ij:∀{ss:η Str}{J3:η Value},Vals (ss.map V.str) J3->StrsAre J3 ss
 |[],_,h=>by cases h;exact .nil
 |x::ss,_,h=>by
  cases h with
  |cons h1 h2=>have⟨t,rfl⟩:=h1;exact .cons x t (ij h2)
theorem jw:∀{J3:η Value}{ss:η Str},StrsAre J3 ss->Vals (ss.map V.str) J3
 |_,_,.nil=>.nil
 |_,_,.cons x t h=>.cons ⟨t,rfl⟩ (jw h)
section
variable{X:Cx}
theorem ki:CallR X (.builtin "sorted") (λxs H Q=>∃p ss,xs=[.ref p]/\SqL X.K H p (ss.map V.str)/\ss.length<64/\∀l,H l=ψ->Q (.ref l) (upd H l (.e ((dM ss).map V.str)))):=by
 intro J0 s σ H xs us Q I r h;have⟨p,ss,rfl,hq,hz,q⟩:=h;have⟨u,rfl,rx⟩:=cQ r;cases rx;have⟨J3,W,pl,hz'⟩:=I.list hq;have hS:=ij W;have Z:J3.length=ss.length:=by have:=W.length;simpa using this.symm
 refine sorted_strs pl.isList hS Θ λU O a1 a2 a3=>?_
 have e:O=dM ss:=jv (a2.trans (cA ss).symm) (qy O a3) (tW ss);subst e;have⟨c,hc⟩:=sortedAll_at s.heap J3 U;refine⟨.ref (s.heap.objs.size+1),_,I.laid (t':=s.toks) (λ_ _=>sortedAll_old) (qi5 _) (show ObjOk X.prog X.w _ _ _ (.e ((dM ss).map V.str))from⟨?_,U.toList,c,jw a1,hc⟩),rfl,q _ (I.hok.fresh (qi5 _))⟩;rw[qa3,(cA ss).length_eq];exact qd2 (qq7 hz) Ω
def gw:η Dt->ζ T
 |[.e ds]=>(cZ ds).bind λss=>if ss.length<64 then ς (.e ((dM ss).map .str))else ψ
 |_=>ψ
theorem jx{F:Hp}:∀ss:η Str,Reps K F (ss.map .str) (ss.map V.str)
 |[]=>by rwa[qe3,Reps]
 |x::ss=>by rwa[qa2,Reps];exact⟨_,_,rfl,by rwa[Rep],jx ss⟩
omit x in
theorem tX:CRD K (λxs H Q=>∃p ss,xs=[.ref p]/\SqL K H p (ss.map V.str)/\ss.length<64/\∀l,H l=ψ->Q (.ref l) (upd H l (.e ((dM ss).map V.str)))) gw:=by
 intro F H ds vs Q t Z r O k;unfold gw at O;rcases O
 have⟨ss,U,O⟩:=qk0.mp O;split at O<;>cases O
 rename_i W;have⟨v,rfl,rv⟩:=bu r;have⟨a,vs,rfl,h1,h2⟩:=rv;have:=fG h2 U;subst this;exact⟨a,ss,rfl,h1,W,λp hp=>bZ k Z (jx _) hp⟩
end
noncomputable def once{K:Type}[DecidableEq K](O:η K)(k:K):η K:=if k∈O then O else O++[k]
def met{K:Type}[DecidableEq K](val:Nat->K)(i:Nat):η K:=((qd8 i).map val).foldl once []
noncomputable def nq:η Dt->ζ (η Int)
 |[]=>ς []
 |.int k::r=>(nq r).map (k::·)
 |_=>ψ
theorem oN{F:Hp}:∀{l:η Dt}{vs:η V}{bs:η Int},Reps K F l vs->nq l=ς bs->vs=bs.map V.int
 |[],vs,bs,r,h=>by cases h;rwa[Reps]at r;exact r
 |d::l,vs,bs,r,h=>by
  cases d<;>first|cases h;done|skip
  rwa[nq]at h;have⟨cs,hc,h⟩:=qd4.mp h;cases h;rwa[Reps,Rep]at r;have⟨v,ws,rfl,rfl,O⟩:=r;rw[oN O hc];rfl
noncomputable def nr(ks:η Key):Dt:=.t (ks.map aw)
theorem jy{F:Hp}:∀ks:η Key,Reps K F (ks.map aw) (ks.map kV)
 |[]=>by rwa[qe3,Reps]
 |k::ks=>by rwa[qa2,Reps];exact⟨_,_,rfl,wR k,jy ks⟩
theorem tY{F:Hp}{b:J4}(h:F b=ς (.t (ks.map kV))):Rep K F (nr ks) (.ref b):=by unfold nr;rwa[Rep];exact⟨b,_,rfl,SqT.of h,jy ks⟩
theorem jz{α β:Type}{R:α->β->Prop}:∀{l:η α}{m:η β},Paired R l m->∀{i:Nat}{a:α},l[i]?=ς a->∃b,m[i]?=ς b/\R a b
 |_,_,.nil,i,a,h=>by simp at h
 |_,_,.cons r t,0,a,h=>by simp at h;subst h;exact⟨_,rfl,r⟩
 |_,_,.cons r t,i+1,a,h=>by simpa using jz t ‹h›
theorem cB{α β:Type}{R:α->β->Prop}:∀{l:η α}{m:η β},Paired R l m->l.length=m.length
 |_,_,.nil=>rfl
 |_,_,.cons r t=>by simp[cB t]
section
variable{X:Cx}{tg:J8}
def yW{s:qa8}(I:Inv X J0 σ H s)(h:Rd H a u):ObjOk X.prog X.w H s.heap a u:=by
 rcases h with h|⟨o,h⟩
 .exact I.hok a _ h
 .exact(I.hok a _ h).2
end
def kj:typeLookup (.type "list") "keys"=pure ψ:=by rw[typeLookup_type,zc4];kernel_rfl
def iU:typeLookup (.type "tuple") "keys"=pure ψ:=by rw[typeLookup_type,zc4];kernel_rfl
def bc:plainId "dict.update.loop"=θ:=χ
def db:entryFor table "dict.update.loop"=ς qj4.«dict.update.loop»:=entryFor_of_fast (by kernel_rfl)
noncomputable def tyB(b:Bool):String:=if b then "list" else "tuple"
section
variable{prog:qe7}{w:J5}{A:ql5}{E:Value->qa8->Prop}{s:qa8}{a it:J4}{J3:Array Value}{c:Nat}{sl:Array (ζ Value)}{b:Bool}{i:Nat}
theorem qz {Q:ζ Value->qa8->Prop} (W:s.heap.get? a=ς {cls:=.type (tyB b),dict:=ψ,data:=.seq J3 c,slots:=sl}) (hh:A.handled=ψ)
  (hQ:∀h' tk,(∀b ob,s.heap.get? b=ς ob->h'.get? b=ς ob)->Q ψ {s with heap:=h',toks:=tk}) :
  wpAny (model prog w) A (getAttr? (.ref a) "keys") Q E s:=by
 have⟨h,g,d,t,os⟩:=s;have f1:=sub_AttributeError;cases b with
 |true=>
  replace W:h.get? a=ς {cls:=.type "list",dict:=ψ,data:=.seq J3 c,slots:=sl}:=W
  have Z:∀U,(⟨h,g,d,U,os⟩:qa8).TypeIs (.ref a) "list":=λ_=>⟨_,W,rfl⟩
  have f3:=qr1.lookup;have f4:=qr1.bind (.ref a);have f5:=am_list_getattr_none;unfold getAttr? getAttrBy? getAttrBy
  repeat (any_goals (first|assumption|exact Z _|((with_reducible show wpAny _ _ (call (Value.builtin "list.__getattribute__") _ _) _ _ _);refine qu3 qr1 (Z _) am_entry_list_getattribute (F.args_list_getattribute_2 _ _) (meets_getattribute_miss_list a J3 c sl "keys" _ kj χ) ⟨W,hh,λh' U e O=>?_⟩)|wp_step))
  have⟨t',u',he⟩:=O.there;show wpAny _ _ (qr8 _ _ _ _ _ _ _) _ _ _;unfold qr8
  repeat (any_goals (first|assumption|wp_step))
  exact hQ _ _ O.keeps
 |false=>
  replace W:h.get? a=ς {cls:=.type "tuple",dict:=ψ,data:=.seq J3 c,slots:=sl}:=W
  have Z:∀U,(⟨h,g,d,U,os⟩:qa8).TypeIs (.ref a) "tuple":=λ_=>⟨_,W,rfl⟩
  have f3:=qp5.lookup;have f4:=qp5.bind (.ref a);have f5:=am_tuple_getattr_none;unfold getAttr? getAttrBy? getAttrBy
  repeat (any_goals (first|assumption|exact Z _|((with_reducible show wpAny _ _ (call (Value.builtin "tuple.__getattribute__") _ _) _ _ _);refine qu3 qp5 (Z _) am_entry_tuple_getattribute (F.args_tuple_getattribute_2 _ _) (meets_getattribute_miss_tuple a J3 c sl "keys" _ iU χ) ⟨W,hh,λh' U e O=>?_⟩)|wp_step))
  have⟨t',u',he⟩:=O.there;show wpAny _ _ (qr8 _ _ _ _ _ _ _) _ _ _;unfold qr8
  repeat (any_goals (first|assumption|wp_step))
  exact hQ _ _ O.keeps
theorem qA{l:J4}{Q:ζ Value->qa8->Prop}(U:A.handled=ψ)(O:ItB b s.heap it l i)(hl:CoB b s.heap l J3)(Z:J3[i]?=ψ)(W:∀h',Heap.ExtBut it s.heap h'->Q ψ {s with heap:=h'}):wpAny (model prog w) A (qz5 (.ref it)) Q E s:=by
 cases b with
 |true=>exact zb2 U O hl Z W
 |false=>exact za0 U O hl Z W
theorem Dk{l:J4}{x:Value}{Q:ζ Value->qa8->Prop}(O:ItB b s.heap it l i)(hl:CoB b s.heap l J3)(W:J3[i]?=ς x)(U:∀h',ItB b h' it l (i+1)->qg2 it s.heap h'->Q (ς x) {s with heap:=h'}):wpAny (model prog w) A (qz5 (.ref it)) Q E s:=by
 cases b with
 |true=>exact qz9 O hl W U
 |false=>exact qy7 O hl W U
theorem Dl{l:J4}(hl:CoB b s.heap l J3)(O:∀h',ItB b h' s.heap.objs.size l 0->(∀b o,s.heap.get? b=ς o->h'.get? b=ς o)->Q (.ref s.heap.objs.size) {s with heap:=h'}):wpAny (model prog w) A (pyIter (.ref l)) Q E s:=by
 cases b with
 |true=>exact wpAny_pyIter_list hl (O _ ⟨_,qb8 _ rfl,rfl,rfl⟩ λ_ _ e=>gP _ e)
 |false=>exact qr4 hl (O _ ⟨_,qb8 _ rfl,rfl,rfl⟩ λ_ _ e=>gP _ e)
end
variable{items:Array Value}{ps:η (Key×Value)}
section
variable{prog:qe7}{w:J5}{A:ql5}
noncomputable def cf(J1:η (Key×Value)):η (Key×Value)->η (Key×Value)
 |[]=>J1
 |p::ps=>cf (stored J1 p.1 p.2) ps
structure PairsAt(prog:qe7)(w:J5)(h:Heap)(it D:J4)(items:Array Value)(ps:List (Key×Value)):Prop where
 len:items.size=ps.length
 at_:∀(j:Nat)(p:Key×Value),ps[j]?=ς p->∃t key o n,items[j]?=ς (.ref t)/\t≠it/\t≠D/\(aq prog w).is p.1 key=θ/\h.get? t=ς o/\o.cls=.type "tuple"/\o.data=.seq #[key,p.2] n
theorem PairsAt.keep{h:Heap}{it:J4}(P:PairsAt prog w h it D items ps)(k:∀b o,b≠it->b≠D->h.get? b=ς o->h'.get? b=ς o):PairsAt prog w h' it D items ps:=⟨P.len,λj p hp=>by have⟨t,O,o,n,h1,h2,U,h4,W,Z,h7⟩:=P.at_ j p hp;exact⟨t,O,o,n,h1,h2,U,h4,k t o h2 U W,Z,h7⟩⟩
def ua {b:Bool} {l it:J4} {O:Value} (hlD:l≠D) (hli:l≠it) (Z:it≠D) :
  ∀(k i:Nat)(A:ql5)(s:qa8)(J1:η (Key×Value))(R:Result->qa8->Prop),A.handled=ψ->ps.length-i=k->i<=ps.length->ItB b s.heap it l i->CoB b s.heap l items->PairsAt prog w s.heap it D items ps->s.heap.DictOf (aq prog w) D J1→
   J1.length+(ps.length-i)<=qa4→
   (∀h' tk,h'.DictOf (aq prog w) D (cf J1 (ps.drop i))->(∀b o,b≠it->b≠D->s.heap.get? b=ς o->h'.get? b=ς o)->R (.ok (.ret O)) {s with heap:=h',toks:=tk})→
   qu7 (model prog w) A (.builtin "dict.update.loop" ⟨[.ref D,.ref it,qv5 i,O],[]⟩) R s:=by
 intro k;induction k with
 |zero=>
  intro i A s J1 R hh hk hi W hl hP hD hz hR;have hin:i=ps.length:=by lia
  subst hin;refine qv0 db ?_;rw[qp3 bc _];unfold qj4.«dict.update.loop»;show wpAny _ _ (qz5 (.ref _) >>= _) _ _ _;refine qk2 (qA hh W hl (by rw[<- hP.len];simp) λh' eb=>?_);refine wB (qa7 (qa7 (hR h' s.toks ?_ λb o hb _ e=>eb b o hb e)));rw[qt6];exact hD.extBut eb (qk7 Z)
 |succ k ih=>
  intro i A s J1 R hh hk hi W hl hP hD hz hR;have hlt:i<ps.length:=by lia
  have⟨t,key,o,n,h1,h2,h3,h4,h5,h6,h7⟩:=hP.at_ i ps[i] (by simp[hlt]);refine qv0 db ?_;rw[qp3 bc _];unfold qj4.«dict.update.loop»;show wpAny _ _ (qz5 (.ref _) >>= _) _ _ _;refine wB (Dk W hl h1 λh' hit' sb=>?_);have h5':h'.get? t=ς o:=(sb.2 t h2).trans h5;have hD':h'.DictOf (aq prog w) D J1:=hD.sameBut sb (qk7 Z);show wpAny _ _ (qp1 [qc1 t] _ >>= _) _ _ _;refine wB (qn0 (wB (wpAny_tryCatch ?_)));unfold qj4.Dict.pairItems;refine wB (zb5 (T:="tuple") ⟨o,h5',h6⟩ ?_);rw[if_pos Ω];refine wB (qx3 h5' h7 ?_);refine qa7 ?_;show wpAny _ _ (qp1 [key,ps[i].2] (dictSet D key ps[i].2)) _ _ _;refine qn0 (wpAny_dictSet_pairs (hsz:=by lia) h4 hD' λh'' hD'' sb'=>?_);refine qa7 ⟨qu2 bc _,?_⟩
  have kp:∀b o,b≠it->b≠D->s.heap.get? b=ς o->h''.get? b=ς o:=λb o hb U e=>by rw[sb'.2 b U,sb.2 b hb];exact e
  have hl':CoB b h'' l items:=by cases b<;>(have⟨ol,e1,e2⟩:=hl;exact⟨ol,kp l ol hli hlD e1,e2⟩)
  have hit'':ItB b h'' it l (i+1):=hit'.at λo e=>by rw[sb'.2 it Z];exact e
  refine ih (i+1) _ _ (stored J1 ps[i].1 ps[i].2) R hh Θ Θ hit'' hl' (hP.keep kp) hD'' ?_ λh3 tk hD3 kp3=>hR h3 tk ?_ λb o hb U e=>kp3 b o hb U (kp b o hb U e)
  .have:=stored_length_le J1 ps[i].1 ps[i].2;lia
  .have:ps.drop i=ps[i]::ps.drop (i+1):=qx2 hlt;rw[this];exact hD3
variable{E:Value->qa8->Prop}{s:qa8}{a:J4}{J3:Array Value}{c:Nat}{sl:Array (ζ Value)}
theorem iV{b:Bool}{ps:η (Key×Value)}(hx:s.heap.get? a=ς {cls:=.type (tyB b),dict:=ψ,data:=.seq J3 c,slots:=sl})(hh:A.handled=ψ)(hl:J3.size=ps.length)(hz:ps.length<=qa4)
 (hp:∀(j:Nat)(p:Key×Value),ps[j]?=ς p->∃t W o n,J3[j]?=ς (.ref t)/\(aq prog w).is p.1 W=θ/\s.heap.get? t=ς o/\o.cls=.type "tuple"/\o.data=.seq #[W,p.2] n)
 (hQ:∀h' tk,h'.DictOf (aq prog w) s.heap.objs.size (cf [] ps)->(∀b ob,s.heap.get? b=ς ob->h'.get? b=ς ob)->Q (.ref s.heap.objs.size) {s with heap:=h',toks:=tk}) :
  wpAny (model prog w) A (call (.type "dict") [.ref a]) Q E s:=by
 refine callType_codes (Q₁:=λobj s₁=>obj=.ref s.heap.objs.size/\s₁={s with heap:=s.heap.push {cls:=.type "dict",data:=.dict #[]}}) F.kt_called_dict (F.kt_typeCall_dict_1 _) F.entry_dict_init (kt_code_dict_new _ ⟨rfl,rfl⟩) ?_;rintro obj s₁ ⟨rfl,rfl⟩;have O:(s.heap.push {cls:=.type "dict",data:=.dict #[]}).DictOf (aq prog w) s.heap.objs.size []:=Heap.DictOf.new s.heap;have hx1:(s.heap.push {cls:=.type "dict",data:=.dict #[]}).get? a=ς {cls:=.type (tyB b),dict:=ψ,data:=.seq J3 c,slots:=sl}:=gP _ hx;refine⟨O.typeIs,F.args_dict_init_2 _ _,?_⟩;unfold qj4.«dict.__init__»;refine wB ?_;unfold qj4.Dict.selfAndRest;refine wB (qs8 O.typeIs ?_);show wpAny _ _ (pure (s.heap.objs.size,[qc1 a])) _ _ _;refine qa7 ?_;show wpAny _ _ (qz0 "dict.__init__" s.heap.objs.size (.ref a) [] .none) _ _ _;unfold qz0;refine wB (zb5 (T:=tyB b) ⟨_,hx1,rfl⟩ ?_);rw[if_pos (by cases b<;>decide)];refine wB (qz hx1 hh λh' tk kp=>?_);rw[if_pos (by rfl)];refine wB (wpAny_rule ?_);have hx2:=kp _ _ hx1;have hc2:CoB b h' a J3:=by cases b<;>exact⟨_,hx2,rfl,_,rfl⟩
 refine wB (Dl hc2 λh'' hit Z=>?_);refine qa7 ⟨qu2 bc _,?_⟩;have ha:a<s.heap.objs.size:=qb3 hx;have⟨oD,esD,epD,eD,restD⟩:=O;have U:s.heap.objs.size<h'.objs.size:=qb3 (kp _ _ eD);refine ua (b:=b) (l:=a) (it:=h'.objs.size) (D:=s.heap.objs.size) (items:=J3) (ps:=ps) (qc2 ha) (qc2 (ql8 ha U)) (qk7 (qc2 U)) ps.length 0 _ _ [] _ hh Ξ (qh2 _) hit (by cases b<;>exact⟨_,Z _ _ hx2,rfl,_,rfl⟩) ⟨hl,λj p hj=>?_⟩ ⟨oD,esD,epD,Z _ _ (kp _ _ eD),restD⟩ ‹hz› λh3 tk3 hD3 kp3=>⟨rfl,?_⟩
 .have⟨t,W,o,n,h1,h2,h3,h4,h5⟩:=hp j p hj;have ht:=qb3 h3;exact⟨t,W,o,n,h1,qc2 (ql8 ht U),qc2 ht,h2,Z _ _ (kp _ _ (gP _ h3)),h4,h5⟩
 .refine hQ h3 tk3 ‹hD3› λb ob e=>kp3 b ob (qc2 (ql8 (qb3 e) U)) (qc2 (qb3 e)) (Z _ _ (kp _ _ (qz8 _ e)))
end
def aS(J1:η (Key×V)):η (Key×V)->η (Key×V)
 |[]=>J1
 |p::ps=>aS (aA J1 p.1 p.2) ps
theorem KV.all:∀{ps:η (Key×V)}{O:η (Key×Value)}{J1:η (Key×V)}{vs:η (Key×Value)},KV ps O->KV J1 vs->KV (aS J1 ps) (cf vs O)
 |[],[],_,_,_,r=>r
 |[],_::_,_,_,h,_=>by cases h
 |_::_,[],_,_,h,_=>by cases h
 |p::ps,q::O,J1,vs,h,r=>by
  cases h with
  |cons hp W=>have⟨e,U⟩:=hp;have:=KV.all W (r.put p.1 U);show KV (aS (aA J1 p.1 p.2) ps) (cf (stored vs q.1 q.2) O);rw[<- e];exact this
theorem dS:∀(ps J1:η (Key×V)),(aS J1 ps).length<=J1.length+ps.length
 |[],J1=>by simp[aS]
 |p::ps,J1=>by have h1:=dS ps (aA J1 p.1 p.2);have h2:=cT J1 p.1 p.2;rwa[aS,qb6];lia
section
variable{X:Cx}
def Dm(K:xA9):η V->Hp->VK->Prop:=λxs H Q=>∃(a:J4)(vs:η V)(ps:η (Key×V)),xs=[.ref a]/\(∃b,SqB b K H a vs)/\vs.length=ps.length∧(∀(j:Nat)(p:Key×V),ps[j]?=ς p->∃t,vs[j]?=ς (.ref t)/\SqT K H t [kV p.1,p.2])/\∀p,H p=ψ->Q (.ref p) (upd H p (.dK (aS [] ps)))
def nu(hc:X.calm=θ):CallR X (.type "dict") (Dm X.K):=by
 intro J0 s σ H xs us Q I r h;have⟨a,vs,ps,rfl,⟨b,hq⟩,hl,hp,q⟩:=h;have⟨u,rfl,rx⟩:=cQ r;cases rx
 have hs:∃J3:η Value,Vals vs J3/\(∃n sl,s.heap.get? a=ς {cls:=.type (tyB b),dict:=ψ,data:=.seq J3.toArray n,slots:=sl})/\vs.length<=qa4:=by
  cases b with
  |true=>have⟨J3,rv,⟨⟨cls,dd,data,sl⟩,n,ho,h1,h2,h3⟩,hz⟩:=I.list hq;simp only at h1 h2 h3;subst h1 h2 h3;exact⟨J3,rv,⟨n,sl,ho⟩,hz⟩
  |false=>have⟨J3,rv,⟨⟨⟨cls,dd,data,sl⟩,ho,h1,n,h2⟩,h3⟩,hz⟩:=I.tup hq;have h3:=h3 _ ho;simp only at h1 h2 h3;subst h1 h2 h3;exact⟨J3,rv,⟨n,sl,ho⟩,hz⟩
 have⟨J3,rv,⟨n,sl,ho⟩,hz⟩:=hs
 -- the values of the pairs
 have ex:∀(j:Nat)(p:Key×V),ps[j]?=ς p->∃t O u n o,J3[j]?=ς (.ref t)/\RelV (kV p.1) O/\RelV p.2 u/\s.heap.get? t=ς o/\o.cls=.type "tuple"/\o.data=.seq #[O,u] n:=λj p W=>by have⟨t,ht,hT⟩:=hp j p W;have⟨u0,hu0,ru0⟩:=rv.get ht;obtain rfl:u0=qc1 t:=ru0;have⟨ws,rws,⟨o,eo,ec,n,ed⟩,_⟩:=I.tuple hT;have⟨x,y,rfl,rx,ry⟩:=rG rws;exact⟨t,x,y,n,o,hu0,rx,ry,eo,ec,ed⟩
 have exq:∃U:η (Key×Value),KV ps U/\∀(j:Nat)(p:Key×Value),U[j]?=ς p->∃t O o n,J3[j]?=ς (.ref t)/\(aq X.prog X.w).is p.1 O=θ/\s.heap.get? t=ς o/\o.cls=.type "tuple"/\o.data=.seq #[O,p.2] n:=by
  have O:∀ (ps:η (Key×V)) (J3:η Value),(∀ (j:Nat) (p:Key×V),ps[j]?=ς p->∃ t O u n o,J3[j]?=ς (.ref t)/\RelV (kV p.1) O/\RelV p.2 u/\s.heap.get? t=ς o/\o.cls=.type "tuple"/\o.data=.seq #[O,u] n)→
      ∃U:η (Key×Value),KV ps U/\∀(j:Nat)(p:Key×Value),U[j]?=ς p->∃t O o n,J3[j]?=ς (.ref t)/\(aq X.prog X.w).is p.1 O=θ/\s.heap.get? t=ς o/\o.cls=.type "tuple"/\o.data=.seq #[O,p.2] n:=λps=>by
   induction ps with
   |nil=>exact λJ3 _=>⟨[],.nil,λj p h=>by simp at h⟩
   |cons p ps ih=>
    intro J3 h;have⟨t,k,u,n,o,e1,e2,e3,e4,e5,e6⟩:=h 0 p rfl;cases J3 with
    |nil=>simp at e1
    |cons v J3=>
     have⟨U,r1,r2⟩:=ih J3 λj p W=>h (j+1) p ‹W›
     refine⟨(p.1,u)::U,.cons ⟨rfl,e3⟩ r1,λj q W=>?_⟩;cases j with
     |zero=>simp at W;subst W;exact⟨t,k,o,n,‹e1›,gY e2,e4,e5,e6⟩
     |succ j=>simpa using r2 j q ‹W›
  exact O ps J3 ex
 have⟨U,rq,hq2⟩:=exq;have Z:J3.length=U.length:=by rw[<- rv.length,hl];exact rq.length
 have hzz:U.length<=qa4:=by rw[<- Z,<- rv.length];exact hz
 refine iV (b:=b) ho (I.ok.hd hc) ‹Z› hzz (λj p W=>by have⟨t,O,o,n,e1,e2⟩:=hq2 j p W;exact⟨t,O,o,n,‹e1›,e2⟩) λh' tk hD kp=>⟨.ref s.heap.objs.size,_,I.laid (a:=s.heap.objs.size) (o:=.dK (aS [] ps)) (t':=tk) kp (qu4 _) ?_,rfl,q _ (I.hok.fresh (qu4 _))⟩
 refine mR ?_ (beq_eq_false_iff_ne.mpr (qk7 (qc2 I.big))) (KV.all rq .nil) hD;have:=dS ps [];have:=rq.length;simp at*
 lia
end
structure EntG(kv:List (Value×Value))(lo:J4)(h:Heap)(as:List J4):Prop where
 rise:as.Pairwise (· < ·)
 above:∀a∈as,lo<a
 pairs:∀(j:Nat)(a:J4),as[j]?=ς a->∃p,kv[j]?=ς p/\h.get? a=ς {cls:=.type "tuple",data:=.seq #[p.1,p.2]}
theorem EntG.there{lo:J4}{h:Heap}{as:η J4}(g:EntG kv lo h as)(U:a∈as):a<h.objs.size:=by have⟨j,O⟩:=qt1.mp U;have⟨_,_,e⟩:=g.pairs j a O;exact qb3 e
theorem ItmS.keep{h:Heap}{it d S:J4}{i:Nat}(x:ItmS h it d i n ep)(U:∀b o,b≠S->h.get? b=ς o->h'.get? b=ς o)(hS:∃o,h'.get? S=ς o)(hI:it≠S):ItmS h' it d i n ep:=by
 have⟨x0,f,ok,Z,O,ho⟩:=x;refine⟨x0,f,ok,Z,U _ _ hI O,ho.imp_right λ⟨a,e,ne,oa,h1⟩=>⟨a,e,ne,?_⟩⟩;by_cases W:a=S
 .subst W;exact hS
 .exact⟨oa,U a oa W h1⟩
section
variable{prog:qe7}{w:J5}{A:ql5}{E:Value->qa8->Prop}{s:qa8}{R:Result->qa8->Prop}{kv:η (Value×Value)}{ep:Nat}
def qD {S I d:J4} (nh:A.handled=ψ) (hSI:S<I) (hSd:d≠S) (hId:d≠I) (hn:kv.length<=qa4) (res:Value) {h1:Heap}
  (hR:∀h' tk O c as,(∀b o,b≠S->b≠I->h1.get? b=ς o->h'.get? b=ς o)->h'.get? S=ς {cls:=.type "list",dict:=ψ,data:=.seq O c,slots:=#[]}->as.length=kv.length->EntG kv I h' as→
   O.toList=as.map qc1->R (.ok (.ret res)) {s with heap:=h',toks:=tk}) :
  ∀(k i:Nat)(h:Heap)(tk c:Nat)(O:Array Value)(as:η J4),kv.length-i=k->i<=kv.length->ItmS h I d i kv.length ep->EntB h d kv ep->(∀b o,b≠S->b≠I->h1.get? b=ς o->h.get? b=ς o)→
   h.get? S=ς {cls:=.type "list",dict:=ψ,data:=.seq O c,slots:=#[]}->O.toList=as.map qc1->as.length=i->EntG kv I h as->I<h.objs.size→
   qu7 (model prog w) A (.builtin "list.extend.loop" ⟨[.ref S,.ref I,res],[]⟩) R {s with heap:=h,toks:=tk}:=by
 have hne:S≠I:=qc2 hSI;intro k;induction k with
 |zero=>
  intro i h tk c O as hk hi hst hD U hS W hal hG hIs;have hin:i=kv.length:=by lia
  refine qv0 PySem.F.entry_extend_loop ?_;rw[qp3 PySem.F.plain_extend_loop _];show wpAny _ A.in1 (qz5 (.ref I) >>= _) _ _ _;refine wB (tU (s:={s with heap:=h,toks:=tk}) (A:=A.in1) nh hst hD hin λh' he=>?_);refine qa7 (hR h' tk O c as (λb o h1 h2 e=>he b o h2 (U b o h1 h2 e)) (he S _ hne hS) Θ ⟨hG.rise,hG.above,λj a hj=>?_⟩ W);have⟨p,e1,e2⟩:=hG.pairs j a hj;exact⟨p,e1,he a _ (qj0 (hG.above a (qa5 hj))) e2⟩
 |succ k ih=>
  intro i h tk c O as hk hi hst hD U hS W hal hG hIs;have hlt:i<kv.length:=by lia
  obtain⟨⟨ky,x⟩,hx⟩:∃p,kv[i]?=ς p:=⟨kv[i],gQ hlt⟩;have hsz:O.size=i:=by rw[<- qq2,W,qa3,hal]
  refine qv0 PySem.F.entry_extend_loop ?_;rw[qp3 PySem.F.plain_extend_loop _];show wpAny _ A.in1 (qz5 (.ref I) >>= _) _ _ _;refine wB (qw (s:={s with heap:=h,toks:=tk}) hst hD hx λh' hst' ht hz Z=>?_);dsimp only at ht hz Z ⊢;have hS':=Z S _ hne hS;have up:∀b o,b≠S->h'.get? b=ς o->(h'.update S (qk5 (·.push (qc1 h.objs.size)))).get? b=ς o:=λb o hb e=>(qi2 _ _ (qk7 hb)).trans e
  have hSl:S<h.objs.size:=qb3 hS;show wpAny _ A.in1 (zg6 S (·.push (qc1 h.objs.size)) >>= _) _ _ _
  refine wB (qv1 hS' rfl (qa7 ⟨qu2 PySem.F.plain_extend_loop _,ih (i+1) _ tk _ (O.push (qc1 h.objs.size)) (as++[h.objs.size]) Θ hlt (hst'.keep up ⟨_,qf8 _ hS' rfl⟩ (qk7 hne)) (hD.upTo λo e=>up d o hSd (Z d o hId e))
   (λb o h1 h2 e=>up b o h1 (Z b o h2 (U b o h1 h2 e))) (qf8 _ hS' rfl) (by rw[Array.toList_push,W,qd1];rfl) (by rw[qc5,hal];rfl) ⟨?_,?_,?_⟩ ?_⟩) (by rw[hsz];lia) (by show(O.push (qc1 h.objs.size)).size<=qa4+1;rw[Array.size_push,hsz];lia))
  .refine List.pairwise_append.mpr ⟨hG.rise,List.pairwise_singleton _ _,λa ha b hb=>?_⟩;rw[qw0.mp hb];exact hG.there ha
  .intro a ha;rcases qf7.mp ha with ha|ha
   .exact hG.above a ha
   .rw[qw0.mp ha];exact hIs
  .intro j b hj;rcases Nat.lt_trichotomy j as.length with h1|h1|h1
   .rw[gL h1]at hj;have⟨p,e1,e2⟩:=hG.pairs j b hj;have hb:=hG.above b (qa5 hj);exact⟨p,e1,up b _ (qj0 (ql8 hSI hb)) (Z b _ (qj0 hb) e2)⟩
   .subst h1;have hb:h.objs.size=b:=‹hj›
    subst hb;exact⟨_,by rw[hal];exact hx,up _ _ (qj0 hSl) ht⟩
   .have hnone:(as++[h.objs.size])[j]?=ψ:=qh4 (by rw[qc5,qj1];lia);rw[hnone]at hj;cases hj
  .have e:(h'.update S (qk5 (·.push (qc1 h.objs.size)))).get? h.objs.size=_:=up _ _ (qj0 hSl) ht;exact ql8 hIs (qb3 e)
variable{r d:J4}
def qE(nh:A.handled=ψ)(hv:s.heap.IsItemsView r d)(hm:EntB s.heap d kv ep)(hn:kv.length<=qa4)
 (hQ:∀h' tk acc c as,(∀b o,s.heap.get? b=ς o->h'.get? b=ς o)->h'.get? s.heap.objs.size=ς {cls:=.type "list",dict:=ψ,data:=.seq acc c,slots:=#[]}->as.length=kv.length->EntG kv s.heap.objs.size h' as→
 acc.toList=as.map qc1->Q (.ref s.heap.objs.size) {s with heap:=h',toks:=tk}) :
  wpAny (model prog w) A (call (.type "list") [.ref r]) Q E s:=by
 refine callType_codes (Q₁:=λobj s₁=>obj=.ref s.heap.objs.size/\s₁={s with heap:=s.heap.push {cls:=.type "list",data:=.seq #[]}}) PySem.F.called_list (PySem.F.typeCall_list_1 _) PySem.F.entry_list_init
  (code_list_new _ ⟨rfl,rfl⟩) λobj s₁ h₁=>?_
 have⟨rfl,rfl⟩:=h₁;have hS:(s.heap.push {cls:=.type "list",data:=.seq #[]}).get? s.heap.objs.size=ς {cls:=.type "list",data:=.seq #[]}:=qb8 _ rfl;have hr:r<s.heap.objs.size:=let ⟨_,ho,_⟩:=hv;qb3 ho;have hd:d<s.heap.objs.size:=hm.lt;have hSr:=qj0 hr;have hSd:d≠s.heap.objs.size:=qc2 hd;refine⟨⟨_,hS,rfl⟩,PySem.F.args_list_init_2 _ _,?_⟩;generalize hh:s.heap.push {cls:=.type "list",data:=.seq #[]}=h0 at hS;have kp:∀b o,s.heap.get? b=ς o->h0.get? b=ς o:=λb o e=>by rw[<- hh];exact gP _ e
 have hsz:h0.objs.size=s.heap.objs.size+1:=by rw[<- hh,qn6]
 generalize hSe:s.heap.objs.size=S at*
 show wpAny _ _ (do let old <- za3 (.ref S);qj4.List.listUpdate (.ref S) (λ_=>#[]);letGo old.toList.reverse;qo5 (.ref S) (.ref r) .none) _ _ _;refine wB ?_;unfold za3;refine wB (qx3 hS rfl (qa7 ?_));show wpAny _ _ (zg6 S (λ_=>#[]) >>= λ_=>letGo (#[]:Array Value).toList.reverse >>= λ_=>qo5 (.ref S) (.ref r) .none) _ _ _;refine wB (qv1 hS rfl ?_);have hS2:=qf8 (qk5 (λ_=>(#[]:Array Value))) hS rfl;have oth:∀b o,b≠S->h0.get? b=ς o->(h0.update S (qk5 (λ_=>(#[]:Array Value)))).get? b=ς o:=λb o hb e=>(qi2 _ _ (qk7 hb)).trans e
 generalize h0.update S (qk5 (λ_=>(#[]:Array Value)))=h2 at hS2 oth;refine wB (wpAny_letGo ?_);have hv2:h2.IsItemsView r d:=let ⟨o,ho,x⟩:=hv;⟨o,oth r o (qk7 hSr) (kp r o ho),x⟩;have hm2:EntB h2 d kv ep:=hm.upTo λo e=>oth d o hSd (kp d o e)
 have kp2:∀b o,s.heap.get? b=ς o->b≠S->h2.get? b=ς o:=λb o e hb=>oth b o hb (kp b o e)
 unfold qo5;refine wB (zb5 (T:="dict_items") (let ⟨o,ho,hc,_⟩:=hv2;⟨o,ho,hc⟩) ?_);have q1:qy3 (.ref S) (.ref r)=ξ:=by simp[qy3,hSr]
 have q2:(qo8 "dict_items"==qo8 "list")=ξ:=by decide
 have q3:(qo8 "dict_items"==qo8 "tuple")=ξ:=by decide
 rwa[q1,q2,q3,Bool.or_false,qg3,if_false];refine wB (qv hv2 hm2 λh3 it3 U lt3=>?_);dsimp only at it3 U lt3 ⊢;have O:S<h2.objs.size:=qb3 hS2;have hS3:=U _ _ hS2
 have key:∀ (h:Heap) (c1 tk:Nat),(∀ b o,b≠S->h3.get? b=ς o->h.get? b=ς o)->h.get? S=ς {cls:=.type "list",data:=.seq #[] c1}->ItmS h h2.objs.size d 0 kv.length ep->h2.objs.size<h.objs.size→
     qu7 (model prog w) A.in1 (.builtin "list.extend.loop" ⟨[.ref S,.ref h2.objs.size,.none],[]⟩) (wants (λr Z=>r=qg4/\Q (qc1 S) Z) E) {s with heap:=h,toks:=tk}:=by
  intro h c1 tk hk hS1 hit hlt
  refine qD (A:=A.in1) (R:=wants (λr Z=>r=qg4/\Q (qc1 S) Z) E) (kv:=kv) (ep:=ep) (s:=s) (h1:=s.heap) nh O hSd (qc2 (ql8 Θ O)) hn .none (λh' tk' acc c as hk' hS' hl hG hacc=>⟨rfl,hQ h' tk' acc c as (λb o e=>hk' b o (qc2 (by rw[<- hSe];exact qb3 e)) (qc2 (ql8 (by rw[<- hSe];exact qb3 e) O)) e) hS' hl ⟨hG.rise,λa ha=>ql8 O (hG.above a ha),hG.pairs⟩ hacc⟩)
   kv.length 0 h tk c1 #[] [] (zf8 _) (qh2 _) hit (hm2.upTo λo e=>hk d o hSd (U d o e)) (λb o hb _ e=>hk b o hb (U b o (kp2 b o e hb))) hS1 rfl rfl ⟨qx8,(λ_ ha=>nomatch ha),(λj a hj=>by simp at hj)⟩ hlt
 refine wB (qn0 (PySem.W.kdx_hint (let ⟨o,ho,hc,_⟩:=hv2;⟨o,U r o ho,hc⟩) ?_));refine wpAny_ite_split (λ_=>?_) (λ_=>qa7 ⟨qu2 PySem.F.plain_extend_loop _,key _ _ _ (λb o _ e=>e) hS3 it3 lt3⟩);refine wB (wpAny_rule (wB ?_));show wpAny _ _ (zg6 S (·.push .none) >>= λ_=>zg6 S (·.pop)) _ _ _;refine wB (qv1 hS3 rfl ?_);have hS4:=qf8 (qk5 (·.push qg4)) hS3 rfl;refine qv1 (hz:=by seq_fits) hS4 rfl ?_;have hS5:=qf8 (qk5 (·.pop)) hS4 rfl;have hk5:∀b o,b≠S->h3.get? b=ς o->((h3.update S (qk5 (·.push qg4))).update S (qk5 (·.pop))).get? b=ς o:=λb o hb e=>(qi2 _ _ (qk7 hb)).trans ((qi2 _ _ (qk7 hb)).trans e)
 refine qa7 ⟨qu2 PySem.F.plain_extend_loop _,key _ _ _ hk5 hS5 (it3.keep hk5 ⟨_,hS5⟩ (qj0 O)) ?_⟩;have:∃o,h3.get? h2.objs.size=ς o:=let ⟨_,_,_,_,e,_⟩:=it3;⟨_,e⟩;have⟨o,ho⟩:=this;exact qb3 (hk5 _ o (qj0 O) ho)
end
section
variable{X:Cx}{J0:η (J4×Obj)}{σ:ae}{H H':Hp}{s:qa8}{h':Heap}
theorem Inv.more (I:Inv X J0 σ H s) (k:∀ b u,s.heap.get? b=ς u->h'.get? b=ς u) (hs:Same H H') (O:∀ b,b<s.heap.objs.size->H b=ψ->H' b=ψ) (new:∀ b o,H' b=ς o->H b=ψ->ObjOk X.prog X.w H' h' b o) :
  Inv X J0 σ H' {s with heap:=h',toks:=t'}:=
 I.un ⟨λb u q _ _ _=>k b u q,λb u q _ _ _=>⟨u.slots,k b u q⟩,λb u q n _=>O b (qb3 q) n,λb u q _=>⟨u,k b u q⟩,λb xs q=>hs _ _ q,λb u xs q=>hs _ _ q,λb ps q=>⟨#[],by rw[hs _ _ q];simp⟩,λb U q=>hs _ _ q⟩ λb o e=>by
  cases q:H b with
  |none=>exact new b o e q
  |some u=>have:=hs b u q;rw[e]at this;cases this;exact(I.hok b o q).stay (λc v _ q=>k c v q) (λc q=>hs _ _ q) (λc xs q=>hs _ _ q) λc ob xs q=>hs _ _ q
def eJ(H:Hp):η J4->η (η V)->Hp
 |t::ts,p::ps=>upd (eJ H ts ps) t (.t p)
 |_,_=>H
theorem kl:∀{ts:η J4}{ps:η (η V)}{j:Nat}{t:J4}{p:η V},ts.Nodup->ts[j]?=ς t->ps[j]?=ς p->eJ H ts ps t=ς (.t p)
 |[],_,j,t,p,_,h,_=>by simp at h
 |t::ts,[],j,_,p,_,_,h=>by simp at h
 |t::ts,q::ps,0,_,_,_,h,h'=>by simp at h h';subst h h';exact af
 |t::ts,q::ps,j+1,x,p,O,h,h'=>by rwa[qd3]at h h';have O:=qd7.mp O;rwa[eJ];rw[ai λe=>O.1 (by rw[<- e];exact qa5 h)];exact kl O.2 h h'
theorem cC{b:J4}:∀{ts:η J4}{ps:η (η V)},b∉ts->eJ H ts ps b=H b
 |[],_,_=>rfl
 |t::ts,[],_=>rfl
 |t::ts,q::ps,h=>by rwa[qc4,not_or]at h;rwa[eJ];rw[ai h.1];exact cC h.2
theorem jA:∀{ts:η J4}{ps:η (η V)},(∀t∈ts,H t=ψ)->Same H (eJ H ts ps):=λ{ts ps} h b o e=>by rw[cC λz=>by rw[h b z]at e;cases e];exact e
end
noncomputable def vwI(v d:J4):HO:=.ext λh=>h.IsItemsView v d
section
variable{X:Cx}
def rItm:V->η V->Hp->VK->Prop:=λx vs H Q=>∃d J1,x=.ref d/\vs=[]/\Rd H d (.dT J1)/\∀v,H v=ψ->Q (.ref v) (upd H v (vwI v d))
theorem oO {w:J5} {h:Heap} {J1:η (η Key×V)} (x:ObjOk P w H h a (.dT J1)):J1.length<=qa4/\(a==qk3)=ξ/\∃ (bs:η J4) (us:η Value) (ep:Nat),EntB h a (List.zip (bs.map .ref) us) ep/\bs.length=J1.length/\us.length=J1.length∧
  (∀(j:Nat)(p:η Key×V),J1[j]?=ς p->∃b u,bs[j]?=ς b/\us[j]?=ς u/\H b=ς (.t (p.1.map kV))/\RelV p.2 u):=by
 have⟨z,y,xs,r,o,es,ep,h1,h2,W,h4,Z⟩:=x;refine⟨z,y,xs.map (·.2.1),xs.map (·.2.2),ep,⟨o,es,h1,h2,W,?_⟩,by rw[qa3,<- cB r],by rw[qa3,<- cB r],λj p hp=>?_⟩
 .rw[h4,qd5,qd5,List.zip_map',];rfl
 .have⟨q,O,_,hb,U⟩:=jz r hp;exact⟨q.2.1,q.2.2,by rw[qa6,O];rfl,by rw[qa6,O];rfl,hb,U⟩
theorem ub:MtR X "dict.items" rItm:=by intro J0 s σ H x vs v us Q I W rv h;have⟨d,J1,rfl,rfl,U,q⟩:=h;cases W;cases rv;have⟨z,y,bs,ws,ep,en,_⟩:=oO (yW I U);refine qu y en ?_;refine⟨.ref s.heap.objs.size,_,I.laid (a:=s.heap.objs.size) (o:=vwI s.heap.objs.size d) (t':=s.toks) (λb o e=>gP _ e) (nL _) ?_,rfl,q _ (I.hok.fresh (nL _))⟩;exact⟨⟨_,qb8 _ rfl,rfl,rfl⟩,⟨_,qb8 _ rfl⟩,λh1 h2 O k=>by have⟨o,Z,x⟩:=O;exact⟨o,k o Z,x⟩⟩
def rIls:η V->Hp->VK->Prop:=λxs H Q=>∃v d J1,xs=[.ref v]/\H v=ς (vwI v d)/\Rd H d (.dT J1)/\∀(bs ts:η J4)(l:J4),bs.length=J1.length->ts.length=J1.length->(∀(j:Nat)(b:J4)(p:η Key×V),bs[j]?=ς b->J1[j]?=ς p->H b=ς (.t (p.1.map kV)))→
 ts.Nodup->(∀t∈ts,H t=ψ)->H l=ψ->l∉ts->Q (.ref l) (upd (eJ H ts (qt2 (λb p=>[V.ref b,p.2]) bs J1)) l (.e (ts.map V.ref)))
def uc(hc:X.calm=θ):CallR X (.type "list") rIls:=by
 intro J0 s σ H xs us Q I r h;have⟨v,d,J1,rfl,hv,hd,q⟩:=h;have⟨u,rfl,rx⟩:=cQ r;cases rx;have⟨z,y,bs,ws,ep,en,hl1,hl2,hp⟩:=oO (yW I hd);have hV:s.heap.IsItemsView v d:=(show ObjOk X.prog X.w H s.heap v (vwI v d)from I.hok v _ hv).1;have hkl:(List.zip (bs.map qc1) ws).length=J1.length:=by rw[List.length_zip,qa3,hl1,hl2,Nat.min_self]
 refine qE (I.ok.hd hc) hV en (by rw[hkl];exact z) λh' tk acc c as kp hD O hG W=>?_
 rw[hkl]at O;have hsz:=hG.above;have hnd:as.Nodup:=hG.rise.imp λh=>qc2 h
 have Z:∀t∈as,H t=ψ:=λt ht=>I.hok.fresh (qq7 (hG.above t ht))
 have hl0:H s.heap.objs.size=ψ:=I.hok.fresh (nL _);have hln:s.heap.objs.size∉as:=λz=>qm9 _ (hG.above _ z)
 have hS1:Same H (eJ H as (qt2 (λb p=>[V.ref b,p.2]) bs J1)):=jA Z;have U:eJ H as (qt2 (λb p=>[V.ref b,p.2]) bs J1) s.heap.objs.size=ψ:=by rw[cC hln];exact hl0
 refine⟨.ref s.heap.objs.size,_,I.more (t':=tk) (H':=upd (eJ H as (qt2 (λb p=>[V.ref b,p.2]) bs J1)) s.heap.objs.size (.e (as.map V.ref))) kp (hS1.trans (Same.upd U)) (λb hb n=>?_) (λb o e n=>?_),rfl,q bs as _ hl1 O (λj b p h1 h2=>?_) hnd Z hl0 hln⟩
 .rw[ai (qc2 hb),cC λz=>absurd (hG.above b z) (qn7.mpr (qq7 hb))];exact n
 .by_cases hb:b=s.heap.objs.size
  .subst hb;rw[af]at e;cases e;refine⟨by rw[qa3,O];exact z,acc.toList,c,?_,by rw[Array.toArray_toList];exact hD⟩;rw[W];clear W hG O hsz hnd Z hln hS1 U;induction as with
   |nil=>exact .nil
   |cons b bs ih=>exact .cons rfl ih
  .rw[ai hb]at e;by_cases hm:b∈as
   .have⟨j,hj⟩:=qt1.mp hm;have⟨p,hp1,hp2⟩:=hG.pairs j b hj;have hjl:j<J1.length:=by rw[<- O];exact(gX hj).1
    have⟨b',u',e1,e2,e3,e4⟩:=hp j J1[j] (by simp[hjl])
    have hzw:(qt2 (λb p=>[V.ref b,p.2]) bs J1)[j]?=ς [V.ref b',J1[j].2]:=by rw[zc5,e1];simp[hjl]
    rw[kl hnd hj hzw]at e;cases e
    have hzp:(List.zip (bs.map qc1) ws)[j]?=ς (.ref b',u'):=by rw[qx0];exact⟨by rw[qa6,e1];rfl,e2⟩
    rw[hzp]at hp1;cases hp1;exact⟨by show 2<=qa4;rw[qb7];lia,[.ref b',u'],.cons rfl (.cons e4 .nil),.of (n:=0) hp2 rfl rfl rfl⟩
   .rw[cC hm,n]at e;cases e
 .have⟨b',u',e1,_,e3,_⟩:=hp j p h2;rw[h1]at e1;cases e1;exact e3
def Dn:V->η V->Hp->VK->Prop:=λx vs H Q=>∃d,x=.ref d/\vs=[]/\((∃J1,H d=ς (.dT J1))/\Q .non (upd H d (.dT []))\/(∃J1,H d=ς (.dK J1))/\Q .non (upd H d (.dK [])))
def xc:MtM X "dict.clear" Dn:=by
 intro J0 s σ H x vs v us Q I rx rv h;have⟨d,rfl,rfl,h⟩:=h;cases rx;cases rv;rcases h with ⟨⟨J1,U⟩,q⟩|⟨⟨J1,U⟩,q⟩
 .have⟨z,y,xs,r,o,es,ep,h1,h2,O,h4,h5⟩:=I.hok d _ U
  have W:es.size<=qa4:=by have e1:=congrArg qm1 h4;have e2:=cB r;simp at e1;lia
  have Z:s.TypeIs (.ref d) "dict":=⟨o,h1,h2.1⟩;refine qj6 F.slot_dict_clear Z F.entry_dict_clear ?_ (F.args_dict_clear_1 _);unfold qj4.«dict.clear»;refine wB ?_;unfold qj4.Dict.noArgs;refine wB (qs8 Z ?_);show wpAny _ _ (pure d) _ _ s;refine qa7 (wB (qs6 h1 O (wB ?_)));unfold bearsInstanceDictMark;refine wB (wpAny_load h1 (qa7 (wB (wpAny_updateDictKeys (hz:=W) h1 O ?_))));have hg:=qf8 (Obj.mapDictKeys λ_=>#[]) h1 (Obj.isFreed_of_dict (Obj.data_mapDictKeys O _))
  have fin:EP X J0 σ Q .none {s with heap:=s.heap.update d (Obj.mapDictKeys λ_=>#[])}:=by refine⟨.non,_,gq (t':=s.toks) I (by rw[U];exact ql1) (qq3 ..) ⟨_,hg⟩ ?_,rfl,q⟩;exact⟨qh2 _,y,[],.nil,_,_,_,hg,h2.mapDictKeys _,Obj.data_mapDictKeys O _,rfl,qw9⟩
  split
  .exact wB (wpAny_letGo (qa7 ⟨.none,rfl,fin⟩))
  .exact wB (qa7 (qa7 ⟨.none,rfl,fin⟩))
 .exact wf I U λs' I'=>⟨.non,_,I',rfl,q⟩
end
variable{J1:η (Key×V)}
section
variable{G:Gx}{X:Cx}{e o a:J8}{es:η J8}{pos spos apos cpos p tpos:Pos}{f fa fe fk:Fg}{m:Md}{i:Nat}{sc:J9}{x:Str}{F H:Hp}{ρ:Nat->J4}{ch:CH}{c:CV}{v:V}
def nv(ch:CH):CV->ζ (η (η Key×Dt))
 |.ref i=>match ch[i]? with
  |some (.dT l)=>(dats (l.map (·.2))).map λds=>(l.map (·.1)).zip ds
  |_=>ψ
 |.own _ (.dcT l)=>ς l
 |_=>ψ
omit x in
theorem xf{l:η (η Key×Dt)}(g:Gh G F H ρ ch)(r:RelC G F H ρ ch.length c v)(h:nv ch c=ς l):∃a J1,v=.ref a/\H a=ς (.dT J1)/\J1.map (·.1)=l.map (·.1)/\Reps G.K F (l.map (·.2)) (J1.map (·.2)):=by
 unfold nv at h;split at h
 .rename_i i;rcases h
  rename_i Z hl;have⟨ds,U,rfl⟩:=mS h;have⟨_,J1,h1,h2,O⟩:=g.ok i _ hl
  have W:(Z.map (·.1)).length=ds.length:=by have:=congrArg qm1 (cw U);simpa using this
  refine⟨_,J1,r.2,h1,?_,?_⟩
  .rw[h2,qt7 Θ]
  .rw[List.map_snd_zip Θ];exact aU U O
 .cases h;have⟨a,rfl,_,⟨b,J1,e,rfl,h1,h2,O⟩,_⟩:=r;exact⟨_,J1,rfl,h1,h2,O⟩
 .cases h
noncomputable def fM(l:η (η Key×Dt)):η Dt:=l.map λq=>.t [nr q.1,q.2]
def eIl(m:Md)(fa:Fg):Fg:=λδ ch=>(fa δ ch).bind λp=>(nv p.2 p.1).bind λl=>fin m p.2 (.e (fM l))
theorem lL:∀{ds:η Dt}{vs:η V},ds.length=vs.length->(∀(j:Nat)(d:Dt)(v:V),ds[j]?=ς d->vs[j]?=ς v->Rep K F d v)->Reps K F ds vs
 |[],[],_,_=>by simp[Reps]
 |[],_::_,h,_=>by cases h
 |_::_,[],h,_=>by cases h
 |d::ds,v::vs,h,q=>by rwa[Reps];exact⟨v,vs,rfl,q 0 d v rfl rfl,lL ‹h› λj d v h1 h2=>q (j+1) d v ‹h1› ‹h2›⟩
theorem Br (hK:X.K=G.K) (h:aL sc "list"=θ) (hc:X.calm=θ) (hm:X.mg "list"=ψ) (ha:GE G X o fa) (e1:aY X sc) (U:qi8 o "items" X.env (eval o X.env)=eval o X.env) (Z:(apos.endLine==cpos.line)=θ) :
  GE G X (.Call (.Name "list" p) [.Call (.Attribute o "items" apos) [] [] cpos] [] pos) (eIl m fa):=
 PE.mono (dQ h (uc hc) hm rfl (bw (mQ PySem.F.plainAttrs_dict PySem.F.slot_dict_items PySem.F.type_dict_items ub ha U Z) cq rfl) e1 rfl rfl) λσ H Q hq1=>by
  have⟨Φ,δ,ch,F,ρ,c,ch',en,hf,k⟩:=hq1;have⟨q,h1,hf1⟩:=bS hf;have⟨l,h2,hf2⟩:=bS hf1;refine⟨Φ,δ,ch,F,ρ,_,_,en,h1,λv F1 H1 ρ1 a1 r1=>?_⟩;have⟨d,J1,rfl,hH,hk,hr⟩:=xf a1.gh r1.1 h2;have hlen:J1.length=l.length:=by have:=congrArg qm1 hk;simpa using this
  refine⟨.inr (.inr (.inl ⟨rfl,.inr ⟨_,hH⟩⟩)),d,J1,rfl,rfl,.inl hH,λx hx=>⟨x,d,J1,rfl,af,.inl ?_,λbs ts ls hb ht hbt nd fr hl W=>?_⟩⟩
  .rw[ai (aI hH hx)];exact hH
  have k1:=(bP a1.gh hf2 (k.adv a1)).step (Step.made (o:=vwI x d) a1.gh.fh hx);have fh1:Same F1 (upd H1 x (vwI x d)):=a1.gh.fh.trans (Same.upd hx);generalize upd H1 x (vwI x d)=H2 at hbt fr hl k1 fh1 ⊢
  have hbn:∀b∈bs,∃vs,H2 b=ς (.t vs):=λb hm=>by
   have⟨j,hj⟩:=List.getElem?_of_mem hm;have W:j<J1.length:=by rw[<- hb];exact(gX hj).1
   exact⟨_,hbt j b _ hj (gQ W)⟩
  have hb1:∀{b:J4},b∈bs->b∉ts:=λ{b} h1 h2=>by have⟨vs,e⟩:=hbn b h1;rw[fr b h2]at e;cases e
  let ps:=qt2 (λb (p:η Key×V)=>[V.ref b,p.2]) bs J1;have hpl:ps.length=ts.length:=by simp[ps,hb,ht]
  let F':Hp:=λb=>if b∈ts\/b∈bs then eJ H2 ts ps b else F1 b
  have fin:∀{b:J4},b∈ts\/b∈bs->F' b=eJ H2 ts ps b:=λh=>if_pos h
  have O:∀{b:J4},¬ (b∈ts\/b∈bs)->F' b=F1 b:=λh=>if_neg h
  have hs:=jA (ps:=ps) fr
  have ff:Same F1 F':=λb o e=>by
   by_cases h:b∈ts\/b∈bs
   .rw[fin h];exact hs _ _ (fh1 _ _ e)
   .rw[O h];exact e
  have fh':Same F' (eJ H2 ts ps):=λb o e=>by
   by_cases h:b∈ts\/b∈bs
   .rw[fin h]at e;exact e
   .rw[O h]at e;exact hs _ _ (fh1 _ _ e)
  have st:Step F1 H2 F' (eJ H2 ts ps):=⟨hs,ff,fh',λb o e=>by
   by_cases h:b∈ts\/b∈bs
   .rcases h with h|h
    .exact .inr (.inl (fr b h))
    .exact .inr (.inr (hbn b h))
   .rw[O h]at e;exact .inl e⟩
  refine bZ (k1.step st) fh' (lL (by simp[fM,ht,hlen]) λj y z h3 h4=>?_) (by rw[cC W];exact hl);unfold fM at h3;rw[qa6]at h3 h4;have⟨q,hq,rfl⟩:=mS h3;have⟨t,htt,rfl⟩:=mS h4;have hj:j<l.length:=(gX hq).1;obtain⟨p,hp⟩:∃p,J1[j]?=ς p:=⟨J1[j],gQ Θ⟩;obtain⟨b,hbj⟩:∃b,bs[j]?=ς b:=⟨bs[j],gQ Θ⟩
  have hpk:p.1=q.1:=by
   have e1:(J1.map (·.1))[j]?=ς p.1:=by rw[qa6,hp];rfl
   have e2:(l.map (·.1))[j]?=ς q.1:=by rw[qa6,hq];rfl
   rw[hk,e2]at e1;exact(qc9 e1).symm
  have⟨w,hw,rw'⟩:=hr.get (i:=j) (d:=q.2) (by rw[qa6,hq];rfl);have hwp:w=p.2:=by rw[qa6,hp]at hw;exact(qc9 hw).symm
  subst hwp;have hpj:ps[j]?=ς [V.ref b,p.2]:=by rwa[ps];rw[zc5,hbj,hp]
  rwa[Rep];refine⟨t,[V.ref b,p.2],rfl,SqT.of (by rw[fin (.inl (qa5 htt))];exact kl nd htt hpj),?_⟩;rwa[Reps];refine⟨_,_,rfl,tY ?_,_,_,rfl,rw'.same ff,rfl⟩;have hbm:=qa5 hbj;rw[fin (.inr hbm),cC (hb1 hbm),hbt j b p hbj hp,hpk]
def qF(fa fe:Fg):Fg:=λδ ch=>(fa δ ch).bind λp=>(fe δ p.2).bind λq=>match p.1 with
 |.ref i=>(cK p.2 i).bind λ_=>(cK q.2 i).bind λl=>(bY q.1).bind λj=>if 0<=j/\j<l.length/\l.length<=1000000 then(l[j.toNat]?).map λc=>(c,q.2.set i (.e (l.eraseIdx j.toNat)))else ψ
 |_=>ψ
theorem Paired.erase{α β:Type}{R:α->β->Prop}:∀{l:η α}{m:η β}(i:Nat),Paired R l m->Paired R (l.eraseIdx i) (m.eraseIdx i)
 |_,_,_,.nil=>.nil
 |_,_,0,.cons _ t=>t
 |_,_,i+1,.cons r t=>.cons r (Paired.erase i t)
theorem qG(O:0<=j)(h1:j<n):ze3 j n=ς j.toNat:=by unfold ze3;have e:(if j<0 then j+(n:Int)else j)=j:=if_neg Θ;rwa[e];rw[if_pos (by simp[O,h1])]
omit x in
theorem Bs(hx:GE G X o fa)(he:GE G X e fe)(A:AsM X o "pop" apos [e] cpos):GE G X (.Call (.Attribute o "pop" apos) [e] [] cpos) (qF fa fe):=
 PE.mono (ll PySem.F.plainAttrs_list PySem.F.slot_list_pop PySem.F.type_list_pop rY hx (bw he cq (A.star _ _ rfl).1) A.base A.few A.line (A.star _ _ rfl).1 (A.star _ _ rfl).2) λσ H Q hq2=>by
  have⟨Φ,δ,ch,F,ρ,c,ch',en,hg,k⟩:=hq2;have⟨⟨c1,ch1⟩,h1,hg1⟩:=bS hg;have⟨q,h2,U⟩:=bS hg1;cases c1 with
  |ref i=>
   have⟨l0,h3,hg3⟩:=bS U;have⟨l,h4,W⟩:=bS hg3;have⟨j,h5,O⟩:=bS W;rcases O
   rename_i hz;have⟨c',h6,e6⟩:=mS O;cases e6;refine⟨Φ,δ,ch,F,ρ,_,_,en,h1,λv F1 H1 ρ1 a1 r1=>?_⟩;have⟨vs0,q0,_⟩:=a1.gh.ok i _ (cc h3);have⟨hi,rfl⟩:=r1.1;refine⟨.inl ⟨rfl,vs0,.inl (.inl q0)⟩,Φ,δ,_,F1,ρ1,_,_,en.adv a1,h2,λw F2 H2 ρ2 a2 r2=>?_⟩;have⟨vs,q1,q2⟩:=a2.gh.ok i _ (cc h4);have Z:ρ2 i=ρ1 i:=a2.ext i hi;have hw:=cz h5 r2.1;subst hw;have⟨y,hy,ry⟩:=Paired.get q2 h6;have a3:Adv G F2 H2 ρ2 q.2 F2 _ ρ2 _:=.put (o:=.e (l.eraseIdx j.toNat)) (u:=.e (vs.eraseIdx j.toNat)) a2.gh (cc h4) trivial ⟨_,af,Paired.erase _ q2⟩;rw[Z]at q1 a3;exact⟨_,vs,j,j.toNat,y,rfl,rfl,q1,Θ,Θ,by rw[RelSs.length q2];exact qG hz.1 hz.2.1,hy,((k.adv a1).adv a2).sol a3 (ry.adv a3)⟩
  |_=>cases U
noncomputable def Bt(t:Bool):CO->ζ CO
 |.e _=>if t then ψ else ς (.e [])
 |.dK _=>if t then ς (.dK [])else ψ
 |.dT _=>if t then ς (.dT [])else ψ
 |_=>ψ
noncomputable def sCl(t:Bool)(fa:Fg):Fs:=λδ ch=>(fa δ ch).bind λp=>match p.1 with
 |.ref i=>((p.2[i]?).bind (Bt t)).map λo=>.nx δ (p.2.set i o)
 |_=>ψ
theorem ud {t:Bool} (hx:GE G X o fa) (O:qi8 o "clear" X.env (eval o X.env)=eval o X.env) (U:(apos.endLine==cpos.line)=θ) (hsw:qi9 (.Call (.Attribute o "clear" apos) [] [] cpos) ψ pos.line X.env=pure ξ) :
  GS1 G X (.Expr (.Call (.Attribute o "clear" apos) [] [] cpos) pos) (sCl t fa):=by
 cases t with
 |false=>
  refine PSBq.mono (dq (mQ PySem.F.plainAttrs_list PySem.F.slot_list_clear PySem.F.type_list_clear rZ hx O U) hsw) λD σ H hq3=>?_
  have⟨Φ,δ,ch,F,ρ,og,en,hg,k⟩:=hq3;have⟨⟨c1,ch1⟩,h1,hg1⟩:=bS hg;cases c1 with
  |ref i=>
   have⟨w,h2,e2⟩:=mS hg1;cases e2;have⟨o,ho,Z⟩:=bS h2;refine⟨Φ,δ,ch,F,ρ,_,_,en,h1,λv F1 H1 ρ1 a1 r1=>?_⟩;have⟨hi,rfl⟩:=r1.1;have W:=a1.gh.ok i o ho;cases o with
   |e l=>cases Z;have⟨vs,q1,_⟩:=W;exact⟨.inl ⟨rfl,vs,.inl (.inl q1)⟩,_,vs,rfl,rfl,q1,k σ F1 _ ρ1 ((en.adv a1).adv (.put (o:=.e []) a1.gh ho trivial ⟨_,af,.nil⟩))⟩
   |_=>cases Z
  |_=>cases hg1
 |true=>
  refine PSBq.mono (dq (mQ PySem.F.plainAttrs_dict PySem.F.slot_dict_clear PySem.F.type_dict_clear xc hx O U) hsw) λD σ H hq4=>?_
  have⟨Φ,δ,ch,F,ρ,og,en,hg,k⟩:=hq4;have⟨⟨c1,ch1⟩,h1,hg1⟩:=bS hg;cases c1 with
  |ref i=>
   have⟨w,h2,e2⟩:=mS hg1;cases e2;have⟨o,ho,Z⟩:=bS h2;refine⟨Φ,δ,ch,F,ρ,_,_,en,h1,λv F1 H1 ρ1 a1 r1=>?_⟩;have⟨hi,rfl⟩:=r1.1;have W:=a1.gh.ok i o ho;cases o with
   |dK l=>cases Z;have⟨_,J1,q1,_⟩:=W;exact⟨.inr (.inr (.inl ⟨rfl,.inl ⟨_,q1⟩⟩)),_,rfl,rfl,.inr ⟨⟨_,q1⟩,k σ F1 _ ρ1 ((en.adv a1).adv (.put (o:=.dK []) a1.gh ho trivial ⟨qw9,_,af,rfl,.nil⟩))⟩⟩
   |dT l=>cases Z;have⟨_,J1,q1,_⟩:=W;exact⟨.inr (.inr (.inl ⟨rfl,.inr ⟨_,q1⟩⟩)),_,rfl,rfl,.inl ⟨⟨_,q1⟩,k σ F1 _ ρ1 ((en.adv a1).adv (.put (o:=.dT []) a1.gh ho trivial ⟨qw9,_,af,rfl,.nil⟩))⟩⟩
   |_=>cases Z
  |_=>cases hg1
noncomputable def sCs(i:Nat):Fs:=λδ ch=>match c9 δ i with
 |some (.e _)=>ς (.nx (δ.set i (ς (.own θ (.e [])))) ch)
 |_=>ψ
def cg(ch:CH):CV->ζ (Key×CV)
 |.g (.t [k,d])=>(cO k).map λk=>(k,.g d)
 |.ref j=>match ch[j]? with
  |some (.t [.g k,c])=>(cO k).map λk=>(k,c)
  |_=>ψ
 |_=>ψ
def aO(ch:CH):η CV->ζ (η (Key×CV))
 |[]=>ς []
 |c::l=>(cg ch c).bind λp=>(aO ch l).map (p::·)
omit x in
theorem ue(g:Gh G F H ρ ch){p:Key×CV}(h:cg ch c=ς p)(r:RelS G F ρ ch.length c v):∃t u,v=.ref t/\SqT G.K H t [kV p.1,u]/\RelS G F ρ ch.length p.2 u:=by
 unfold cg at h;split at h
 .rename_i k d;have⟨kk,O,rfl⟩:=mS h;have r:Rep G.K F (.t [k,d]) v:=r;rwa[Rep,Reps]at r;have⟨t,vs,rfl,h1,x,ws,rfl,W,y,Z,rfl,U,rfl⟩:=r;have:=dz (RepB.of g.fh (show Rep G.K F _ _ from W)) O;subst this;exact⟨t,y,rfl,g.fh.tup h1,U⟩
 .rename_i j;rcases h
  rename_i k c' hj;have⟨kk,O,rfl⟩:=mS h;have⟨vs,h1,h2⟩:=g.ok j _ hj;obtain _|⟨W,_|⟨U,_|_⟩⟩:=h2;have:=dz (RepB.of g.fh (show Rep G.K F _ _ from W)) O;subst this;exact⟨_,_,r.2,SqT.of h1,U⟩
 .cases h
theorem jB(g:Gh G F H ρ ch):∀{l:η CV}{vs:η V}{ps:η (Key×CV)},aO ch l=ς ps->RelSs G F ρ ch.length l vs->∃O:η (Key×V),vs.length=O.length/\O.map (·.1)=ps.map (·.1)/\RelSs G F ρ ch.length (ps.map (·.2)) (O.map (·.2))/\∀(j:Nat)(q:Key×V),O[j]?=ς q->∃t,vs[j]?=ς (.ref t)/\SqT G.K H t [kV q.1,q.2]
 |[],_,ps,h,.nil=>by cases h;exact⟨[],rfl,rfl,.nil,λj q U=>by simp at U⟩
 |c::l,_,ps,h,.cons Z r2=>by
  have⟨p,hp,h⟩:=bS h;have⟨ps',W,rfl⟩:=mS h;have⟨t,u,rfl,h1,h2⟩:=ue g hp Z;have⟨O,q1,q2,q3,q4⟩:=jB g W r2;refine⟨(p.1,u)::O,by simp[q1],by simp[q2],.cons h2 q3,λj q U=>?_⟩;cases j with
  |zero=>simp at U;subst U;exact⟨t,rfl,h1⟩
  |succ j=>simpa using q4 j q ‹U›
noncomputable def lM(ch:CH):CV->ζ (η CV)
 |.ref i=>match ch[i]? with
  |some (.e l)=>ς l
  |some (.t l)=>ς l
  |_=>ψ
 |.g (.e l)=>ς (l.map .g)
 |.g (.t l)=>ς (l.map .g)
 |.own _ (.e l)=>ς (l.map .g)
 |_=>ψ
omit x in
theorem xg{l:η CV}(g:Gh G F H ρ ch)(r:RelC G F H ρ ch.length c v)(h:lM ch c=ς l):∃a vs b,v=.ref a/\SqB b G.K H a vs/\RelSs G F ρ ch.length l vs:=by
 unfold lM at h;split at h
 .split at h<;>cases h
  .rename_i i _ hl;have⟨vs,h1,h2⟩:=g.ok i _ hl;exact⟨_,vs,θ,r.2,SqL.of h1,h2⟩
  .rename_i i _ hl;have⟨vs,h1,h2⟩:=g.ok i _ hl;exact⟨_,vs,ξ,r.2,SqT.of h1,h2⟩
 .cases h;rwa[RelC,RelS,Rep]at r;have⟨a,vs,rfl,h1,h2⟩:=r;exact⟨a,vs,θ,rfl,g.fh.seq h1,RelSs.dats h2⟩
 .cases h;rwa[RelC,RelS,Rep]at r;have⟨a,vs,rfl,h1,h2⟩:=r;exact⟨a,vs,ξ,rfl,g.fh.tup h1,RelSs.dats h2⟩
 .cases h;have⟨a,rfl,_,⟨b,vs,e,rfl,h1,h2⟩,_⟩:=r;exact⟨_,vs,θ,rfl,SqL.of h1,RelSs.dats h2⟩
 .cases h
def km{k:Key}(h:k∉J1.map (·.1)):bH J1 k=ψ:=by
 cases q:bH J1 k with
 |none=>rfl
 |some v=>exact absurd (wg q) h
theorem dU:∀{ps J1:η (Key×V)},((J1++ps).map (·.1)).Nodup->aS J1 ps=J1++ps
 |[],J1,_=>by simp[aS]
 |p::ps,J1,h=>by
  have O:p.1∉J1.map (·.1):=λz=>by rw[qd1]at h;exact(qe1.mp h).2.2 p.1 z p.1 Ξ rfl
  rwa[aS];rw[r0 _ (km O),dU ‹h›];simp
def lN(m:Md)(ps:η (Key×CV))(ch:CH):ζ (CV×CH):=match dats (ps.map (·.2))with
 |some ds=>fin m ch (.dct ((ps.map (·.1)).zip ds))
 |none=>if(ps.map (·.2)).all CV.sol then ς (.ref ch.length,ch++[.dK ps])else ψ
def eDc(m:Md)(fa:Fg):Fg:=λδ ch=>(fa δ ch).bind λp=>(lM p.2 p.1).bind λl=>(aO p.2 l).bind λps=>if(ps.map (·.1)).Nodup then lN m ps p.2 else ψ
theorem xh{l:η (Key×Dt)}{p:J4}{Q:VK}(k:KO K F H (.dct l) Q)(O:Same F H)(U:J1.map (·.1)=l.map (·.1))(r:Reps K F (l.map (·.2)) (J1.map (·.2)))(hp:H p=ψ):Q (.ref p) (upd H p (.dK J1)):=k _ _ F (λb=>b=p) (Step.made O hp) ⟨p,J1,rfl,rfl,af,U,r⟩ λb z=>by subst z;exact⟨O.free hp,hp,_,af,nofun⟩
omit x in
theorem xi(h:aL sc "dict"=θ)(hK:X.K=G.K)(hc:X.calm=θ)(hm:X.mg "dict"=ψ)(ha:GE G X a fa)(e1:aY X sc)(he:qb1 [a] X.env=(ξ,eval a X.env)::qb1 [] X.env):GE G X (.Call (.Name "dict" p) [a] [] pos) (eDc m fa):=
 PE.mono (dQ h (nu hc) hm rfl (bw ha cq he) e1 he rfl) λσ H Q U=>by
  have⟨Φ,δ,ch,F,ρ,c,ch',en,hf,k⟩:=U;have⟨q,h1,W⟩:=bS hf;have⟨l,h2,Z⟩:=bS W;have⟨ps,h3,O⟩:=bS Z;rcases O
  rename_i nd;refine⟨Φ,δ,ch,F,ρ,_,_,en,h1,λv F1 H1 ρ1 a1 r1=>?_⟩;have⟨x,vs,b,rfl,hq,hr⟩:=xg a1.gh r1.1 h2;have⟨qs,q1,q2,q3,q4⟩:=jB a1.gh h3 hr;rw[hK];refine⟨x,vs,qs,rfl,⟨b,hq⟩,q1,q4,λy hy=>?_⟩;have e:aS [] qs=qs:=by rw[dU (by simpa[q2] using nd)];simp
  rw[e];unfold lN at O;split at O
  .rename_i ds hd;have hlen:(ps.map (·.1)).length=ds.length:=by have:=congrArg qm1 (cw hd);simpa using this
   exact xh (bP a1.gh O (k.adv a1)) a1.gh.fh (by rw[q2,qt7 Θ]) (by rw[List.map_snd_zip Θ];exact aU hd q3) hy
  .split at O<;>cases O
   exact kc (o:=.dK ps) a1.gh hy ⟨nd,qs,af,q2,q3⟩ (k.adv a1)
def rUpd:V->η V->Hp->VK->Prop:=λx vs H Q=>∃d o J1 more,x=.ref d/\vs=[.ref o]/\d≠o/\H d=ς (.dK J1)/\H o=ς (.dK more)/\J1.length+more.length<=qa4/\Q .non (upd H d (.dK (aS J1 more)))
theorem im:∀(ps J1:η (Key×Value)),merged J1 ps=cf J1 ps
 |[],J1=>rfl
 |p::ps,J1=>im ps _
def Bu:MtM X "dict.update" rUpd:=by
 intro J0 s σ H x vs v us Q I rx rv h;have⟨d,o,J1,more,rfl,rfl,Z,hd,ho,hz,q⟩:=h;cases rx;have⟨u,rfl,ru⟩:=rv.one;cases ru;have⟨z1,y1,U,k1,D1⟩:=I.hok d _ hd;have⟨z2,y2,W,k2,D2⟩:=I.hok o _ ho;have l1:=k1.length;have l2:=k2.length
 refine zb9 PySem.F.slot_dict_update (show Heap.DictOf (aq X.prog X.w) s.heap d U from D1).typeIs PySem.F.entry_dict_update (PySem.F.args_dict_update_2 _ _) (meets_dict_update (aq X.prog X.w) d o Z y2)
  ⟨U,W,D1,D2,Θ,λh' hm _ hs=>?_⟩
 have O:=KV.all k2 k1;have⟨od,es,ep,e1,rest⟩:=id hm;refine⟨.non,_,I.write (x:=d) (e:=d) (o:=.dK (aS J1 more)) (h':=h') (t':=s.toks) (by rw[hd];trivial) (.inl rfl) (λb u hb hu=>(hs.2 b hb).trans hu) ⟨od,e1⟩ ⟨?_,y1,_,O,?_⟩,rfl,q⟩
 .have:=dS more J1;lia
 .rw[<- im];exact hm
noncomputable def gm(ch:CH)(i:Nat):ζ (η (Key×CV)):=match ch[i]? with
 |some (.dK l)=>ς l
 |_=>ψ
def eM{l:η (Key×CV)}(h:gm ch i=ς l):ch[i]?=ς (.dK l):=by
 unfold gm at h;split at h<;>cases h
 assumption
def sUp(fa fe:Fg):Fs:=λδ ch=>(fa δ ch).bind λp=>(fe δ p.2).bind λq=>match p.1,q.1 with
 |.ref i,.ref j=>(gm p.2 i).bind λ_=>(gm q.2 i).bind λl=>(gm q.2 j).bind λn=>if i≠j/\((l++n).map (·.1)).Nodup/\l.length+n.length<=qa4 then ς (.nx δ (q.2.set i (.dK (l++n))))else ψ
 |_,_=>ψ
omit x in
theorem qH(hx:GE G X o fa)(he:GE G X e fe)(A:AsM X o "update" apos [e] cpos)(hsw:qi9 (.Call (.Attribute o "update" apos) [e] [] cpos) ψ pos.line X.env=pure ξ):GS1 G X (.Expr (.Call (.Attribute o "update" apos) [e] [] cpos) pos) (sUp fa fe):=
 PSBq.mono (dq (ll PySem.F.plainAttrs_dict PySem.F.slot_dict_update PySem.F.type_dict_update Bu hx (bw he cq (A.star _ _ rfl).1) A.base A.few A.line (A.star _ _ rfl).1 (A.star _ _ rfl).2) hsw) λD σ H hq7=>by
  have⟨Φ,δ,ch,F,ρ,og,en,hg,k⟩:=hq7;have⟨⟨c1,ch1⟩,h1,hg1⟩:=bS hg;have⟨⟨c2,ch2⟩,h2,hg2⟩:=bS hg1;clear hg hg1;dsimp only at h2 hg2;rcases hg2
  rename_i i j;have⟨l0,h3,hg3⟩:=bS hg2;have⟨l,h4,Z⟩:=bS hg3;have⟨n,h5,U⟩:=bS Z;split at U<;>cases U
  rename_i hz;refine⟨Φ,δ,ch,F,ρ,_,_,en,h1,λv F1 H1 ρ1 a1 r1=>?_⟩;have⟨_,vs0,q0,_⟩:=a1.gh.ok i _ (eM h3);have⟨hi,rfl⟩:=r1.1;refine⟨.inr (.inr (.inl ⟨rfl,.inl ⟨_,q0⟩⟩)),Φ,δ,_,F1,ρ1,_,_,en.adv a1,h2,λw F2 H2 ρ2 a2 r2=>?_⟩;have⟨_,O,q1,q2,q3⟩:=a2.gh.ok i _ (eM h4);have⟨_,kv2,p1,p2,p3⟩:=a2.gh.ok j _ (eM h5);have⟨hj,rfl⟩:=r2.1;have W:ρ2 i=ρ1 i:=a2.ext i hi;have e1:=xa q2;have e2:=xa p2;have ep:aS O kv2=O++kv2:=dU (by rw[qd1,q2,p2,<- qd1];exact hz.2.1);have a3:Adv G F2 H2 ρ2 ch2 F2 _ ρ2 _:=.put (o:=.dK (l++n)) (u:=.dK (O++kv2)) a2.gh (eM h4) trivial ⟨hz.2.1,_,af,by simp[q2,p2],by rw[qd1,qd1];exact Paired.app q3 p3⟩;have hne:ρ1 i≠ρ2 j:=λe=>hz.1 (a2.gh.inj i j (ak (eM h4)) hj (by rw[W,e]))
  rw[W]at q1 a3;refine⟨_,_,O,kv2,rfl,rfl,hne,q1,p1,Θ,?_⟩;rw[ep];exact k σ F2 _ ρ2 (((en.adv a1).adv a2).adv a3)
end
structure Op2 where
 op:qp7 ⊕ CmpOp
 g:Dt->Dt->Option T
 ok:∀(K:xA9)(X:Cx)(k:Nat),X.K=K->Room k X.A->fL K=θ->∃r,OpR X (match op with|.inl o=>qh7 o|.inr o=>qf1 o) r/\R2D K r g
structure Bf where
 nm:Str
 fv:String ⊕ String
 bt:qf6 nm=ς (fv.elim .builtin .type)
 g:List Dt->Option T
 ok:∀(K:xA9)(X:Cx)(k:Nat),X.K=K->X.calm=θ->Room k X.A->∃r,CallR X (fv.elim .builtin .type) r/\CRD K r g
structure Ms where
 nm:Str
 id:String
 slot:Slot "str" nm id
 ty:typeOf (.builtin id)=pure (.type "method_descriptor")
 g:Dt->List Dt->Option T
 ok:∀(K:xA9)(X:Cx),X.K=K->∃r,MtR X id r/\MRD K r g
structure Ia where
 op:qp7
 f:Int->Int->Int
 ok:∀X:Cx,PIp X op (ipI f)
set_option backward.match.sparseCases false
inductive E where
 |k (d:Dt)|v (i:Nat)|g (j:Nat)
 |b2 (o:Op2) (m:Md) (a b:E)
 |nt (a:E)|ng (a:E)|an (a b:E)|cd (c a b:E)
 |tr (a:E)|tn (a:E)|ta (a b:E)|to (a b:E)
 |bn (o:Bf) (m:Md) (as:E)|ii (c:String) (a:E)|ms (o:Ms) (m:Md) (a as:E)|gt (a k e:E)
 |ca (j:Nat) (as:E)|me (j:Nat) (o as:E)|mk (j:Nat) (as:E)
 |at (c f:Nat) (o:E)|ix (a b:E)|sl (m:Md) (a lo hi:E)|no
 |ls (m:Md) (as:E)|tu (as:E)|dn (m:Md) (t:Bool)|il (m:Md) (a:E)|pp (a b:E)|dc (m:Md) (a:E)
 |co (m:Md) (src:List (Option Nat)) (pt:Pt) (it c e:E)|ys
 |it (a:E)|rg (as:E)|en (a:E)
 |nil|cons (a as:E)
inductive En where
 |fn (x:Str) (n:Nat) (F:Fd)|fd (x:Str) (n:Nat) (d:Int) (F:Fd)|me (c:Nat) (m:Str) (n:Nat) (F:Fd)|mk (c:Nat) (n:Nat) (F:Fd)
structure Tb where
 f:List En
 gc:List (Str×Dt)
noncomputable def nF:Fg:=λ_ _=>ψ
noncomputable def aDf(d:Int)(fs:FM (η CV)):FM (η CV):=λδ ch=>(fs δ ch).map λp=>(p.1++[.g (.int d)],p.2)
noncomputable def uf:E->Nat
 |.cons _ as=>uf as+1
 |_=>0
noncomputable def gcE:ζ (Str×Dt)->Fg
 |some p=>eK p.2
 |none=>nF
def caE(as:FM (η CV)):ζ En->Fg
 |some (.fn _ n F)=>eCa n F as
 |some (.fd _ n d F)=>eCa n F (aDf d as)
 |_=>nF
def meE(o:Fg)(as:FM (η CV)):ζ En->Fg
 |some (.me c _ n F)=>eMe c n F o as
 |_=>nF
def mkE(as:FM (η CV)):ζ En->Fg
 |some (.mk c n F)=>eMk c n F as
 |_=>nF
mutual
def evE(tb:Tb):E->Fg
 |.k d=>eK d
 |.v i=>eV i
 |.g j=>gcE tb.gc[j]?
 |.b2 o m a b=>e2 m o.g (evE tb a) (evE tb b)
 |.nt a=>eNt (evE tb a)
 |.ng a=>eNg (evE tb a)
 |.an a b=>eAn (evE tb a) (evE tb b)
 |.cd c a b=>eIf (evT tb c) (evE tb a) (evE tb b)
 |.bn o m as=>eB m o.g (evA tb as)
 |.ii c a=>eIs c (evE tb a)
 |.ms o m a as=>eMt m o.g (evE tb a) (evA tb as)
 |.gt a k e=>eGt (evE tb a) (evE tb k) (evE tb e)
 |.ca j as=>caE (evA tb as) tb.f[j]?
 |.me j o as=>meE (evE tb o) (evA tb as) tb.f[j]?
 |.mk j as=>mkE (evA tb as) tb.f[j]?
 |.at c f o=>eAt c f (evE tb o)
 |.ix a b=>eIx (evE tb a) (evE tb b)
 |.sl m a lo hi=>eSl m (evE tb a) (evO tb lo) (evO tb hi)
 |.ls m as=>eLs m (evA tb as)
 |.tu as=>eTu (evA tb as)
 |.dn m t=>eDn m t
 |.il m a=>eIl m (evE tb a)
 |.pp a b=>qF (evE tb a) (evE tb b)
 |.dc m a=>eDc m (evE tb a)
 |.co m src pt it c e=>eCo m src (evI tb it) (bnd pt) (evT tb c) (evE tb e)
 |_=>nF
def evO(tb:Tb):E->ζ Fg
 |.no=>ψ
 |.cons a _=>ς (evE tb a)
 |_=>ς nF
def evT(tb:Tb):E->FM Bool
 |.tr (.b2 o m a b)=>aZ (e2 m o.g (evE tb a) (evE tb b))
 |.tr a=>bJ (evE tb a)
 |.tn a=>tNt (evT tb a)
 |.ta a b=>tAn (evT tb a) (evT tb b)
 |.to a b=>iS (evT tb a) (evT tb b)
 |.ys=>tYs
 |_=>λ_ _=>ψ
def evA(tb:Tb):E->FM (η CV)
 |.nil=>aNl
 |.cons a as=>aCn (evE tb a) (evA tb as)
 |_=>λ_ _=>ψ
def evI(tb:Tb):E->FM (η Dt)
 |.it a=>iE (evE tb a)
 |.rg as=>iR (uf as) (evA tb as)
 |.en a=>iN (evE tb a)
 |_=>λ_ _=>ψ
end
inductive S where
 |nil|sq (s ss:S)|fz (i:Nat) (ss:S)
 |set (i:Nat) (e:E)|un (pt:Pt) (e:E)|put (a k e:E)|fl (c f:Nat) (o e:E)|fa (c f:Nat) (o:Ia) (a e:E)|au (i:Nat) (o:Ia) (e:E)
 |dr (e:E)|ap (a e:E)|aps (i:Nat) (e:E)|cl (t:Bool) (a:E)|up (a e:E)
 |rt (e:E)|rn
 |cd (c:E) (a b:S)|fo (pt:Pt) (it:E) (b:S)|wh (n:Nat) (c:E) (b:S)
def evS(tb:Tb):S->Fs
 |.nil=>ax
 |.sq s ss=>aj (evS tb s) (evS tb ss)
 |.fz i ss=>sFz i (evS tb ss)
 |.set i e=>bC i (evE tb e)
 |.un pt e=>sUn pt (evE tb e)
 |.put a k e=>sPt (evE tb a) (evE tb k) (evE tb e)
 |.fl c f o e=>sFl c f (evE tb o) (evE tb e)
 |.fa c f o a e=>sFa c f o.f (evE tb a) (evE tb e)
 |.au i o e=>sAu i o.f (evE tb e)
 |.dr e=>sDr (evE tb e)
 |.ap a e=>sAp (evE tb a) (evE tb e)
 |.aps i e=>sAs i (evE tb e)
 |.cl t a=>sCl t (evE tb a)
 |.up a e=>sUp (evE tb a) (evE tb e)
 |.rt e=>sRt (evE tb e)
 |.rn=>sRn
 |.cd c a b=>sIf (evT tb c) (evS tb a) (evS tb b)
 |.fo pt it b=>lH (evI tb it) (bnd pt) (evS tb b)
 |.wh n c b=>whZ (evT tb c) (evS tb b) n
section
variable{tb:Tb}
def zk0{d}:evE tb (.k d)=eK d:=rfl
def zk1{i}:evE tb (.v i)=eV i:=rfl
def zk2{j}:evE tb (.g j)=gcE tb.gc[j]?:=rfl
def zk3{o m a b}:evE tb (.b2 o m a b)=e2 m o.g (evE tb a) (evE tb b):=rfl
def zk4{a}:evE tb (.nt a)=eNt (evE tb a):=rfl
def zk5{a}:evE tb (.ng a)=eNg (evE tb a):=rfl
def zk6{a b}:evE tb (.an a b)=eAn (evE tb a) (evE tb b):=rfl
def zk7{c a b}:evE tb (.cd c a b)=eIf (evT tb c) (evE tb a) (evE tb b):=rfl
def zk8{o m x}:evE tb (.bn o m x)=eB m o.g (evA tb x):=rfl
def zk9{c a}:evE tb (.ii c a)=eIs c (evE tb a):=rfl
def zk10{o m a x}:evE tb (.ms o m a x)=eMt m o.g (evE tb a) (evA tb x):=rfl
def zk11{a k e}:evE tb (.gt a k e)=eGt (evE tb a) (evE tb k) (evE tb e):=rfl
def zk12{j x}:evE tb (.ca j x)=caE (evA tb x) tb.f[j]?:=rfl
def zk13{j o x}:evE tb (.me j o x)=meE (evE tb o) (evA tb x) tb.f[j]?:=rfl
def zk14{j x}:evE tb (.mk j x)=mkE (evA tb x) tb.f[j]?:=rfl
def zk15{c f o}:evE tb (.at c f o)=eAt c f (evE tb o):=rfl
def zk16{a b}:evE tb (.ix a b)=eIx (evE tb a) (evE tb b):=rfl
def zk17{m a l h}:evE tb (.sl m a l h)=eSl m (evE tb a) (evO tb l) (evO tb h):=rfl
def zk18{m x}:evE tb (.ls m x)=eLs m (evA tb x):=rfl
def zk19{x}:evE tb (.tu x)=eTu (evA tb x):=rfl
def zk20{m t}:evE tb (.dn m t)=eDn m t:=rfl
def zk21{m a}:evE tb (.il m a)=eIl m (evE tb a):=rfl
def zk22{a b}:evE tb (.pp a b)=qF (evE tb a) (evE tb b):=rfl
def zk23{m a}:evE tb (.dc m a)=eDc m (evE tb a):=rfl
def zk24{m s p i c e}:evE tb (.co m s p i c e)=eCo m s (evI tb i) (bnd p) (evT tb c) (evE tb e):=rfl
def zk25:evO tb .no=ψ:=rfl
def zk26{a b}:evO tb (.cons a b)=ς (evE tb a):=rfl
def zk27{o m a b}:evT tb (.tr (.b2 o m a b))=aZ (e2 m o.g (evE tb a) (evE tb b)):=rfl
def zk28{j x}:evT tb (.tr (.ca j x))=bJ (evE tb (.ca j x)):=rfl
def zk29{c a}:evT tb (.tr (.ii c a))=bJ (evE tb (.ii c a)):=rfl
def zk30{a b}:evT tb (.tr (.ix a b))=bJ (evE tb (.ix a b)):=rfl
def zk31{j o x}:evT tb (.tr (.me j o x))=bJ (evE tb (.me j o x)):=rfl
def zk32{a}:evT tb (.tn a)=tNt (evT tb a):=rfl
def zk33{a b}:evT tb (.ta a b)=tAn (evT tb a) (evT tb b):=rfl
def zk34{a b}:evT tb (.to a b)=iS (evT tb a) (evT tb b):=rfl
def zk35:evT tb .ys=tYs:=rfl
def zk36:evA tb .nil=aNl:=rfl
def zk37{a x}:evA tb (.cons a x)=aCn (evE tb a) (evA tb x):=rfl
def zk38{a}:evI tb (.it a)=iE (evE tb a):=rfl
def zk39{x}:evI tb (.rg x)=iR (uf x) (evA tb x):=rfl
def zk40{a}:evI tb (.en a)=iN (evE tb a):=rfl
def zk41:evS tb .nil=ax:=rfl
def zk42{s ss}:evS tb (.sq s ss)=aj (evS tb s) (evS tb ss):=rfl
def zk43{i ss}:evS tb (.fz i ss)=sFz i (evS tb ss):=rfl
def zk44{i e}:evS tb (.set i e)=bC i (evE tb e):=rfl
def zk45{pt e}:evS tb (.un pt e)=sUn pt (evE tb e):=rfl
def zk46{a k e}:evS tb (.put a k e)=sPt (evE tb a) (evE tb k) (evE tb e):=rfl
def zk47{c f o e}:evS tb (.fl c f o e)=sFl c f (evE tb o) (evE tb e):=rfl
def zk48{c f o a e}:evS tb (.fa c f o a e)=sFa c f o.f (evE tb a) (evE tb e):=rfl
def zk49{i o e}:evS tb (.au i o e)=sAu i o.f (evE tb e):=rfl
def zk50{e}:evS tb (.dr e)=sDr (evE tb e):=rfl
def zk51{a e}:evS tb (.ap a e)=sAp (evE tb a) (evE tb e):=rfl
def zk52{i e}:evS tb (.aps i e)=sAs i (evE tb e):=rfl
def zk53{t a}:evS tb (.cl t a)=sCl t (evE tb a):=rfl
def zk54{a e}:evS tb (.up a e)=sUp (evE tb a) (evE tb e):=rfl
def zk55{e}:evS tb (.rt e)=sRt (evE tb e):=rfl
def zk56:evS tb .rn=sRn:=rfl
def zk57{c a b}:evS tb (.cd c a b)=sIf (evT tb c) (evS tb a) (evS tb b):=rfl
def zk58{pt it b}:evS tb (.fo pt it b)=lH (evI tb it) (bnd pt) (evS tb b):=rfl
def zk59{n c b}:evS tb (.wh n c b)=whZ (evT tb c) (evS tb b) n:=rfl
end
end L2
namespace L2
open PySem PySem.Spec PyProof.Rows
def noT{p:Prop}(h:ξ=θ):p:=by cases h
structure Lw where
 bl:List Str
 ct:List (Str×List Str)
 ks:List String
structure Sc where
 sc:J9
 N:List Str
noncomputable def cst(e:J8):Dt->Bool
 |.int j=>(match e with|.Constant (.int i) _ _=>i==j|_=>ξ)
 |.str y=>(match e with|.Constant (.str x) _ _=>x==y|_=>ξ)
 |.bl c=>(match e with|.Constant (.bool b) _ _=>b==c|_=>ξ)
 |.non=>(match e with|.Constant .none _ _=>θ|_=>ξ)
 |_=>ξ
noncomputable def aC:J8->Bool
 |.Starred _ _=>ξ
 |_=>θ
noncomputable def aR:J8->Bool
 |.Call (.Name _ _) [] [] _=>ξ
 |_=>θ
noncomputable def gx:J8->Bool
 |.Slice _ _ _ _=>ξ
 |_=>θ
noncomputable def io:J8->Bool
 |.ListComp _ _ _ _|.SetComp _ _ _ _|.DictComp _ _ _ _ _=>ξ
 |_=>θ
noncomputable def ug:J8->Bool
 |.Set _ _ _=>ξ
 |_=>θ
noncomputable def Do:J8->Bool
 |.Tuple _ _ _|.List _ _=>ξ
 |_=>θ
variable{m:Str}{n:Nat}{apos:Pos}
section
variable{e o:J8}{es:η J8}{env:Env}{pos:Pos}
def aD(h:aC e=θ):qb1 (e::es) env=(ξ,eval e env)::qb1 es env:=by cases e<;>first|rfl|exact noT h
theorem bf:∀{es:η J8},es.all aC=θ->(qh6 pos (qb1 es env)).any (·.1)=ξ
 |[],_=>rfl
 |e::es,h=>by rwa[qc7,qa1]at h;rw[aD h.1];show(ξ||(qh6 pos (qb1 es env)).any (·.1))=ξ;rw[bf h.2];rfl
theorem lP:∀{es:η J8},es.all aC=θ->(qh6 pos (qb1 es env)).all (λx=>!x.1)=θ
 |[],_=>rfl
 |e::es,h=>by rwa[qc7,qa1]at h;rw[aD h.1];show(!false&&(qh6 pos (qb1 es env)).all (λx=>!x.1))=θ;rw[lP h.2];rfl
def base_of(h:aR o=θ):qi8 o m env (eval o env)=eval o env:=by
 cases o with
 |Call f a k p=>cases f<;>cases a<;>cases k<;>first|rfl|exact noT h
 |_=>rfl
def ny(h:gx e=θ):jP e:=λa i=>by cases e<;>first|rfl|exact noT h
def ip{t:ζ J8}(h:io e=θ):qi9 e t n env=pure ξ:=by cases e<;>first|rfl|exact noT h
def kq(h:ug e=θ)(x:Value):qh3 e env x=pure x:=by cases e<;>first|rfl|exact noT h
theorem kr (h:es.all aC=θ) (O:es.length<30):((qh6 pos (qb1 es env)).all (λx=>!x.1)&&(qo9 pos (qi4 [] env)).all (λx=>x.1.isSome)
      && decide (es.length+([]:η qw8).length+(if([]:η qw8).isEmpty then 0 else 1)<30))=θ:=by
 rw[lP h];rwa[qg6,zf9,qr9];rw[show(qo9 pos (qi4 [] env)).all (λx=>x.1.isSome)=θ from rfl,qr9];exact decide_eq_true O
def qI (hb:aR o=θ) (W:es.all aC=θ) (U:es.length<30) (hl:(apos.endLine==pos.line)=θ) :
  ∃pl,eval (.Call (.Attribute o m apos) es [] pos) env=(do
   let ov <- eval o env
   qw6 apos.atName
   let (f,first) <- qp1 [ov] (qu6 ov m pl)
   zc8 pos f first (qh6 pos (qb1 es env)) (qo9 pos (qi4 [] env))):=by
 refine⟨do return (<- importBound o env).getD θ,?_⟩;have O:methodCallForm (es.length+([]:η qw8).length) (qh6 pos (qb1 es env)) (qo9 pos (qi4 [] env))=θ:=kr W U;rw[PySem.arm_eval_Call,base_of hb];unfold methodCall;rw[O];unfold calleeOf methodCallPos;rwa[hl,ze7,ze4,if_true,qy4]
end
def fNm(c:Sc)(inn:Bool)(i:Nat):J8->Bool
 |.Name x _=>b6 c.sc c.N i x&&(if inn then loOk c.sc x else iO c.sc x)
 |_=>ξ
def xj(c:Sc)(inn:Bool):η Nat->η J8->Bool
 |[],[]=>θ
 |i::is,e::es=>fNm c inn i e&&xj c inn is es
 |_,_=>ξ
def fP(c:Sc)(inn:Bool):Pt->J8->Bool
 |.one i,e=>fNm c inn i e
 |.many is,.Tuple es _ _=>xj c inn is es
 |_,_=>ξ
noncomputable def bp(sc:J9):η Str:=sc.names.filterMap λy=>if y.2==.local||y.2==.cell||y.2==.free then ς y.1 else ψ
noncomputable def yX:J8->Bool
 |.Tuple _ _ _=>θ
 |_=>ξ
noncomputable def nz:J8->Bool
 |.UnaryOp .Not _ _|.BoolOp _ _ _|.IfExp _ _ _ _|.Compare _ _ _ _=>ξ
 |_=>θ
noncomputable def yY:E->Bool
 |.b2 _ _ _ _=>ξ
 |_=>θ
noncomputable def isYs:E->Bool
 |.ys=>θ
 |_=>ξ
variable{l:η J8}
section
variable{e:J8}{st:J6}
noncomputable def dxN(e:J8)(k:Str->Bool):Bool:=match e with|.Name x _=>k x|_=>ξ
def dxN.of{k:Str->Bool}(h:dxN e k=θ):∃x p,e=.Name x p/\k x=θ:=by cases e<;>first|exact⟨_,_,rfl,h⟩|exact noT h
noncomputable def dxC(e:J8)(k:J8->η J8->Pos->Bool):Bool:=match e with|.Call f ys [] p=>k f ys p|_=>ξ
def dxC.of{k:J8->η J8->Pos->Bool}(h:dxC e k=θ):∃f ys p,e=.Call f ys [] p/\k f ys p=θ:=by
 cases e with
 |Call f ys ks p=>cases ks<;>first|exact⟨_,_,_,rfl,h⟩|exact noT h
 |_=>exact noT h
noncomputable def dxA(e:J8)(k:J8->Str->Pos->Bool):Bool:=match e with|.Attribute x m p=>k x m p|_=>ξ
theorem dxA.of{k:J8->Str->Pos->Bool}(h:dxA e k=θ):∃x m p,e=.Attribute x m p/\k x m p=θ:=by cases e<;>first|exact⟨_,_,_,rfl,h⟩|exact noT h
noncomputable abbrev dxF(e:J8)(k:Str->η J8->Bool):Bool:=dxC e λf ys _=>dxN f λx=>k x ys
theorem dxF.of{k:Str->η J8->Bool}(h:dxF e k=θ):∃x q ys p,e=.Call (.Name x q) ys [] p/\k x ys=θ:=by have⟨f,ys,p,rfl,h⟩:=dxC.of h;have⟨x,q,rfl,h⟩:=dxN.of h;exact⟨x,q,ys,p,rfl,h⟩
noncomputable abbrev dxM(e:J8)(k:J8->Str->Pos->η J8->Pos->Bool):Bool:=dxC e λf ys p=>dxA f λx m ap=>k x m ap ys p
theorem dxM.of{k:J8->Str->Pos->η J8->Pos->Bool}(h:dxM e k=θ):∃x m ap ys p,e=.Call (.Attribute x m ap) ys [] p/\k x m ap ys p=θ:=by have⟨f,ys,p,rfl,h⟩:=dxC.of h;have⟨x,m,q,rfl,h⟩:=dxA.of h;exact⟨x,m,q,ys,p,rfl,h⟩
noncomputable def dxP(e:J8)(k:J8->qp7->J8->Bool):Bool:=match e with|.BinOp l o r _=>k l o r|_=>ξ
theorem dxP.of{k:J8->qp7->J8->Bool}(h:dxP e k=θ):∃l o r p,e=.BinOp l o r p/\k l o r=θ:=by cases e<;>first|exact⟨_,_,_,_,rfl,h⟩|exact noT h
noncomputable def dxV(l:η J8)(k:J8->Bool):Bool:=match l with|[x]=>k x|_=>ξ
def dxV.of{k:J8->Bool}(h:dxV l k=θ):∃x,l=[x]/\k x=θ:=by
 cases l with
 |nil=>exact noT h
 |cons x l=>cases l<;>first|exact⟨_,rfl,h⟩|exact noT h
noncomputable def dxW(l:η J8)(k:J8->J8->Bool):Bool:=match l with|x::l=>dxV l (k x)|_=>ξ
def dxW.of{k:J8->J8->Bool}(h:dxW l k=θ):∃x y,l=[x,y]/\k x y=θ:=by
 cases l with
 |nil=>exact noT h
 |cons x l=>have⟨y,rfl,h⟩:=dxV.of h;exact⟨x,y,rfl,h⟩
noncomputable def dxQ(e:J8)(k:J8->CmpOp->J8->Bool):Bool:=match e with|.Compare l [o] rs _=>dxV rs (k l o)|_=>ξ
def dxQ.of{k:J8->CmpOp->J8->Bool}(h:dxQ e k=θ):∃l o r p,e=.Compare l [o] [r] p/\k l o r=θ:=by
 cases e with
 |Compare l O rs p=>
  cases O with
  |nil=>exact noT h
  |cons o O=>
   cases O with
   |nil=>have⟨y,rfl,h⟩:=dxV.of h;exact⟨_,_,_,_,rfl,h⟩
   |cons _ _=>exact noT h
 |_=>exact noT h
noncomputable def dxU(b:Bool)(e:J8)(k:J8->Bool):Bool:=match e with|.UnaryOp .Not x _=>b&&k x|.UnaryOp .USub x _=>!b&&k x|_=>ξ
def dxU.of{b:Bool}{k:J8->Bool}(h:dxU b e k=θ):∃x p,e=.UnaryOp (if b then .Not else .USub) x p/\k x=θ:=by
 cases e with
 |UnaryOp o x p=>cases o<;>cases b<;>first|exact⟨_,_,rfl,h⟩|exact noT h
 |_=>exact noT h
noncomputable def dxB(b:Bool)(e:J8)(k:J8->J8->Bool):Bool:=match e with
 |.BoolOp o (x::y::l) p=>(match o with|.And=>b|.Or=>!b)&&(match l with|[]=>k x y|z::r=>k x (.BoolOp o (y::z::r) p))
 |_=>ξ
theorem dxB.of{b:Bool}{k:J8->J8->Bool}(h:dxB b e k=θ):∃x y l p,e=.BoolOp (if b then .And else .Or) (x::y::l) p/\((l=[]/\k x y=θ)\/∃z r,l=z::r/\k x (.BoolOp (if b then .And else .Or) (y::z::r) p)=θ):=by
 cases e with
 |BoolOp o vs p=>
  cases vs with
  |nil=>exact noT h
  |cons x vs=>
   cases vs with
   |nil=>exact noT h
   |cons y l=>cases o<;>cases b<;>cases l<;>first|exact⟨_,_,_,_,rfl,.inl ⟨rfl,h⟩⟩|exact⟨_,_,_,_,rfl,.inr ⟨_,_,rfl,h⟩⟩|exact noT h
 |_=>exact noT h
noncomputable def dxI(e:J8)(k:J8->J8->J8->Bool):Bool:=match e with|.IfExp x y z _=>k x y z|_=>ξ
theorem dxI.of{k:J8->J8->J8->Bool}(h:dxI e k=θ):∃x y z p,e=.IfExp x y z p/\k x y z=θ:=by cases e<;>first|exact⟨_,_,_,_,rfl,h⟩|exact noT h
noncomputable def dxS(e:J8)(k:J8->J8->Pos->Bool):Bool:=match e with|.Subscript x y p=>k x y p|_=>ξ
theorem dxS.of{k:J8->J8->Pos->Bool}(h:dxS e k=θ):∃x y p,e=.Subscript x y p/\k x y p=θ:=by cases e<;>first|exact⟨_,_,_,rfl,h⟩|exact noT h
noncomputable def dxZ(e:J8)(k:ζ J8->ζ J8->Bool):Bool:=match e with|.Slice l h ψ _=>k l h|_=>ξ
def dxZ.of{k:ζ J8->ζ J8->Bool}(h:dxZ e k=θ):∃x y p,e=.Slice x y ψ p/\k x y=θ:=by
 cases e with
 |Slice x y z p=>cases z<;>first|exact⟨_,_,_,rfl,h⟩|exact noT h
 |_=>exact noT h
noncomputable def dxL(e:J8)(k:η J8->Bool):Bool:=match e with|.List ys _=>k ys|_=>ξ
def dxL.of{k:η J8->Bool}(h:dxL e k=θ):∃ys p,e=.List ys p/\k ys=θ:=by cases e<;>first|exact⟨_,_,rfl,h⟩|exact noT h
noncomputable def dxT(e:J8)(k:η J8->Bool):Bool:=match e with|.Tuple ys _ _=>k ys|_=>ξ
theorem dxT.of{k:η J8->Bool}(h:dxT e k=θ):∃ys q p,e=.Tuple ys q p/\k ys=θ:=by cases e<;>first|exact⟨_,_,_,rfl,h⟩|exact noT h
noncomputable def dxD(e:J8):Bool:=match e with|.Dict [] [] _=>θ|_=>ξ
def dxD.of(h:dxD e=θ):∃p,e=.Dict [] [] p:=by
 cases e with
 |Dict a b p=>cases a<;>cases b<;>first|exact⟨_,rfl⟩|exact noT h
 |_=>exact noT h
noncomputable def dxK(e:J8)(k:J8->J8->J8->η J8->J9->Bool):Bool:=match e with|.ListComp elt [⟨tg,iter,ifs,n⟩] scope _=>(n==0)&&k elt tg iter ifs scope|_=>ξ
theorem dxK.of{k:J8->J8->J8->η J8->J9->Bool}(h:dxK e k=θ):∃elt tg iter ifs scope p,e=.ListComp elt [⟨tg,iter,ifs,0⟩] scope p/\k elt tg iter ifs scope=θ:=by
 cases e with
 |ListComp elt gs scope p=>
  cases gs with
  |nil=>exact noT h
  |cons g gs=>
   have⟨tg,iter,ifs,n⟩:=g;cases gs with
   |nil=>have⟨q,h⟩:=qc0.mp h;obtain rfl:=beq_iff_eq.mp q;exact⟨_,_,_,_,_,_,rfl,h⟩
   |cons _ _=>exact noT h
 |_=>exact noT h
noncomputable def dxO{α:Type}(o:ζ α)(k:α->Bool):Bool:=match o with|some x=>k x|none=>ξ
def dxO.of{α:Type}{o:ζ α}{k:α->Bool}(h:dxO o k=θ):∃x,o=ς x/\k x=θ:=by cases o<;>first|exact⟨_,rfl,h⟩|exact noT h
end
noncomputable def caOk(x:Str)(ys:η J8):En->Bool
 |.fn y _ _=>y==x
 |.fd y _ _ _=>(y==x)&&!ys.isEmpty
 |_=>ξ
noncomputable def meOk(L:Lw)(m:Str):En->Bool
 |.me cl y _ _=>(y==m)&&dxO L.ct[cl]? λq=>!(q.2.contains m)
 |_=>ξ
noncomputable def mkOk(L:Lw)(x:Str):En->Bool
 |.mk cl _ _=>dxO L.ct[cl]? λq=>q.1==x
 |_=>ξ
mutual
def fE(L:Lw)(tb:Tb)(c:Sc):E->J8->Bool
 |.k d,e=>cst e d
 |.v i,e=>dxN e λx=>b6 c.sc c.N i x
 |.g j,e=>dxN e λx=>aL c.sc x&&dxO tb.gc[j]? λp=>p.1==x
 |.b2 o _ a b,e=>(match o.op with
  |.inl op=>dxP e λl op' r=>decide (op'=op)&&fE L tb c a l&&fE L tb c b r
  |.inr op=>dxQ e λl op' r=>decide (op'=op)&&!behindInMarks op' r&&fE L tb c a l&&fE L tb c b r)
 |.nt a,e=>dxU θ e λx=>fE L tb c a x
 |.ng a,e=>dxU ξ e λx=>fE L tb c a x
 |.an a b,e=>dxB θ e λx y=>fE L tb c a x&&fE L tb c b y
 |.cd t a b,e=>dxI e λx y z=>fT L tb c t x&&fE L tb c a y&&fE L tb c b z
 |.bn o _ as,e=>dxF e λx ys=>!ys.isEmpty&&(x==o.nm)&&aL c.sc x&&L.bl.contains x&&ys.all aC&&fA L tb c as ys
 |.ii cn a,e=>dxF e λf ys=>dxW ys λx u=>dxN u λt=>(f==("isinstance":Str))&&aL c.sc f&&L.bl.contains f&&aL c.sc t&&L.bl.contains t&&(qf6 t==ς (.type cn))&&L.ks.contains cn&&aC x&&fE L tb c a x
 |.ms o _ a as,e=>dxM e λx m ap ys p=>!ys.isEmpty&&(m==o.nm)&&(ap.endLine==p.line)&&aR x&&ys.all aC&&decide (ys.length<30)&&fE L tb c a x&&fA L tb c as ys
 |.gt a k d,e=>dxM e λx m ap ys p=>dxW ys λy z=>(m==("get":Str))&&(ap.endLine==p.line)&&aR x&&aC y&&aC z&&fE L tb c a x&&fE L tb c k y&&fE L tb c d z
 |.ca j as,e=>dxF e λx ys=>dxO tb.f[j]? (caOk x ys)&&aL c.sc x&&ys.all aC&&fA L tb c as ys
 |.me j o as,e=>dxM e λx m ap ys p=>dxO tb.f[j]? (meOk L m)&&(ap.endLine==p.line)&&aR x&&ys.all aC&&decide (ys.length<30)&&fE L tb c o x&&fA L tb c as ys
 |.mk j as,e=>dxF e λx ys=>dxO tb.f[j]? (mkOk L x)&&aL c.sc x&&ys.all aC&&fA L tb c as ys
 |.at cl f o,e=>dxA e λx fn _=>(dxO L.ct[cl]? λq=>decide (q.2[f]?=ς fn))&&aR x&&fE L tb c o x
 |.ix a b,e=>dxS e λx y _=>gx y&&fE L tb c a x&&fE L tb c b y
 |.sl _ a lo hi,e=>dxS e λx y _=>dxZ y λl h=>fE L tb c a x&&fO L tb c lo l&&fO L tb c hi h
 |.ls _ as,e=>dxL e λys=>ys.all aC&&fA L tb c as ys
 |.tu as,e=>dxT e λys=>ys.all aC&&fA L tb c as ys
 |.dn _ _,e=>dxD e
 |.il _ a,e=>dxF e λx ys=>dxV ys λz=>dxM z λy m ap zs cp=>zs.isEmpty&&(x==("list":Str))&&aL c.sc x&&L.bl.contains x&&(m==("items":Str))&&(ap.endLine==cp.line)&&aR y&&fE L tb c a y
 |.pp a b,e=>dxM e λy m ap ys cp=>dxV ys λz=>(m==("pop":Str))&&(ap.endLine==cp.line)&&aR y&&aC z&&fE L tb c a y&&fE L tb c b z
 |.dc _ a,e=>dxF e λx ys=>dxV ys λy=>(x==("dict":Str))&&aL c.sc x&&L.bl.contains x&&aC y&&fE L tb c a y
 | .co _ src pt it t a,e=>dxK e λelt tg iter ifs scope=>su c.N c.sc scope ((bp scope).drop 1) src&&fI L tb c it tg iter&&ug iter&&fP ⟨cU scope c.sc,(bp scope).drop 1⟩ θ pt tg&&(pt.slots.all λk=>decide (src[k]?=ς ψ))&&
     ((ifs.isEmpty&&isYs t)||dxV ifs λx=>fT L tb ⟨cU scope c.sc,(bp scope).drop 1⟩ t x)&&fE L tb ⟨cU scope c.sc,(bp scope).drop 1⟩ a elt
 |_,_=>ξ
def fO(L:Lw)(tb:Tb)(c:Sc):E->ζ J8->Bool
 |.no,o=>o.isNone
 |.cons a _,o=>dxO o λe=>fE L tb c a e
 |_,_=>ξ
def fT(L:Lw)(tb:Tb)(c:Sc):E->J8->Bool
 |.tr a,e=>if nz e then yY a&&fE L tb c a e else fTr L tb c a e
 |.tn a,e=>dxU θ e λx=>fT L tb c a x
 |.ta a b,e=>dxB θ e λx y=>fT L tb c a x&&fT L tb c b y
 |.to a b,e=>dxB ξ e λx y=>fT L tb c a x&&fT L tb c b y
 |_,_=>ξ
def fTr(L:Lw)(tb:Tb)(c:Sc):E->J8->Bool
 |.b2 o _ a b,e=>dxQ e λl op r=>decide (o.op=.inr op)&&!behindInMarks op r&&fE L tb c a l&&fE L tb c b r
 |_,_=>ξ
def fA(L:Lw)(tb:Tb)(c:Sc):E->η J8->Bool
 |.nil,es=>es.isEmpty
 |.cons a as,es=>(match es with|e::es=>fE L tb c a e&&fA L tb c as es|[]=>ξ)
 |_,_=>ξ
def fI(L:Lw)(tb:Tb)(c:Sc):E->J8->J8->Bool
 |.it a,_,e=>fE L tb c a e
 |.rg as,_,e=>dxF e λx ys=>(x==("range":Str))&&aL c.sc x&&L.bl.contains x&&ys.all aC&&decide (ys.length=uf as)&&decide (1<=ys.length)&&decide (ys.length<=1)&&fA L tb c as ys
 |.en a,tg,e=>yX tg&&dxF e λx ys=>dxV ys λy=>(x==("enumerate":Str))&&aL c.sc x&&L.bl.contains x&&aC y&&fE L tb c a y
 |_,_,_=>ξ
end
noncomputable def lev(n:Nat):Nat:=2*n
def EnP(G:Gx)(P:qe7)(w:J5)(K:xA9)(mg:Str->ζ Value)(base:Heap)(k:Nat):En->Prop
 |.fn x n F=>∃ps,OkF P w K mg base x k ps (spZ G n F)
 |.fd x n d F=>∃ps f fd t,mg x=ς (.ref f)/\xD9 K (.ref f)=θ/\Binds K fd ps [.int d t]/\FnOk P w K mg base CX0 k f fd ps (spZ G n F)
 |.me c m n F=>∀p,G.ct[c]?=ς p->∃ps,OkM P w K mg base p.1 m k ps (spZ G n F)
 |.mk c n F=>∀p,G.ct[c]?=ς p->∃ps,OkI P w K mg base p.1 k ps (spZ G n F)
abbrev EnOk(G:Gx)(X:Cx)(k:Nat):En->Prop:=EnP G X.prog X.w X.K X.mg X.base k
structure Cn(L:Lw)(tb:Tb)(G:Gx)(c:Sc)(X:Cx):Prop where
 K:X.K=G.K
 ct:G.ct=L.ct
 k2:fL G.K=θ
 sc:X.env.scope=c.sc
 N:X.N=c.N
 nd:c.N.Nodup
 calm:X.calm=θ
 room:Room (lev tb.f.length+1) X.A
 bl:∀x∈L.bl,X.mg x=ψ
 gc:∀p∈tb.gc,yP G.K X.mg p.1 p.2
 cls:∀c,jn G c
 ks:∀s∈L.ks,j8 G.K s
 f:∀e∈tb.f,EnOk G X (lev tb.f.length) e
 xe:X.xe=λ_ _=>False
variable{scope:J9}{e:J8}{x:Str}{pos cpos:Pos}{inn:Bool}{env:Env}{es:η J8}
section
variable{L:Lw}{tb:Tb}{G:Gx}{c:Sc}{X:Cx}
def Cn.rm(n:Cn L tb G c X):Room (lev tb.f.length) X.A:=n.room.mono (qi5 _)
theorem Cn.comp(n:Cn L tb G c X){M:η Str}{C:J4}{s:qa8}{H:Hp}{ex:η J4}(O:M.Nodup):Cn L tb G ⟨cU scope c.sc,M⟩ (cxC X M scope C s H ex):=⟨n.K,n.ct,n.k2,scC n.sc,rfl,O,n.calm,n.room,n.bl,n.gc,n.cls,n.ks,n.f,rfl⟩
omit x in
def Bv{X:Cx}{G:Gx}{d:Dt}(h:cst e d=θ):GE G X e (eK d):=by
 cases d<;>first|exact noT h|skip
 all_goals (cases e<;>first|exact noT h|skip)
 all_goals (rename_i k _ _;cases k<;>first|exact noT h|skip)
 .exact sT zD λ_=>oq
 .obtain rfl:=beq_iff_eq.mp h;exact sT Cv λ_=>hJ
 .obtain rfl:=beq_iff_eq.mp h;exact sT zC λ_=>ba
 .obtain rfl:=beq_iff_eq.mp h;exact sT zE λ_=>eC
def yZ(n:Cn L tb G c X){i:Nat}(h:b6 c.sc c.N i x=θ):PE X (.Name x pos) (qU i):=pvD i h n.sc n.N
def uh{i:Nat}(hi:inn=ξ->∀x,X.fn x=θ)(n:Cn L tb G c X)(h:fNm c inn i e=θ):PG X e (ei i):=by
 unfold fNm at h;rcases h
 rw[qa1]at h;cases inn with
 |true=>exact sD h.1 h.2 (by rw[n.N];exact n.nd) n.sc n.N
 |false=>exact sC h.1 h.2 n.nd n.sc n.N (.inl (hi rfl _))
theorem oP(hi:inn=ξ->∀x,X.fn x=θ)(n:Cn L tb G c X):∀{is:η Nat}{es:η J8},xj c inn is es=θ->PGs X es (tPs G (gj is) is)/\(qi3 es X.env).length=is.length/\(qi3 es X.env).findIdx? (·.1)=ψ
 |[],[],_=>⟨wS,rfl,rfl⟩
 |i::is,e::es,h=>by
  rwa[xj,qa1]at h;have⟨h1,h2,U⟩:=oP hi n h.2
  have O:qi3 (e::es) X.env=(ξ,qz4 e X.env)::qi3 es X.env:=by have h:=h.1;unfold fNm at h;split at h<;>first|(cases h;done)|rfl
  refine⟨tL (uh hi n h.1) h1 (by rw[O];rfl),by rw[O];simp[h2],?_⟩;rw[O,List.findIdx?_cons];simp[U]
 |[],e::es,h=>by cases h
 |i::is,[],h=>by cases h
omit x in
def oQ(hi:inn=ξ->∀x,X.fn x=θ)(n:Cn L tb G c X){pt:Pt}(h:fP c inn pt e=θ):GP G X e pt:=by
 cases pt with
 |one i=>exact Bj (uh hi n h)
 |many is=>
  unfold fP at h;rcases h
  .rename_i O;cases O
  .rename_i O;cases O;have⟨h1,h2,U⟩:=oP hi n h;exact wT n.K n.calm h1 h2 U
def Bw(h:nz e=θ)(O:Sem Value):isTrue e env O=(do let v <- O;qw6 e.pos;qp1 [v] (truthy v)):=by
 cases e with
 |UnaryOp op a p=>cases op<;>first|rfl|exact noT h
 |_=>first|rfl|exact noT h
theorem y8{op vs p}{t:FM Bool}(h:GT G X (.BoolOp op vs p) t):GW G X (.BoolOp op vs p) t:=λ_ J0 s σ H Q I q=>h J0 s σ H Q I q
theorem asM{o:J8}(h1:aR o=θ)(h2:es.all aC=θ)(O:es.length<30)(h4:apos.endLine=cpos.line):AsM X o m apos es cpos:=⟨base_of h1,kr h2 O,beq_iff_eq.mpr h4,λe r h=>by subst h;rwa[qc7,qa1]at h2;exact⟨aD h2.1,bf h2.2⟩⟩
theorem ui{sc:J9}{k m:Nat}{ps:η Str}{g:Fd}{f:J4}{fd:qn1}{d:Int}{t:Tok}{fs:FM (η CV)}{p:Pos}(h:aL sc x=θ)(F:FnOk X.prog X.w X.K X.mg X.base CX0 k f fd ps (spZ G m g))(hm:X.mg x=ς (.ref f))(hk:xD9 X.K (.ref f)=θ)(hb:Binds X.K fd ps [.int d t])(hr:Room k X.A)(ha:GA G X (e::es) fs)(e1:aY X sc)(he:qb1 (e::es) X.env=(ξ,eval e X.env)::qb1 es X.env)(O:(qh6 cpos (qb1 es X.env)).any (·.1)=ξ):GE G X (.Call (.Name x p) (e::es) [] cpos) (eCa m g (aDf d fs)):=PE.mono (n6 (dvs:=[.int d]) F hr (glD h e1) hm hk hb (.cons ⟨t,rfl⟩ .nil) g9 ha (cu h) he O) λσ H Q U=>by have⟨Φ,δ,ch,F,ρ,c,ch',en,hf,kk⟩:=U;have⟨q,h1,Z⟩:=bS hf;have⟨r,h2,e2⟩:=mS h1;subst e2;refine⟨Φ,δ,ch,F,ρ,r.1,r.2,en,h2,λvs F1 H1 ρ1 a1 r1=>?_⟩;exact ic (σ:=σ) ⟨Φ,δ,r.2,F1,ρ1,r.1++[.g (.int d)],c,ch',en.adv a1,Paired.app r1 (.cons (show RelC G F1 H1 ρ1 r.2.length (.g (.int d)) (.int d)from ba (K:=G.K) (F:=F1)) .nil),Z,kk.adv a1⟩
def y9{α:Type}{l:η α}(h:(!l.isEmpty)=θ):∃y r,l=y::r:=by cases l<;>first|exact⟨_,_,rfl⟩|cases h
def isYs.of{t:E}(h:isYs t=θ):t=.ys:=by cases t<;>first|rfl|exact noT h
omit x in
mutual
theorem gE:∀(a:E){c:Sc}{X:Cx}(n:Cn L tb G c X)(e:J8),fE L tb c a e=θ->GE G X e (evE tb a)
 |.k d=>λn e h=>Bv h
 |.v i=>λn e h=>by
  replace h:=dxN.of h;have⟨x,p,rfl,h⟩:=h
  exact AJ (yZ n h)
 |.g j=>λn e h=>by
  replace h:=dxN.of h;have⟨x,_,rfl,h⟩:=h
  have⟨h1,h⟩:=qc0.mp h;have⟨p,hp,h2⟩:=dxO.of h;obtain rfl:=beq_iff_eq.mp h2;show GE G _ _ (gcE tb.gc[j]?);rw[hp];have⟨v,hm,hv⟩:=n.gc p (qa5 hp);exact sT (sF h1 hm n.sc) hv
 |.b2 o m a b=>λn e h=>by
  have⟨r,o1,o2⟩:=o.ok G.K _ _ n.K n.rm n.k2
  replace h:(match o.op with|.inl op=>dxP e λl op' r=>decide (op'=op)&&fE L tb _ a l&&fE L tb _ b r|.inr op=>dxQ e λl op' r=>decide (op'=op)&&!behindInMarks op' r&&fE L tb _ a l&&fE L tb _ b r)=θ:=h
  cases q:o.op with
  |inl op=>
   rw[q]at o1 h
   replace h:=dxP.of h;have⟨l,op',r',p,rfl,h⟩:=h
   rwa[qa1,decide_eq_true_eq]at h;have⟨⟨rfl,h2⟩,h3⟩:=h;exact AK o1 o2 (gE a n _ h2) (gE b n _ h3)
  |inr op=>
   rw[q]at o1 h
   replace h:=dxQ.of h;have⟨l,op',r',p,rfl,h⟩:=h
   rwa[qa1,decide_eq_true_eq,qi7]at h;have⟨⟨⟨rfl,h0⟩,h2⟩,h3⟩:=h;exact AL o1 o2 (gE a n _ h2) (gE b n _ h3) h0
 |.nt a=>λn e h=>by
  replace h:=dxU.of h;have⟨x,p,rfl,h⟩:=h
  exact AU (gE a n _ h)
 |.ng a=>λn e h=>by
  replace h:=dxU.of h;have⟨x,p,rfl,h⟩:=h
  exact AV (gE a n _ h)
 |.an a b=>λn e h=>by
  replace h:=dxB.of h;obtain⟨x,y,l,p,rfl,⟨rfl,h⟩|⟨z,r,rfl,h⟩⟩:=h<;>replace h:=qc0.mp h
  .exact sX (gE a n _ h.1) (AT (gE b n _ h.2))
  .exact sX (gE a n _ h.1) (gE b n _ h.2)
 |.cd t a b=>λn e h=>by
  replace h:=dxI.of h;have⟨x,y,z,p,rfl,h⟩:=h
  rwa[qa1]at h;exact C9 (gT t n _ h.1.1) (gE a n _ h.1.2) (gE b n _ h.2)
 |.bn o m as=>λn e h=>by
  replace h:=dxF.of h;have⟨x,q,ys,p,rfl,h⟩:=h
  rwa[qa1,beq_iff_eq,qh5]at h;have⟨⟨⟨⟨⟨h0,rfl⟩,h2⟩,h3⟩,h4⟩,h5⟩:=h;have⟨y,ys,rfl⟩:=y9 h0;have⟨r,o1,o2⟩:=o.ok G.K _ _ n.K n.calm n.rm;have hs:=h4;rwa[qc7,qa1]at hs;have hb:=o.bt;cases q:o.fv with
  |inl id=>rw[q]at o1 hb;exact tR h2 o1 o2 (n.bl _ h3) hb (gA as n _ h5 h4) n.sc (aD hs.1) (bf hs.2)
  |inr id=>rw[q]at o1 hb;exact tS h2 o1 o2 (n.bl _ h3) hb (gA as n _ h5 h4) n.sc (aD hs.1) (bf hs.2)
 |.ii cn a=>λn e h=>by
  replace h:=dxF.of h;have⟨f,q,ys,p,rfl,h⟩:=h
  replace h:=dxW.of h;have⟨x,u,rfl,h⟩:=h
  replace h:=dxN.of h;have⟨t,p',rfl,h⟩:=h
  rwa[qa1,beq_iff_eq,qh5]at h;have⟨⟨⟨⟨⟨⟨⟨⟨rfl,h2⟩,h3⟩,h4⟩,h5⟩,h6⟩,h7⟩,h8⟩,h9⟩:=h;exact qp n.K h2 h4 (n.bl _ h3) (n.bl _ h5) h6 (by rw[n.K];exact n.ks _ h7) (gE a n _ h9) n.sc (aD h8) (aD rfl) rfl
 |.ms o m a as=>λn e h=>by
  replace h:=dxM.of h;have⟨x,m',ap,ys,p,rfl,h⟩:=h
  rwa[qa1,beq_iff_eq,decide_eq_true_eq]at h;have⟨⟨⟨⟨⟨⟨⟨h0,rfl⟩,h2⟩,h3⟩,h4⟩,h5⟩,h6⟩,h7⟩:=h;have⟨y,ys,rfl⟩:=y9 h0;have⟨r,o1,o2⟩:=o.ok G.K _ n.K;have hs:=h4;rwa[qc7,qa1]at hs;exact Bl o.slot o.ty o1 o2 (gE a n _ h6) (gA as n _ h7 h4) (base_of h3) (kr h4 h5) (beq_iff_eq.mpr h2) (aD hs.1) (bf hs.2)
 |.gt a k d=>λn e h=>by
  replace h:=dxM.of h;have⟨x,m',ap,ys,p,rfl,h⟩:=h
  replace h:=dxW.of h;have⟨y,z,rfl,h⟩:=h
  rwa[qa1,beq_iff_eq]at h;have⟨⟨⟨⟨⟨⟨⟨rfl,h2⟩,h3⟩,h4⟩,h5⟩,h6⟩,h7⟩,h8⟩:=h;exact w9 n.k2 n.rm (gE a n _ h6) (gE k n _ h7) (gE d n _ h8) ⟨base_of h3,kr (by simp[h4,h5]) (by show 2<30;decide),beq_iff_eq.mpr h2,by rw[aD h4,aD h5];rfl⟩
 |.ca j as=>λn e h=>by
  replace h:=dxF.of h;have⟨x,_,ys,_,rfl,h⟩:=h
  rwa[qa1]at h;have⟨⟨⟨h1,h2⟩,h3⟩,h4⟩:=h;have⟨en,hj,h1⟩:=dxO.of h1;cases en<;>try(cases h1;done)
  .rename_i y m F;obtain rfl:=beq_iff_eq.mp h1;show GE G _ _ (caE (evA tb as) tb.f[j]?);rw[hj];have⟨ps,ok⟩:=n.f _ (qa5 hj);cases ys with
   |nil=>
    have ha:evA tb as=aNl:=by cases as<;>first|rfl|exact noT h4
    rw[ha];exact sZ h2 ok n.rm n.sc
   |cons y ys=>have hs:=h3;rwa[qc7,qa1]at hs;exact wH h2 ok n.rm (gA as n _ h4 h3) n.sc (aD hs.1) (bf hs.2)
  .rename_i y m d F;have⟨h1,h5⟩:=qc0.mp h1;obtain rfl:=beq_iff_eq.mp h1;show GE G _ _ (caE (evA tb as) tb.f[j]?);rw[hj];have⟨ps,f,fd,t,q1,q2,q3,q4⟩:=n.f _ (qa5 hj);cases ys with
   |nil=>cases h5
   |cons z ys=>have hs:=h3;rwa[qc7,qa1]at hs;exact ui h2 q4 q1 q2 q3 n.rm (gA as n _ h4 h3) n.sc (aD hs.1) (bf hs.2)
 |.me j o as=>λn e h=>by
  replace h:=dxM.of h;have⟨x,m,ap,ys,p,rfl,h⟩:=h
  rwa[qa1,beq_iff_eq,decide_eq_true_eq]at h;have⟨⟨⟨⟨⟨⟨h1,h2⟩,h3⟩,h4⟩,h5⟩,h6⟩,h7⟩:=h;have⟨en,hj,h1⟩:=dxO.of h1;cases en<;>try(cases h1;done)
  rename_i cl y k F;have⟨h1,h8⟩:=qc0.mp h1;obtain rfl:=beq_iff_eq.mp h1;have⟨q,hq,h8⟩:=dxO.of h8;rw[<- n.ct]at hq;have hm:y∉q.2:=by simpa[qh5] using h8
  show GE G _ _ (meE (evE tb o) (evA tb as) tb.f[j]?);rw[hj];have⟨ps,ok⟩:=n.f _ (qa5 hj) q hq;have⟨pl,he⟩:=qI (m:=y) h3 h4 h5 (beq_iff_eq.mpr h2);cases ys with
  |nil=>
   have ha:evA tb as=aNl:=by cases as<;>first|rfl|exact noT h7
   rw[ha];exact tj n.K hq hm ok n.rm (gE o n _ h6) he
  |cons z ys=>have hs:=h4;rwa[qc7,qa1]at hs;exact wI n.K hq hm ok n.rm (gE o n _ h6) (gA as n _ h7 h4) (aD hs.1) (bf hs.2) he
 |.mk j as=>λn e h=>by
  replace h:=dxF.of h;have⟨x,_,ys,_,rfl,h⟩:=h
  rwa[qa1]at h;have⟨⟨⟨h1,h2⟩,h3⟩,h4⟩:=h;have⟨en,hj,h1⟩:=dxO.of h1;cases en<;>try(cases h1;done)
  rename_i cl k F;have⟨q,hq,h1⟩:=dxO.of h1;rw[<- n.ct]at hq;obtain rfl:=beq_iff_eq.mp h1;show GE G _ _ (mkE (evA tb as) tb.f[j]?);rw[hj];have⟨ps,ok⟩:=n.f _ (qa5 hj) q hq;cases ys with
  |nil=>
   have ha:evA tb as=aNl:=by cases as<;>first|rfl|exact noT h4
   rw[ha];exact tp n.K hq h2 ok n.room n.sc
  |cons z ys=>have hs:=h3;rwa[qc7,qa1]at hs;exact wJ n.K hq h2 ok n.room (gA as n _ h4 h3) n.sc (aD hs.1) (bf hs.2)
 |.at cl f o=>λn e h=>by
  replace h:=dxA.of h;have⟨x,fn,p,rfl,h⟩:=h
  rwa[qa1]at h;have⟨⟨h1,h2⟩,h3⟩:=h;have⟨q,hq,h1⟩:=dxO.of h1;rw[<- n.ct]at hq;exact Dc n.K (n.cls cl) hq (of_decide_eq_true h1) (gE o n _ h3) (base_of h2)
 |.ix a b=>λn e h=>by
  replace h:=dxS.of h;have⟨x,y,p,rfl,h⟩:=h
  rwa[qa1]at h;exact Db n.K n.k2 n.rm (gE a n _ h.1.2) (gE b n _ h.2) (ny h.1.1)
 |.sl m a lo hi=>λn e h=>by
  replace h:=dxS.of h;have⟨x,y,p,rfl,h⟩:=h
  replace h:=dxZ.of h;have⟨l,u,p',rfl,h⟩:=h
  rwa[qa1]at h;exact tQ n.K (gE a n _ h.1.1) (gO lo n _ h.1.2) (gO hi n _ h.2)
 |.ls m as=>λn e h=>by
  replace h:=dxL.of h;have⟨ys,p,rfl,h⟩:=h
  have h:=qc0.mp h;exact A6 (gA as n _ h.2 h.1)
 |.tu as=>λn e h=>by
  replace h:=dxT.of h;have⟨ys,q,p,rfl,h⟩:=h
  have h:=qc0.mp h;exact A7 (gA as n _ h.2 h.1)
 |.dn m t=>λn e h=>by have⟨p,rfl⟩:=dxD.of h;exact wZ
 |.il m a=>λn e h=>by
  replace h:=dxF.of h;have⟨x,_,ys,_,rfl,h⟩:=h
  replace h:=dxV.of h;have⟨z,rfl,h⟩:=h
  replace h:=dxM.of h;have⟨y,m',ap,zs,cp,rfl,h⟩:=h
  rwa[qa1,beq_iff_eq,qh5,qh0]at h;have⟨⟨⟨⟨⟨⟨⟨rfl,rfl⟩,h2⟩,h3⟩,rfl⟩,h5⟩,h6⟩,h7⟩:=h;exact Br n.K h2 n.calm (n.bl _ h3) (gE a n _ h7) n.sc (base_of h6) (beq_iff_eq.mpr h5)
 |.pp a b=>λn e h=>by
  replace h:=dxM.of h;have⟨y,m',ap,ys,cp,rfl,h⟩:=h
  replace h:=dxV.of h;have⟨z,rfl,h⟩:=h
  rwa[qa1,beq_iff_eq]at h;have⟨⟨⟨⟨⟨rfl,h2⟩,h3⟩,h4⟩,h5⟩,h6⟩:=h;exact Bs (gE a n _ h5) (gE b n _ h6) (asM h3 (by simp[h4]) (by show 1<30;decide) h2)
 |.dc m a=>λn e h=>by
  replace h:=dxF.of h;have⟨x,_,ys,_,rfl,h⟩:=h
  replace h:=dxV.of h;have⟨y,rfl,h⟩:=h
  rwa[qa1,beq_iff_eq,qh5]at h;have⟨⟨⟨⟨rfl,h2⟩,h3⟩,h4⟩,h5⟩:=h;exact xi h2 n.K n.calm (n.bl _ h3) (gE a n _ h5) n.sc (aD h4)
 |.co m src pt it t a=>λn e h=>by
  replace h:=dxK.of h;have⟨elt,tg,iter,ifs,scope,p,rfl,h⟩:=h
  rwa[qa1,qf2]at h;have⟨⟨⟨⟨⟨⟨h2,h3⟩,h4⟩,h5⟩,h6⟩,h7⟩,h8⟩:=h;have S:=CmpScope.of h2;refine wV (pt:=pt) (by rw[n.N,n.sc];exact S) n.calm (gI it n _ _ h3) (λnd C s H ex=>oQ (inn:=true) (nofun) (n.comp nd) h5) (λC s H ex=>?_) (λC s H ex=>gE a (n.comp S.nd) _ h8) h6 (kq h4);obtain h7|h7:=h7
  .obtain rfl:=qh0.mp h7.1;obtain rfl:=isYs.of h7.2;exact oG
  .have⟨x,rfl,h7⟩:=dxV.of h7;exact oH (gT t (n.comp S.nd) _ h7)
 |.tr _|.tn _|.ta _ _|.to _ _|.no|.ys|.it _|.rg _|.en _|.nil|.cons _ _=>λ_ _ h=>noT h
theorem gO:∀(a:E){c:Sc}{X:Cx}(n:Cn L tb G c X)(e:ζ J8),fO L tb c a e=θ->jN X e (tM G RO (fOp (evO tb a)))
 |.no=>λn o h=>by obtain rfl:=qg7.mp h;exact wX
 |.cons a b=>λn o h=>by have⟨e,rfl,h⟩:=dxO.of h;exact wY (gE a n e h)
 |.k _|.v _|.g _|.b2 _ _ _ _|.nt _|.ng _|.an _ _|.cd _ _ _|.tr _|.tn _|.ta _ _|.to _ _|.bn _ _ _|.ii _ _|.ms _ _ _ _|.gt _ _ _|.ca _ _|.me _ _ _|.mk _ _|.at _ _ _|.ix _ _|.sl _ _ _ _|.ls _ _|.tu _|.dn _ _|.il _ _|.pp _ _|.dc _ _|.co _ _ _ _ _ _|.ys|.it _|.rg _|.en _|.nil=>λ_ _ h=>noT h
theorem gT:∀(a:E){c:Sc}{X:Cx}(n:Cn L tb G c X)(e:J8),fT L tb c a e=θ->GT G X e (evT tb a)
 |.tr a=>λn e h=>by
  replace h:(if nz e then yY a&&fE L tb _ a e else fTr L tb _ a e)=θ:=h
  split at h
  .rename_i hp;rw[qa1]at h;have ha:evT tb (.tr a)=bJ (evE tb a):=by cases a<;>first|rfl|exact noT h.1
   rw[ha];exact AN n.K (gE a n e h.2) (Bw hp)
  .exact gTr a n e h
 |.tn a=>λn e h=>by
  replace h:=dxU.of h;have⟨x,p,rfl,h⟩:=h
  exact AO (gT a n _ h)
 |.ta a b=>λn e h=>by
  replace h:=dxB.of h;obtain⟨x,y,l,p,rfl,⟨rfl,h⟩|⟨z,r,rfl,h⟩⟩:=h<;>replace h:=qc0.mp h
  .exact(sV (gT a n _ h.1) (wE (gT b n _ h.2))).t
  .exact(sV (gT a n _ h.1) (y8 (gT b n _ h.2))).t
 |.to a b=>λn e h=>by
  replace h:=dxB.of h;obtain⟨x,y,l,p,rfl,⟨rfl,h⟩|⟨z,r,rfl,h⟩⟩:=h<;>replace h:=qc0.mp h
  .exact(yQ (gT a n _ h.1) (AS (gT b n _ h.2))).t
  .exact(yQ (gT a n _ h.1) (y8 (gT b n _ h.2))).t
 |.no|.cons _ _|.k _|.v _|.g _|.b2 _ _ _ _|.nt _|.ng _|.an _ _|.cd _ _ _|.bn _ _ _|.ii _ _|.ms _ _ _ _|.gt _ _ _|.ca _ _|.me _ _ _|.mk _ _|.at _ _ _|.ix _ _|.sl _ _ _ _|.ls _ _|.tu _|.dn _ _|.il _ _|.pp _ _|.dc _ _|.co _ _ _ _ _ _|.ys|.it _|.rg _|.en _|.nil=>λ_ _ h=>noT h
theorem gTr:∀(a:E){c:Sc}{X:Cx}(n:Cn L tb G c X)(e:J8),fTr L tb c a e=θ->GT G X e (evT tb (.tr a))
 |.b2 o m a b=>λn e h=>by
  have⟨r,o1,o2⟩:=o.ok G.K _ _ n.K n.rm n.k2
  replace h:=dxQ.of h;have⟨l,op,r',p,rfl,h⟩:=h
  rwa[qa1,decide_eq_true_eq,qi7]at h;have⟨⟨⟨h1,h0⟩,h2⟩,h3⟩:=h;rw[h1]at o1;exact AM o1 o2 (gE a n _ h2) (gE b n _ h3) h0
 |.no|.cons _ _|.k _|.v _|.g _|.nt _|.ng _|.an _ _|.cd _ _ _|.bn _ _ _|.ii _ _|.ms _ _ _ _|.gt _ _ _|.ca _ _|.me _ _ _|.mk _ _|.at _ _ _|.ix _ _|.sl _ _ _ _|.ls _ _|.tu _|.dn _ _|.il _ _|.pp _ _|.dc _ _|.co _ _ _ _ _ _|.ys|.it _|.rg _|.en _|.nil|.tr _|.tn _|.ta _ _|.to _ _=>λ_ _ h=>noT h
theorem gA:∀(a:E){c:Sc}{X:Cx}(n:Cn L tb G c X)(es:η J8),fA L tb c a es=θ->es.all aC=θ->GA G X es (evA tb a)
 |.nil=>λn es h _=>by obtain rfl:=qh0.mp h;exact AW
 |.cons a as=>λn es h hs=>by
  obtain _|⟨e,es⟩:=es
  .cases h
  have h:=qc0.mp h;rwa[qc7,qa1]at hs;exact wF (gE a n e h.1) (gA as n es h.2 hs.2) (aD hs.1)
 |.no|.k _|.v _|.g _|.b2 _ _ _ _|.nt _|.ng _|.an _ _|.cd _ _ _|.bn _ _ _|.ii _ _|.ms _ _ _ _|.gt _ _ _|.ca _ _|.me _ _ _|.mk _ _|.at _ _ _|.ix _ _|.sl _ _ _ _|.ls _ _|.tu _|.dn _ _|.il _ _|.pp _ _|.dc _ _|.co _ _ _ _ _ _|.ys|.it _|.rg _|.en _|.tr _|.tn _|.ta _ _|.to _ _=>λ_ _ h _=>noT h
theorem gI:∀(a:E){c:Sc}{X:Cx}(n:Cn L tb G c X)(tg e:J8),fI L tb c a tg e=θ->GI G X tg e (evI tb a)
 |.it a=>λn tg e h=>gi_e n.K (gE a n e h)
 |.rg as=>λn tg e h=>by
  replace h:=dxF.of h;have⟨x,_,ys,_,rfl,h⟩:=h
  rwa[qa1,beq_iff_eq,decide_eq_true_eq,qh5]at h;have⟨⟨⟨⟨⟨⟨⟨h1,h2⟩,h3⟩,h4⟩,h5⟩,h6⟩,h7⟩,h8⟩:=h;subst h1;show GI G _ _ _ (iR (uf as) (evA tb as));rw[<- h5];have ga:=gA as n _ h8 h4
  match ys,h4,h6,h7,ga with
  |[x],h4,_,_,ga=>rwa[qc7,qa1]at h4;exact qo h2 (n.bl _ h3) ga n.sc (aD h4.1)
  |_::_::_,_,_,h7,_=>simp at h7
 |.en a=>λn tg e h=>by
  replace h:=qc0.mp h
  have⟨h0,h⟩:=h
  replace h:=dxF.of h;have⟨x,_,ys,_,rfl,h⟩:=h
  replace h:=dxV.of h;have⟨y,rfl,h⟩:=h
  rwa[qa1,beq_iff_eq,qh5]at h;have⟨⟨⟨⟨rfl,h2⟩,h3⟩,h4⟩,h5⟩:=h;cases tg with
  |Tuple es k p=>exact wU n.K h2 (n.bl _ h3) (gE a n _ h5) n.sc (aD h4)
  |_=>cases h0
 |.no|.cons _ _|.k _|.v _|.g _|.b2 _ _ _ _|.nt _|.ng _|.an _ _|.cd _ _ _|.bn _ _ _|.ii _ _|.ms _ _ _ _|.gt _ _ _|.ca _ _|.me _ _ _|.mk _ _|.at _ _ _|.ix _ _|.sl _ _ _ _|.ls _ _|.tu _|.dn _ _|.il _ _|.pp _ _|.dc _ _|.co _ _ _ _ _ _|.ys|.nil|.tr _|.tn _|.ta _ _|.to _ _=>λ_ _ _ h=>noT h
end
end
noncomputable def isLC:J8->Bool
 |.ListComp _ _ _ _=>θ
 |_=>ξ
noncomputable def swB(c:Sc)(x:Str)(p:Pos):J8->Bool
 |.ListComp _ _ scope q=>decide (c.sc.names.lookup x=ς .local)&&(p.line==q.line)&&!(scope.names.any λ(n,k)=>n==x&&(k==.local||k==.cell))
 |_=>ξ
section
variable{st:J6}
noncomputable def dsA(st:J6)(k:J8->J8->Bool):Bool:=match st with|.Assign ts v _=>dxV ts λt=>k t v|_=>ξ
def dsA.of{k:J8->J8->Bool}(h:dsA st k=θ):∃t v p,st=.Assign [t] v p/\k t v=θ:=by
 cases st with
 |Assign ts v p=>have⟨t,rfl,h⟩:=dxV.of h;exact⟨_,_,_,rfl,h⟩
 |_=>exact noT h
noncomputable def dsU(st:J6)(k:J8->qp7->J8->Bool):Bool:=match st with|.AugAssign t o v _=>k t o v|_=>ξ
theorem dsU.of{k:J8->qp7->J8->Bool}(h:dsU st k=θ):∃t o v p,st=.AugAssign t o v p/\k t o v=θ:=by cases st<;>first|exact⟨_,_,_,_,rfl,h⟩|exact noT h
noncomputable def dsX(st:J6)(k:J8->Bool):Bool:=match st with|.Expr v _=>k v|_=>ξ
def dsX.of{k:J8->Bool}(h:dsX st k=θ):∃v p,st=.Expr v p/\k v=θ:=by cases st<;>first|exact⟨_,_,rfl,h⟩|exact noT h
noncomputable def dsR(st:J6)(k:ζ J8->Bool):Bool:=match st with|.Return v _=>k v|_=>ξ
def dsR.of{k:ζ J8->Bool}(h:dsR st k=θ):∃v p,st=.Return v p/\k v=θ:=by cases st<;>first|exact⟨_,_,rfl,h⟩|exact noT h
noncomputable def dsI(st:J6)(k:J8->η J6->η J6->Bool):Bool:=match st with|.If x y z _=>k x y z|_=>ξ
theorem dsI.of{k:J8->η J6->η J6->Bool}(h:dsI st k=θ):∃x y z p,st=.If x y z p/\k x y z=θ:=by cases st<;>first|exact⟨_,_,_,_,rfl,h⟩|exact noT h
noncomputable def dsF(st:J6)(k:J8->J8->η J6->Bool):Bool:=match st with|.For t i b o _=>o.isEmpty&&k t i b|_=>ξ
def dsF.of{k:J8->J8->η J6->Bool}(h:dsF st k=θ):∃t i b p,st=.For t i b [] p/\k t i b=θ:=by
 cases st with
 |For t i b o p=>have⟨q,h⟩:=qc0.mp h;obtain rfl:=qh0.mp q;exact⟨_,_,_,_,rfl,h⟩
 |_=>exact noT h
noncomputable def dsW(st:J6)(k:J8->η J6->Bool):Bool:=match st with|.While x b o _=>o.isEmpty&&k x b|_=>ξ
def dsW.of{k:J8->η J6->Bool}(h:dsW st k=θ):∃x b p,st=.While x b [] p/\k x b=θ:=by
 cases st with
 |While x b o p=>have⟨q,h⟩:=qc0.mp h;obtain rfl:=qh0.mp q;exact⟨_,_,_,rfl,h⟩
 |_=>exact noT h
noncomputable def Dp:J8->Bool
 |.Constant (.str _) _ _=>θ
 |_=>ξ
noncomputable def dsP:J6->Bool
 |.Pass _=>θ
 |.Expr v _=>Dp v
 |_=>ξ
noncomputable def dsB:J6->Bool
 |.Break _=>θ
 |_=>ξ
noncomputable def dsC:J6->Bool
 |.Continue _=>θ
 |_=>ξ
end
mutual
def fS(L:Lw)(tb:Tb)(c:Sc):S->J6->Bool
 |.set i e,st=>dsA st λt v=>dxN t λx=>b6 c.sc c.N i x&&iO c.sc x&&fE L tb c e v&&(io v||isLC v)
 |.un pt e,st=>dsA st λtg v=>yX tg&&fP c ξ pt tg&&io v&&Do v&&fE L tb c e v
 |.put a k e,st=>dsA st λt v=>dxS t λo ik _=>gx ik&&fE L tb c a o&&fE L tb c k ik&&fE L tb c e v
 |.fl cl f o e,st=>dsA st λt v=>dxA t λx fn _=>(dxO L.ct[cl]? λq=>decide (q.2[f]?=ς fn))&&fE L tb c o x&&fE L tb c e v
 |.fa cl f op a e,st=>dsU st λt aop v=>dxA t λx fn _=>decide (aop=op.op)&&(dxO L.ct[cl]? λq=>decide (q.2[f]?=ς fn))&&fE L tb c a x&&fE L tb c e v
 |.au i op e,st=>dsU st λt aop v=>dxN t λx=>decide (aop=op.op)&&b6 c.sc c.N i x&&iO c.sc x&&fE L tb c e v
 |.dr e,st=>dsX st λv=>io v&&fE L tb c e v
 |.ap a e,st=>dsX st λu=>dxM u λo m ap ys cp=>dxV ys λv=>(m==("append":Str))&&(ap.endLine==cp.line)&&aR o&&aC v&&fE L tb c a o&&fE L tb c e v
 |.aps i e,st=>dsX st λu=>dxM u λo m ap ys cp=>dxV ys λv=>dxN o λx=>(m==("append":Str))&&(ap.endLine==cp.line)&&b6 c.sc c.N i x&&aC v&&fE L tb c e v
 |.cl _ a,st=>dsX st λu=>dxM u λo m ap ys cp=>ys.isEmpty&&(m==("clear":Str))&&(ap.endLine==cp.line)&&aR o&&fE L tb c a o
 |.up a e,st=>dsX st λu=>dxM u λo m ap ys cp=>dxV ys λv=>(m==("update":Str))&&(ap.endLine==cp.line)&&aR o&&aC v&&fE L tb c a o&&fE L tb c e v
 |.rt e,st=>dsR st λo=>dxO o λv=>fE L tb c e v
 |.rn,st=>dsR st λo=>o.isNone
 |.cd t a b,st=>dsI st λx y z=>fT L tb c t x&&fBBq L tb c a y&&fBBq L tb c b z
 |.fo pt it b,st=>dsF st λtg iter body=>fI L tb c it tg iter&&ug iter&&fP c ξ pt tg&&fBBq L tb c b body
 |.wh _ t b,st=>dsW st λx body=>fT L tb c t x&&fBBq L tb c b body
 |_,_=>ξ
def fBBq(L:Lw)(tb:Tb)(c:Sc):S->η J6->Bool
 |.nil,ss=>ss.isEmpty
 |.sq s r,ss=>(match ss with|st::rest=>fS L tb c s st&&fBBq L tb c r rest|[]=>ξ)
 |.fz _ r,ss=>fBBq L tb c r ss
 |_,_=>ξ
end
variable{gs:η Comprehension}{q:Pos}
section
variable{L:Lw}{tb:Tb}{G:Gx}{c:Sc}{X:Cx}
def swA{o:J8}{p:Pos}:qi9 e (ς (.Attribute o x p)) n env=pure ξ:=by cases e<;>rfl
def swS{o i:J8}{p:Pos}:qi9 e (ς (.Subscript o i p)) n env=pure ξ:=by cases e<;>rfl
theorem asS{o ik:J8}{pos':Pos}(h:gx ik=θ):AsS X o ik e pos pos':=⟨by unfold qu0;exact swS,by cases e<;>rfl,rfl,λv=>by cases ik<;>first|rfl|cases h⟩
theorem xk{p:Pos}(O:env.scope.kind=.function)(hs:env.scope=c.sc)(h:swB c x p (.ListComp e gs scope q)=θ):qi9 (.ListComp e gs scope q) (ς (.Name x p)) n env=pure θ:=by
 unfold swB at h;rwa[qa1,decide_eq_true_eq,beq_iff_eq]at h;show(pure (env.blockKind==.function&&env.kindOf x==ς .local&&p.line==q.line&&!(scope.names.any λ(n,k)=>n==x&&(k==.local||k==.cell))):Sem Bool)=pure θ;have h1:env.blockKind=.function:=by unfold Env.blockKind;rw[O];rfl
 have h2:env.kindOf x=ς .local:=by unfold Env.kindOf;rw[hs];exact h.1.1
 rw[h1,h2,h.1.2,h.2];simp
theorem uj{p:Pos}(hs:env.scope=c.sc)(h:swB c x p (.ListComp e gs scope q)=ξ):qi9 (.ListComp e gs scope q) (ς (.Name x p)) n env=pure ξ:=by
 show(pure (env.blockKind==.function&&env.kindOf x==ς .local&&p.line==q.line&&!(scope.names.any λ(n,k)=>n==x&&(k==.local||k==.cell))):Sem Bool)=pure ξ;congr 1;have h:(decide (c.sc.names.lookup x=ς .local)&&(p.line==q.line)&&!(scope.names.any λ(n,k)=>n==x&&(k==.local||k==.cell)))=ξ:=h;have h2:(env.kindOf x==ς .local)=decide (c.sc.names.lookup x=ς .local):=by unfold Env.kindOf;rw[hs];by_cases q:c.sc.names.lookup x=ς .local<;>simp[q]
 rw[h2,qx1,qx1,<- qx1 (decide _),h,zd2]
mutual
theorem gS(hf:∀x,X.fn x=θ)(hk:X.env.scope.kind=.function)(n:Cn L tb G c X):∀(a:S)(st:J6),fS L tb c a st=θ->GS1 G X st (evS tb a)
 |.set i e=>λst h=>by
  replace h:=dsA.of h;have⟨t,v,q,rfl,h⟩:=h
  replace h:=dxN.of h;have⟨x,p,rfl,h⟩:=h
  rwa[qa1,qf2]at h;have⟨⟨⟨h1,h2⟩,h3⟩,h4⟩:=h;by_cases hc:io v=θ
  .exact tq h1 h2 n.nd (gE e n v h3) n.sc n.N (.inl (hf x)) (ip hc)
  .have h4:=h4.resolve_left hc;cases v with
   |ListComp elt gs scope vp=>
    cases hw:swB c x p (.ListComp elt gs scope vp)with
    |false=>exact tq h1 h2 n.nd (gE e n _ h3) n.sc n.N (.inl (hf x)) (uj n.sc hw)
    |true=>
     cases e with
     |co m src pt it t a=>
      have⟨_,tg,iter,ifs,_,_,e1,h3⟩:=dxK.of h3;cases e1;rwa[qa1,qf2]at h3;have⟨⟨⟨⟨⟨⟨q2,q3⟩,q4⟩,q5⟩,q6⟩,q7⟩,q8⟩:=h3;have S:=CmpScope.of q2;refine wW (pt:=pt) h1 h2 n.nd n.sc n.N (.inl (hf x)) (by rw[n.N,n.sc];exact S) n.calm (gI it n _ _ q3) (λnd C s H ex=>oQ (inn:=true) nofun (n.comp nd) q5) (λC s H ex=>?_) (λC s H ex=>gE a (n.comp S.nd) _ q8) q6 (kq q4) (xk hk n.sc hw);obtain q7|q7:=q7
      .obtain rfl:=qh0.mp q7.1;obtain rfl:=isYs.of q7.2;exact oG
      .have⟨x,rfl,q7⟩:=dxV.of q7;exact oH (gT t (n.comp S.nd) _ q7)
     |b2 o _ _ _=>
      replace h3:(match o.op with|.inl _=>ξ|.inr _=>ξ)=θ:=h3
      cases q:o.op<;>rw[q]at h3<;>exact noT h3
     |k d=>cases d<;>exact noT h3
     |_=>exact noT h3
   |_=>cases h4
 |.un pt e=>λst h=>by
  replace h:=dsA.of h;have⟨tg,v,q,rfl,h⟩:=h
  rwa[qa1]at h;have⟨⟨⟨⟨h1,h2⟩,h3⟩,h4⟩,h5⟩:=h;refine Bq (gE e n v h5) (oQ (λ_=>hf) n h2) (by unfold qu0;exact ip h3) ?_ (by cases tg<;>first|rfl|cases h1);cases tg with
  |Tuple ts k p=>cases v<;>first|rfl|cases h4
  |_=>cases h1
 |.put a k e=>λst h=>by
  replace h:=dsA.of h;have⟨t,v,q,rfl,h⟩:=h
  replace h:=dxS.of h;have⟨o,ik,p,rfl,h⟩:=h
  rwa[qa1]at h;exact Bm n.k2 n.rm (gE a n _ h.1.1.2) (gE k n _ h.1.2) (gE e n _ h.2) (asS h.1.1.1)
 |.fl cl f o e=>λst h=>by
  replace h:=dsA.of h;have⟨t,v,q,rfl,h⟩:=h
  replace h:=dxA.of h;have⟨x,fn,p,rfl,h⟩:=h
  rwa[qa1]at h;have⟨⟨h1,h2⟩,h3⟩:=h;have⟨q,hq,h1⟩:=dxO.of h1;rw[<- n.ct]at hq;exact Bo n.K (n.cls cl) hq (of_decide_eq_true h1) (gE o n _ h2) (gE e n _ h3) swA
 |.fa cl f op a e=>λst h=>by
  replace h:=dsU.of h;have⟨t,aop,v,q,rfl,h⟩:=h
  replace h:=dxA.of h;have⟨x,fn,p,rfl,h⟩:=h
  rwa[qa1,decide_eq_true_eq]at h;have⟨⟨⟨rfl,h1⟩,h2⟩,h3⟩:=h;have⟨q,hq,h1⟩:=dxO.of h1;rw[<- n.ct]at hq;exact qr n.K (n.cls cl) hq (of_decide_eq_true h1) (op.ok X) (gE a n _ h2) (gE e n _ h3)
 |.au i op e=>λst h=>by
  replace h:=dsU.of h;have⟨t,aop,v,q,rfl,h⟩:=h
  replace h:=dxN.of h;have⟨x,p,rfl,h⟩:=h
  rwa[qa1,decide_eq_true_eq]at h;have⟨⟨⟨h0,h1⟩,h2⟩,h3⟩:=h;subst h0;exact Bp h1 h2 n.nd (op.ok X) (gE e n _ h3) n.sc n.N (.inl (hf _))
 |.dr e=>λst h=>by
  replace h:=dsX.of h;have⟨v,p,rfl,h⟩:=h
  replace h:=qc0.mp h
  exact wL (gE e n _ h.2) (ip h.1)
 |.ap a e=>λst h=>by
  replace h:=dsX.of h;have⟨u,p,rfl,h⟩:=h
  replace h:=dxM.of h;have⟨o,m,ap,ys,cp,rfl,h⟩:=h
  replace h:=dxV.of h;have⟨v,rfl,h⟩:=h
  rwa[qa1,beq_iff_eq]at h;have⟨⟨⟨⟨⟨h1,h2⟩,h3⟩,h4⟩,h5⟩,h6⟩:=h;subst h1;exact qt (gE a n _ h5) (gE e n _ h6) (asM h3 (by simp[h4]) (by show 1<30;decide) h2) rfl
 |.aps i e=>λst h=>by
  replace h:=dsX.of h;have⟨u,p,rfl,h⟩:=h
  replace h:=dxM.of h;have⟨o,m,ap,ys,cp,rfl,h⟩:=h
  replace h:=dxV.of h;have⟨v,rfl,h⟩:=h
  replace h:=dxN.of h;have⟨x,p',rfl,h⟩:=h
  rwa[qa1,beq_iff_eq]at h;have⟨⟨⟨⟨h1,h2⟩,h3⟩,h4⟩,h5⟩:=h;subst h1;exact np (yZ n h3) (gE e n _ h5) (asM rfl (by simp[h4]) (by show 1<30;decide) h2) rfl
 |.cl t a=>λst h=>by
  replace h:=dsX.of h;have⟨u,p,rfl,h⟩:=h
  replace h:=dxM.of h;have⟨o,m,ap,ys,cp,rfl,h⟩:=h
  rwa[qa1,beq_iff_eq,qh0]at h;have⟨⟨⟨⟨rfl,rfl⟩,h2⟩,h3⟩,h4⟩:=h;exact ud (gE a n _ h4) (base_of h3) (beq_iff_eq.mpr h2) rfl
 |.up a e=>λst h=>by
  replace h:=dsX.of h;have⟨u,p,rfl,h⟩:=h
  replace h:=dxM.of h;have⟨o,m,ap,ys,cp,rfl,h⟩:=h
  replace h:=dxV.of h;have⟨v,rfl,h⟩:=h
  rwa[qa1,beq_iff_eq]at h;have⟨⟨⟨⟨⟨h1,h2⟩,h3⟩,h4⟩,h5⟩,h6⟩:=h;subst h1;exact qH (gE a n _ h5) (gE e n _ h6) (asM h3 (by simp[h4]) (by show 1<30;decide) h2) rfl
 |.rt e=>λst h=>by
  replace h:=dsR.of h;have⟨o,p,rfl,h⟩:=h
  replace h:=dxO.of h;have⟨v,rfl,h⟩:=h
  exact Bc (gE e n _ h)
 |.rn=>λst h=>by
  replace h:=dsR.of h;have⟨o,p,rfl,h⟩:=h
  obtain rfl:=qg7.mp h;exact wM
 |.cd t a b=>λst h=>by
  replace h:=dsI.of h;have⟨x,y,z,p,rfl,h⟩:=h
  rwa[qa1]at h;exact Dg (gT t n _ h.1.1) (gB hf hk n a _ h.1.2) (gB hf hk n b _ h.2)
 |.fo pt it b=>λst h=>by
  replace h:=dsF.of h;have⟨tg,iter,body,p,rfl,h⟩:=h
  rwa[qa1]at h;have⟨⟨⟨h1,h2⟩,h3⟩,h4⟩:=h;exact Bk (by rw[n.xe];exact zb1.never) n.calm (gI it n _ _ h1) (oQ (λ_=>hf) n h3) (gB hf hk n b _ h4) (kq h2)
 |.wh m t b=>λst h=>by
  replace h:=dsW.of h;have⟨x,body,p,rfl,h⟩:=h
  replace h:=qc0.mp h
  exact tO m (by rw[n.xe];exact zb1.never) (gT t n _ h.1) (gB hf hk n b _ h.2)
 |.nil|.sq _ _|.fz _ _=>λ_ h=>noT h
theorem gB(hf:∀x,X.fn x=θ)(hk:X.env.scope.kind=.function)(n:Cn L tb G c X):∀(a:S)(ss:η J6),fBBq L tb c a ss=θ->GS G X ss (evS tb a)
 |.nil=>λss h=>by
  cases ss with
  |nil=>exact Ba
  |cons _ _=>cases h
 |.sq s r=>λss h=>by
  cases ss<;>try(cases h;done)
  replace h:=qc0.mp h
  exact wK (gS hf hk n s _ h.1) (gB hf hk n r _ h.2)
 |.fz i r=>λss h=>Bb (gB hf hk n r ss h)
 |.set _ _|.un _ _|.put _ _ _|.fl _ _ _ _|.fa _ _ _ _ _|.au _ _ _|.dr _|.ap _ _|.aps _ _|.cl _ _|.up _ _|.rt _|.rn|.cd _ _ _|.fo _ _ _|.wh _ _ _=>λ_ h=>noT h
end
end
end L2
namespace L2
open PySem PySem.Spec PyProof.Rows
noncomputable def cD(m:Nat)(g:Fs):Fd:=λcs ch=>match g (cs.map ς++qa9 (m-cs.length) ψ) ch with
 |some (.rt c ch')=>ς (c,ch')
 |some (.nx _ ch')=>ς (.g .non,ch')
 |_=>ψ
variable{ch:CH}{cs:η CV}{vs:η V}{N:η Str}
theorem lQ{G:Gx}{F H:Hp}{ρ:Nat->J4}(g:Gh G F H ρ ch)(r:RelCs G F H ρ ch.length cs vs)(U:∀t,CV.own θ t∉cs):Ge G ⟨F,H,ρ,ch⟩ (cs.map ς++qa9 (N.length-cs.length) ψ) ch (dJ N vs) F H ρ:=by
 have hl:=Paired.length r
 have O:∀(i:Nat)(c:CV),(cs.map ς++qa9 (N.length-cs.length) ψ)[i]?=ς (ς c)->cs[i]?=ς c:=λi c h=>by
  by_cases hi:i<cs.length
  .rw[qg5 ‹hi›,qa6]at h;have⟨x,h1,h2⟩:=mS h;cases h2;exact h1
  .rw[qe0 ‹hi›]at h;have:=qa5 h;rw[qw2]at this;cases this.2
 refine⟨.refl g,by simp[dJ,hl],λi c h=>?_,λi t a h=>absurd (qa5 (O i _ h)) (U t),λi j t u b a _ h=>absurd (qa5 (O i _ h)) (U t)⟩;have⟨v,h1,h2⟩:=Paired.get r (O i c h);refine⟨v,?_,h2⟩;unfold dJ;rw[qg5 ‹ak h1›,qa6,h1];rfl
noncomputable def eN(p:Arguments):Bool:=p.posonlyargs.isEmpty&&p.vararg.isNone&&p.kwonlyargs.isEmpty&&p.kwarg.isNone&&decide (p.args.map (·.arg)).Nodup
variable{ns:η Str}
theorem iq:∀{us:η Value},ns.Nodup->us.length=ns.length->ns.filterMap (λn=>((ns.zip us).lookup n).map λv=>(n,v))=ns.zip us:=by
 suffices H:∀(ns:η Str)(us:η Value)(O:η (Str×Value)),ns.Nodup->us.length=ns.length->(∀n∈ns,O.lookup n=ψ)->ns.filterMap (λn=>((O++ns.zip us).lookup n).map λv=>(n,v))=ns.zip us from λ{us} W hl=>H ns us [] W hl λ_ _=>rfl
 intro ns;induction ns with
 |nil=>intro us O _ _ _;rfl
 |cons n ns ih=>
  intro us O W hl hp;cases us with
  |nil=>cases hl
  |cons u us=>
   have U:=qd7.mp W
   have e1:(O++(n,u)::ns.zip us).lookup n=ς u:=by rw[qw3,hp n qj3];simp[qh1]
   rwa[qo1,qq1,e1,qb0];congr 1
   have:=ih us (O++[(n,u)]) U.2 ‹hl› λm Z=>by
    rw[qw3,hp m (qe6 _ Z)];have:(m==n)=ξ:=by simpa using λe=>U.1 (by rw[<- e];exact Z)
    simp[qh1,this]
   rw[qd9]at this;exact this
theorem nA{fd:qn1}(hp:eN fd.params=θ)(hd:fd.defaults=.none){us:η Value}(hl:us.length=fd.params.args.length):ze1 fd ⟨us,[]⟩=pure ((fd.params.args.map (·.arg)).zip us):=by
 unfold eN at hp;rwa[qa1,decide_eq_true_eq,qh0,qg7]at hp;have⟨⟨⟨⟨h1,h2⟩,h3⟩,h4⟩,h5⟩:=hp;have U:=iq (us:=us) h5 ‹hl›;have hs:seqItems? qg4=(pure ψ:Sem (ζ (Array Value))):=rfl
 have hm:((fd.params.args.map (·.arg)).filter λn=>((((fd.params.args.map (·.arg)).zip us).lookup n)).isNone)=[]:=by
  rw[za4];intro n hn he;rw[qg7]at he;have h7:n∈((fd.params.args.map (·.arg)).zip us).map (·.1):=by rw[qt7 (by simp[hl])];exact hn
  rw[<- U]at h7;have⟨⟨a,b⟩,h8,h9⟩:=qc8.mp h7;have⟨m,_,Z⟩:=qv6.mp h8;have⟨v,O,W⟩:=mS Z;cases W;cases h9;rw[he]at O;cases O
 have⟨nm,qn,⟨po,as,va,ko,kd,ka,df⟩,bd,sc,gl,cl,dfs,kdf,doc,pm,an,cd,ct,bi⟩:=fd;simp only at h1 h2 h3 h4 hd hl hm U ⊢;subst h1 h2 h3 h4 hd;unfold ze1;have hl:us.length=(as.map (·.arg)).length:=‹hl›
 rwa[qe3,qh9,qh8,hs,qy4,qz6,qx6];clear h5;generalize as.map (·.arg)=ns at*
 have e1:List.drop (0-ns.length) ([]:η Value)=[]:=List.drop_nil;have e2:ns.take ns.length=ns:=List.take_length;have e3:¬ (us.length > ns.length):=by lia
 rwa[List.toList_toArray,qg6,e1,zf8,e2,hm,List.isEmpty_nil,ze7,qg3,if_false,qt6,List.zip_nil_right,qx6,qy4,U,decide_eq_false e3,zd1]
noncomputable def nB(K:xA9)(fd:qn1):ζ Value:=match fd.defaults with
 |.ref T=>(match K.lookup T with
  |some o=>(match o.data with
   |.seq J3 _=>(match J3.toList with
    |[v]=>ς v
    |_=>ψ)
   |_=>ψ)
  |none=>ψ)
 |_=>ψ
variable{x:Str}
def lT:∀{us:η Value},x∉ns->(ns.zip us).lookup x=ψ:=by
 induction ns with
 |nil=>intro us _;rfl
 |cons n ns O=>
  intro us h;cases us with
  |nil=>rfl
  |cons u us=>
   rwa[qc4,not_or]at h;have:(x==n)=ξ:=‹h.1›
   rwa[qo1,qh1,this];exact O h.2
def lU{u:Value}:∀{us:η Value},x∉ns->us.length=ns.length->((ns++[x]).zip (us++[u])).lookup x=ς u:=by
 induction ns with
 |nil=>intro us _ hl;cases us<;>first|(cases hl;done)|simp[qh1]
 |cons n ns O=>
  intro us h hl;cases us with
  |nil=>cases hl
  |cons w us=>
   rwa[qc4,not_or]at h;have:(x==n)=ξ:=‹h.1›
   rwa[ql3,qo1,qh1,this];exact O h.2 ‹hl›
variable{K:xA9}
omit x in
theorem lV{s:qa8}{fd:qn1}{v:Value}(hp:eN fd.params=θ)(O:nB K fd=ς v)(X:K.In s.heap){us:η Value}(W:fd.params.args.map (·.arg)=ns++[x]){vs:η Value}(U:vs.length=(ns++[x]).length)(Z:us=vs\/vs=us++[v]):zg3 s fd ⟨us,[]⟩ ((ns++[x]).zip vs):=by
 unfold nB at O;rcases O
 rename_i T hT;rcases O
 rename_i o ho;rcases O
 rename_i J3 n hs;split at O<;>cases O
 rename_i hi;unfold eN at hp;rwa[qa1,decide_eq_true_eq,qh0,qg7]at hp;have⟨⟨⟨⟨h1,h2⟩,h3⟩,h4⟩,h5⟩:=hp;rw[W]at h5;have hz:=iq (us:=vs) h5 U;have hx:x∉ns:=λz=>(qe1.mp h5).2.2 x z x Ξ rfl
 have hm:(ns.filter λn=>((((ns++[x]).zip us).lookup n)).isNone)=[]:=by
  rw[za4];intro n W he;rw[qg7]at he;have h7:n∈(ns.zip vs).map (·.1):=by rw[qt7 (by simp at U;lia)];exact W
  have e1:((ns++[x]).zip us).lookup n=(ns.zip vs).lookup n:=by
   rcases Z with rfl|rfl
   .obtain⟨a,b,rfl⟩:∃a b,us=a++[b]:=⟨us.dropLast,us.getLast (by intro z;subst z;simp at U),(qo2 _).symm⟩;have hl:a.length=ns.length:=‹U›
    have hnx:(n==x)=ξ:=by simpa using λe=>hx (by rw[<- e];exact W)
    rw[qo6 Θ,qw3]
    have e2:ns.zip (a++[b])=ns.zip a:=by have:=qo6 (l₁:=ns) (r₁:=([]:η Str)) (l₂:=a) (r₂:=[b]) Θ;simpa using this
    rw[e2];simp[qh1,hnx]
   .have hl:us.length=ns.length:=‹U›
    have e2:ns.zip (us++[v])=ns.zip us:=by have:=qo6 (l₁:=ns) (r₁:=([]:η Str)) (l₂:=us) (r₂:=[v]) Θ;simpa using this
    have e3:(ns++[x]).zip us=ns.zip us:=by have:=qo6 (l₁:=ns) (r₁:=[x]) (l₂:=us) (r₂:=([]:η Value)) Θ;simpa using this
    rw[e2,e3]
  rw[e1]at he;have⟨⟨a,b⟩,h8,h9⟩:=qc8.mp h7;cases h9;exact absurd (List.lookup_eq_none_iff.mp he ⟨a,b⟩ h8) Ξ
 have⟨nm,qn,⟨po,as,va,ko,kd,ka,df⟩,bd,sc,gl,cl,dfs,kdf,doc,pm,an,cd,ct,bi⟩:=fd;simp only at h1 h2 h3 h4 hT W hm hz ⊢;subst h1 h2 h3 h4 hT;refine zg3.of_defaults (T:=T) rfl (X T o ho) hs (by unfold ze1;rwa[qe3,qh9,qh8,qy4,qx6];rfl) ?_;have hgt:¬ (us.length > (ns++[x]).length):=by rcases Z with rfl|rfl<;>simp at U ⊢<;>lia
 have e3:(ns++[x]).take ((ns++[x]).length-[v].length)=ns:=by simp
 have e4:(ns++[x]).drop ((ns++[x]).length-[v].length)=[x]:=by simp
 have e5:[v].drop ([v].length-(ns++[x]).length)=[v]:=by simp
 rwa[qz7,hi,W,decide_eq_false hgt,zd1,qg3,if_false,qy4,e5,e3,e4,hm,List.isEmpty_nil,ze7,qo1,List.zip_nil_right,List.forIn_cons,qx6];rcases Z with rfl|rfl
 .obtain⟨a,b,rfl⟩:∃a b,us=a++[b]:=⟨us.dropLast,us.getLast (by intro z;subst z;simp at U),(qo2 _).symm⟩;rw[lU hx ‹U›];rwa[Option.isNone_some,qg3,if_false,qy4,hz]
 .have hl:us.length=ns.length:=‹U›
  have e6:(ns++[x]).zip us=ns.zip us:=by have:=qo6 (l₁:=ns) (r₁:=[x]) (l₂:=us) (r₂:=([]:η Value)) Θ;simpa using this
  have e7:ns.zip us++[(x,v)]=(ns++[x]).zip (us++[v]):=by rw[qo6 Θ];rfl
  rw[e6,lT hx];rwa[Option.isNone_none,if_true,qy4,e7,hz]
set_option backward.match.sparseCases true
inductive Kd where
 |fn|fd (d:Int)|me (c:Nat)|mk (c:Nat)
structure Df where
 kd:Kd
 nm:Str
 m:Nat
 n:Nat
 b:S
noncomputable def By(N ps:η Str)(sc:J9):Bool:=decide (sc.kind=.function)&&!sc.isCoroutine&&!sc.isGenerator&&decide N.Nodup&&decide (N.take ps.length=ps)&&ps.all (λx=>decide (sc.names.lookup x=ς .local)||decide (sc.names.lookup x=ς .cell))&&sc.names.all λy=>decide (y.2≠.free)
theorem xl{ps:η Str}{sc:J9}(h:By N ps sc=θ):FnScope N ps sc:=by unfold By at h;rwa[qa1,decide_eq_true_eq,qi7,qb9,qf2]at h;have⟨⟨⟨⟨⟨⟨h1,h2⟩,Z⟩,h4⟩,W⟩,O⟩,U⟩:=h;exact⟨h1,h2,Z,h4,W,O,U⟩
noncomputable def isNoneV:Value->Bool
 |.none=>θ
 |_=>ξ
def nC(K:xA9)(L:Lw)(tb:Tb)(nm q:Str)(d:Df)(fd:qn1):Bool:=match fd.body with
 |.stmts b=>(fd.name==nm)&&(fd.qualname==q)&&(fd.globals==qe8)&&fd.closure.isEmpty&&(fd.builtins==ze9)&&(isNoneV fd.defaults||((nB K fd).isSome&&decide (0<d.n)))&&PySem.W.codeIn K fd.code q&&eN fd.params&&decide (fd.params.args.map (·.arg)=(bp fd.scope).take d.n)&&(decide (d.n<=d.m)&&decide ((bp fd.scope).length=d.m))&&By (bp fd.scope) ((bp fd.scope).take d.n) fd.scope&&fBBq L tb ⟨fd.scope,bp fd.scope⟩ d.b b
 |_=>ξ
noncomputable def de(K:xA9)(f:J4):ζ qn1:=match K.lookup f with
 |some o=>(match o.data with
  |.func fd=>ς fd
  |_=>ψ)
 |none=>ψ
structure Ev0(L:Lw)(gc:List (Str×Dt))(G:Gx)(mg:Str->Option Value):Prop where
 ct:G.ct=L.ct
 k2:fL G.K=θ
 bl:∀x∈L.bl,mg x=ψ
 gc:∀p∈gc,yP G.K mg p.1 p.2
 cls:∀c,jn G c
 ks:∀s∈L.ks,j8 G.K s
section
variable{L:Lw}{tb:Tb}{G:Gx}{P:qe7}{w:J5}{mg:Str->ζ Value}{base:Heap}{d:Df}{fd:qn1}{f:J4}{nm q:Str}
omit x in
theorem gy (E:Ev0 L tb.gc G mg) (ht:∀ e∈tb.f,EnP G P w G.K mg base (lev tb.f.length) e) (hf:de G.K f=ς fd) (h:nC G.K L tb nm q d fd=θ) :
  FnOk P w G.K mg base CX0 (lev tb.f.length+2) f fd ((bp fd.scope).take d.n) (spZ G d.n (cD d.m (evS tb d.b)))/\Binds G.K fd ((bp fd.scope).take d.n) []/\(∀v,nB G.K fd=ς v->Binds G.K fd ((bp fd.scope).take d.n) [v])/\(isNoneV fd.defaults=θ->∀us:η Value,us.length=((bp fd.scope).take d.n).length->ze1 fd ⟨us,[]⟩=pure (((bp fd.scope).take d.n).zip us)):=by
 unfold nC at h;rcases h
 rename_i b hb;rwa[qa1,beq_iff_eq,decide_eq_true_eq,qh0]at h;have⟨⟨⟨⟨⟨⟨⟨⟨⟨⟨⟨h1,h2⟩,h3⟩,h4⟩,h5⟩,U⟩,h7⟩,h8⟩,h9⟩,h10⟩,h11⟩,h12⟩:=h;have W:((bp fd.scope).take d.n).length=d.n:=by rw[ql2];lia
 have hm:=h10.2
 have hdf:∀v,nB G.K fd=ς v->0<d.n->Binds G.K fd ((bp fd.scope).take d.n) []/\Binds G.K fd ((bp fd.scope).take d.n) [v]:=λv hv hpos=>by
  obtain⟨ns,x,hns⟩:∃ns x,(bp fd.scope).take d.n=ns++[x]:=⟨((bp fd.scope).take d.n).dropLast,((bp fd.scope).take d.n).getLast (by intro z;rw[z]at W;simp at W;lia),(qo2 _).symm⟩;refine⟨λs us X Z=>?_,λs us X Z=>?_⟩
  .rw[qh8]at Z ⊢;rw[hns]at Z ⊢;exact lV h8 hv X (h9.trans hns) Z (.inl rfl)
  .rw[hns]at Z ⊢;exact lV h8 hv X (h9.trans hns) Z (.inr rfl)
 have hpl:isNoneV fd.defaults=θ->∀us:η Value,us.length=((bp fd.scope).take d.n).length->ze1 fd ⟨us,[]⟩=pure (((bp fd.scope).take d.n).zip us):=λU us Z=>by
  have hd:fd.defaults=.none:=by cases q:fd.defaults<;>rw[q]at U<;>first|rfl|cases U
  rw[<- h9];exact nA h8 hd (by rw[<- h9]at Z;simpa using Z)
 refine⟨?_,?_,λv hv=>?_,hpl⟩
 rotate_left
 .rw[qf2]at U;rcases U with U|U
  .exact .all (hpl U)
  .rwa[qa1,decide_eq_true_eq]at U;have⟨v,hv⟩:=qe9.mp U.1;exact(hdf v hv U.2).1
 .refine(hdf v hv ?_).2;rw[qf2]at U;rcases U with U|U
  .have hd:fd.defaults=.none:=by cases q:fd.defaults<;>rw[q]at U<;>first|rfl|cases U
   simp[nB,hd]at hv
  .rwa[qa1,decide_eq_true_eq]at U;exact U.2
 clear hdf hpl U h8;unfold de at hf;rcases hf
 rename_i o ho;split at hf<;>cases hf
 rename_i hdat
 have⟨nm',qn,ps,bd,sc,gl,cl,dfs,kdf,doc,pm,an,cd,ct,bi⟩:=fd;have⟨oc,od,dta,osl⟩:=o;simp only at h1 h2 h3 h4 h5 h7 h9 h11 h12 hb hdat
 subst h1 h2 h3 h4 h5 hb hdat
 have S:=xl h11;refine CS (k:=lev tb.f.length+1) ho h7 S (λvs H Q _ hq1=>by have⟨F,ρ,cs,ch,c,ch',g,hn,_,r,_⟩:=hq1;rw[<- Paired.length r,W];exact hn) λA outer s H vs Q E' hr hsp=>?_
 have⟨F,ρ,cs,ch,c,ch',g,hn,ho2,r,O,k⟩:=hsp;have n:Cn L tb G ⟨sc,bp sc⟩ (pW CX0 P w G.K mg base (bp sc) qn sc f cd A outer s H E').nox:=⟨rfl,E.ct,E.k2,rfl,rfl,S.nd,rfl,hr,E.bl,E.gc,E.cls,E.ks,ht,rfl⟩;refine⟨_,(gB (λ_=>rfl) S.kind n d.b b h12).nox,?_⟩;unfold cD at O;simp only at hm;rw[<- hm]at O;rcases O
 .rename_i c1 ch1 hg;cases O;exact⟨_,_,ch,F,ρ,_,lQ g r ho2,hg,λv F' H' ρ' a rr=>k v F' H' ρ' a rr⟩
 .rename_i δ1 ch1 hg;cases O;refine⟨_,_,ch,F,ρ,_,lQ g r ho2,hg,λσ' F' H' ρ' en=>k .non F' H' ρ' en.ad ?_⟩;show Rep G.K F' .non .non;exact oq
end
noncomputable def Df.en(d:Df)(F:Fd):En:=match d.kd with
 |.fn=>.fn d.nm d.n F
 |.fd v=>.fd d.nm d.n v F
 |.me c=>.me c d.nm d.n F
 |.mk c=>.mk c d.n F
def aM(gc:η (Str×Dt)):η Df->Tb
 |[]=>⟨[],gc⟩
 |d::r=>⟨d.en (cD d.m (evS (aM gc r) d.b))::(aM gc r).f,gc⟩
def FF(gc:η (Str×Dt)):η Df->Fd
 |[]=>λ_ _=>ψ
 |d::r=>cD d.m (evS (aM gc r) d.b)
noncomputable def kt(K:xA9)(ct:η (Str×η Str))(c:Nat):ζ (Str×J4):=match ct[c]? with
 |some p=>(match xE9 K qe8 p.1 with
  |some (ς (.ref C))=>ς (p.1,C)
  |_=>ψ)
 |none=>ψ
def xm(K:xA9)(L:Lw)(tb:Tb)(d:Df):Bool:=match d.kd with
 |.fn=>(match xE9 K qe8 d.nm with
  |some (ς (.ref f))=>xD9 K (.ref f)&&(match de K f with|some fd=>nC K L tb d.nm d.nm d fd|none=>ξ)
  |_=>ξ)
 |.fd v=>(match xE9 K qe8 d.nm with
  |some (ς (.ref f))=>xD9 K (.ref f)&&(match de K f with|some fd=>(match nB K fd with|some (.int i _)=>i==v|_=>ξ)&&nC K L tb d.nm d.nm d fd|none=>ξ)
  |_=>ξ)
 |.me c=>(match kt K L.ct c with
  |some (cn,C)=>(match xB9 K (.ref C) d.nm with
   |some (ς (.ref f))=>xH9 K (.ref f)&&xD9 K (.ref f)&&(match de K f with|some fd=>nC K L tb d.nm (cn++(".":Str)++d.nm) d fd|none=>ξ)
   |_=>ξ)
  |none=>ξ)
 |.mk c=>(match kt K L.ct c with
  |some (cn,C)=>xS9 K C&&xD9 K (.ref C)&&(match xB9 K (.ref C) "__init__" with
   |some (ς (.ref f))=>xH9 K (.ref f)&&(match de K f with|some fd=>nC K L tb "__init__" (cn++(".__init__":Str)) d fd|none=>ξ)
   |_=>ξ)
  |none=>ξ)
def noDf(K:xA9)(nm x:Str):Bool:=match xE9 K qe8 nm with
 |some (ς (.ref f))=>(match de K f with|some fd=>isNoneV fd.defaults&&decide (fd.params.args.map (·.arg)=[x])&&decide ((bp fd.scope).take 1=[x])|none=>ξ)
 |_=>ξ
def uk(K:xA9)(L:Lw)(gc:η (Str×Dt)):η Df->Bool
 |[]=>θ
 |d::r=>xm K L (aM gc r) d&&uk K L gc r
variable{j:Nat}{tb:Tb}
section
variable{L:Lw}{gc:η (Str×Dt)}{G:Gx}{P:qe7}{w:J5}{mg:Str->ζ Value}{base h:Heap}
def EnP.mono{k:Nat}{e:En}(O:j<=k)(x:EnP G P w G.K mg base j e):EnP G P w G.K mg base k e:=by
 cases e with
 |fn y n F=>have⟨ps,f,fd,h1,h2,U,h4⟩:=x;exact⟨ps,⟨f,fd,h1,h2,U,h4.mono O⟩⟩
 |fd y n d F=>have⟨ps,f,fd,t,h1,h2,U,h4⟩:=x;exact⟨ps,f,fd,t,h1,h2,U,h4.mono O⟩
 |me c m n F=>intro p hp;have⟨ps,C,f,fd,h1,h2,U,h4,W⟩:=x p hp;exact⟨ps,⟨C,f,fd,h1,h2,U,h4,W.mono O⟩⟩
 |mk c n F=>intro p hp;have⟨ps,C,f,fd,h1,h2,U,h4,W⟩:=x p hp;exact⟨ps,⟨C,f,fd,h1,h2,U,h4,W.mono O⟩⟩
omit x in
def jC{ct:η (Str×η Str)}{c:Nat}{x:Str×J4}(h:kt K ct c=ς x):∃p,ct[c]?=ς p/\p.1=x.1/\ClsAt K p.1 x.2:=by
 unfold kt at h;rcases h
 rename_i p hp;split at h<;>cases h
 rename_i C O;exact⟨p,hp,rfl,O⟩
def ir:∀ds:η Df,(aM gc ds).gc=gc
 |[]=>rfl
 |_::_=>rfl
theorem jD:∀ds:η Df,(aM gc ds).f.length=ds.length
 |[]=>rfl
 |_::r=>by simp[aM,jD r]
omit x in
theorem xn{d:Df}(X:G.K.In h)(N:h.Ns qe8 mg)(E:Ev0 L tb.gc G mg)(ht:∀e∈tb.f,EnP G P w G.K mg base (lev tb.f.length) e)(hc:xm G.K L tb d=θ):EnP G P w G.K mg base (lev tb.f.length+2) (d.en (cD d.m (evS tb d.b))):=by
 unfold xm at hc;unfold Df.en
 have fin:∀{f:J4}{nm q:Str},(match de G.K f with|some fd=>nC G.K L tb nm q d fd|none=>ξ)=θ->∃fd,FnOk P w G.K mg base CX0 (lev tb.f.length+2) f fd ((bp fd.scope).take d.n) (spZ G d.n (cD d.m (evS tb d.b)))/\Binds G.K fd ((bp fd.scope).take d.n) []:=λ{f nm q} h=>by
  rcases h
  rename_i fd Z;have⟨h1,h2,_⟩:=gy E ht Z h;exact⟨fd,h1,h2⟩
 cases q:d.kd with
 |fn=>
  rw[q]at hc;dsimp only at hc ⊢;rcases hc
  rename_i f hf;rw[qa1]at hc;have⟨fd,h1,h2⟩:=fin hc.2;exact⟨_,⟨f,fd,xK9 X N hf,hc.1,h2,h1⟩⟩
 |fd v=>
  rw[q]at hc;dsimp only at hc ⊢;rcases hc
  rename_i f hf;rw[qa1]at hc;have⟨hc1,hc⟩:=hc;rcases hc
  rename_i fd Z;rw[qa1]at hc;have⟨U,hc⟩:=hc;have⟨h1,_,h3,_⟩:=gy (P:=P) (w:=w) (base:=base) E ht Z hc;rcases U
  rename_i i t hv;rw[beq_iff_eq]at U;subst U;exact⟨_,f,fd,t,xK9 X N hf,hc1,h3 _ hv,h1⟩
 |me c=>
  rw[q]at hc;dsimp only at hc ⊢;rcases hc
  rename_i cn C hcl;rcases hc
  rename_i f hf;rwa[qa1]at hc;have⟨fd,h1,h2⟩:=fin hc.2;have⟨p,hp,_,hat⟩:=jC hcl;intro p' O;rw[E.ct,hp]at O;cases O;have⟨C',hC',hcs,_⟩:=E.cls c p (by rw[E.ct];exact hp);have:=hat.inj hC';subst this;exact⟨_,⟨C,f,fd,hat,hcs,⟨hf,hc.1.1,hc.1.2⟩,h2,h1⟩⟩
 |mk c=>
  rw[q]at hc;dsimp only at hc ⊢;rcases hc
  rename_i cn C hcl;rwa[qa1]at hc;have⟨⟨h3,h4⟩,hc⟩:=hc;rcases hc
  rename_i f hf;rw[qa1]at hc;have⟨fd,h1,h2⟩:=fin hc.2;have⟨p,hp,_,hat⟩:=jC hcl;intro p' O;rw[E.ct,hp]at O;cases O;exact⟨_,⟨C,f,fd,hat,xK9 X N hat,⟨h3,hf,hc.1,h4⟩,h2,h1⟩⟩
theorem ku(X:G.K.In h)(N:h.Ns qe8 mg)(E:Ev0 L gc G mg):∀{ds:η Df},uk G.K L gc ds=θ->∀e∈(aM gc ds).f,EnP G P w G.K mg base (lev (aM gc ds).f.length) e
 |[],_,e,O=>by cases O
 |d::r,hc,e,O=>by
  rwa[uk,qa1]at hc;have U:=ku X N E (ds:=r) hc.2;have hl:lev (aM gc (d::r)).f.length=lev (aM gc r).f.length+2:=by simp[aM,lev];lia
  rw[hl];rcases qc4.mp O with rfl|O
  .exact xn X N (by rw[ir];exact E) U hc.1
  .exact(U e O).mono (Nat.le_add_right _ _)
noncomputable def za:Value->Dt->Bool
 |.int i _,.int j=>i==j
 |.str x _,.str y=>x==y
 |_,_=>ξ
def gcOk(K:xA9)(p:Str×Dt):Bool:=match xE9 K qe8 p.1 with
 |some (ς u)=>za u p.2
 |_=>ξ
noncomputable def clOk(K:xA9)(p:Str×η Str):Bool:=match xE9 K qe8 p.1 with
 |some (ς (.ref C))=>xJ9 K C Str.empty&&xM9 K C&&xQ9 K C&&(xB9 K (.ref C) "__setattr__"==ς (ς (.builtin "object.__setattr__")))&&decide p.2.Nodup&&p.2.all λf=>xB9 K (.ref C) f==ς ψ
 |_=>ξ
noncomputable def tyNames:η String:=["NoneType","bool","int","str","tuple","list","dict"]
noncomputable def iW(c t:String):Bool:=(t==c)||(t=="bool"&&c=="int")
def ksOk(K:xA9)(c:String):Bool:=tyNames.all λt=>xI9 K (.type t) (.type c)==ς (iW c t)
def ev0(K:xA9)(L:Lw)(gc:η (Str×Dt)):Bool:=fL K&&L.bl.all (λx=>xE9 K qe8 x==ς ψ)&&gc.all (gcOk K)&&L.ct.all (clOk K)&&L.ks.all (ksOk K)
omit x in
def xo{c:String}(h:ksOk K c=θ):j8 K c:=λd _=>by
 have O:∀t∈tyNames,xI9 K (.type t) (.type c)=ς (iW c t):=λt U=>beq_iff_eq.mp (qb9.mp h t U)
 cases d
 case bl b=>
  refine(O "bool" (by simp[tyNames])).trans ?_;rwa[iW,cY,qz1 (a:="bool")];rfl
 case non=>refine(O "NoneType" (by simp[tyNames])).trans ?_;simp[iW,cY,qz1 (a:="NoneType")]
 case int i=>refine(O "int" (by simp[tyNames])).trans ?_;simp[iW,cY,qz1 (a:="int")]
 case str i=>refine(O "str" (by simp[tyNames])).trans ?_;simp[iW,cY,qz1 (a:="str")]
 case t i=>refine(O "tuple" (by simp[tyNames])).trans ?_;simp[iW,cY,qz1 (a:="tuple")]
 case e i=>refine(O "list" (by simp[tyNames])).trans ?_;simp[iW,cY,qz1 (a:="list")]
 case dct a b=>refine(O "dict" (by simp[tyNames])).trans ?_;simp[iW,cY,qz1 (a:="dict")]
 case dcT a b=>refine(O "dict" (by simp[tyNames])).trans ?_;simp[iW,cY,qz1 (a:="dict")]
omit x in
def Bz(X:K.In h)(N:h.Ns qe8 mg)(hc:ev0 K L gc=θ):Ev0 L gc ⟨K,L.ct⟩ mg:=by
 unfold ev0 at hc;rwa[qa1,qb9]at hc;have⟨⟨⟨⟨h1,h2⟩,h3⟩,h4⟩,h5⟩:=hc;refine⟨rfl,h1,λx hx=>PySem.W.mg_none_of X N (beq_iff_eq.mp (h2 x hx)),λp hp=>?_,λc p hp=>?_,λs hs=>xo (h5 s hs)⟩
 .have h:=h3 p hp;unfold gcOk at h;rcases h
  rename_i u Z;have O:=xK9 X N Z;unfold za at h;rcases h
  .rename_i i t j e;rw[e];rw[beq_iff_eq]at h;subst h;exact⟨.int i,⟨_,O,_,rfl⟩,λ_=>ba⟩
  .rename_i i t j e;rw[e];rw[beq_iff_eq]at h;subst h;exact⟨.str i,⟨_,O,_,rfl⟩,λ_=>eC⟩
 .have h:=h4 p (qa5 hp);unfold clOk at h;rcases h
  rename_i C U;rwa[qa1,qb9,decide_eq_true_eq]at h;have⟨⟨⟨⟨⟨q1,q2⟩,q3⟩,q4⟩,q5⟩,q6⟩:=h;exact⟨C,U,⟨q1,q2,q3,beq_iff_eq.mp q4⟩,q5,λf hf=>beq_iff_eq.mp (q6 f hf)⟩
end
def spL(K:xA9):Sp:=λvs H Q _=>∃(a:J4)(ns:η Int),vs=[.ref a]/\SqL K H a (ns.map V.int)/\ns.length<=63/\∀H',Q (.bl θ) H'
omit x in
theorem zwalk {l:PySem.W.OpenLaw} {q:qe7} {loose:η Str} {XP:(Str->ζ Value)->Heap->Prop} {YP:J5->Heap->Prop} {d:DefRec} {K:Params->xA9} (L:Lw) (gc:η (Str×Dt)) {d0:Df} {r:η Df} {x:Str} (main:∀ ns:η Int,ns.length<=63->∃ ch',FF gc (d0::r) [.g (.e (ns.map .int))] []=ς (.g (.bl θ),ch'))
  (hd:d0.kd=.fn/\d0.nm=d.name/\d0.n=1) (hr:Room (lev r.length+2) zd5) (hn:l.most=ς 63) (hdf:d.params.defaults=[])
  (hY:∀(w:J5)(h:Heap),YP w h->(K w.params).In h) (hT0:∀w:J5,lc (K w.params)=[])
  (hc:∀w:J5,(ev0 (K w.params) L gc&&uk (K w.params) L gc (d0::r)&&noDf (K w.params) d0.nm x)=θ):PySem.W.WalkO q loose XP YP l.row.toRowW d [] (λf vs=>PySem.call f vs):=by
 refine L2.EG (n:=63) (k:=lev r.length+2) (x:=x) (CX:=λ_=>CX0) (sp:=λw=>spL (K w.params)) hn Ω hdf hr hY hT0 (λw mg fa h KX N hfa=>?_) (λ_ _ a ns hl hO hS=>⟨a,ns,rfl,hS,hl,λ_=>rfl⟩) λ_ _ _ _ _ z=>z
 have hw:=hc w;rwa[qa1]at hw;have⟨hw,O⟩:=hw;have E:=Bz KX N hw.1;have⟨hkd,hnm,hn1⟩:=hd;have U:=hw.2;rwa[uk,qa1]at U;have h1:=U.1;unfold xm at h1;rw[hkd]at h1;dsimp only at h1;rcases h1
 rename_i f hf;rw[qa1]at h1
 have hff:f=fa:=by have e:=xK9 KX N hf;rw[hnm,hfa]at e;cases e;rfl
 subst hff;have h2:=h1.2;rcases h2
 rename_i fd Z;unfold noDf at O;rw[hf]at O;dsimp only at O;rw[Z]at O;rwa[qa1,decide_eq_true_eq]at O;have hps:(bp fd.scope).take d0.n=[x]:=by rw[hn1];exact O.2
 have hb:=(gy (P:=l.prog) (w:=w) (base:=h) (f:=f) (G:=⟨K w.params,L.ct⟩) (tb:=aM gc r) (by rw[ir];exact E) (ku KX N E U.2) Z h2).2.2.2 O.1.1;refine⟨fd,λs u=>.of_eq ?_,λbase hb1 hb2=>?_⟩
 .have:=hb [u] (by rw[hps];rfl);rw[hps]at this;exact this
 .have hok:=(gy (P:=l.prog) (w:=w) (base:=base) (f:=f) (G:=⟨K w.params,L.ct⟩) (tb:=aM gc r) (by rw[ir];exact E) (ku KX N E U.2) Z h2).1;rw[hps,jD]at hok;refine hok.imp λvs H Q E' hsp=>?_
  have⟨a,ns,rfl,hS,hl,q⟩:=hsp;have⟨ch',hm⟩:=main ns hl;refine⟨H,λ_=>a,[.g (.e (ns.map .int))],[],.g (.bl θ),ch',⟨Same.refl H,λi j hi=>absurd hi (Nat.not_lt_zero _),λi o hi=>by simp at hi,λi o hi=>by simp at hi⟩,by rw[hn1];rfl,λt=>Ξ,.cons ?_ .nil,hm,λv F' H' ρ' _ o=>?_⟩
  .show Rep (K w.params) H (.e (ns.map .int)) (.ref a);rwa[Rep];exact⟨a,_,rfl,hS,Reps.map (λ_=>ba) ns⟩
  .have o:Rep (K w.params) F' (.bl θ) v:=o;rwa[Rep]at o;subst o;exact q H'
noncomputable def isKBq:Dt->ζ (η Key)
 |.t [.int n,.str s]=>ς [.inl n,.inr s]
 |_=>ψ
section
variable{X:Cx}
def gSlW:Dt->ζ Int->ζ Int->ζ T
 |.t l,lo,hi=>if HT.sIx l.length 0 lo=0/\HT.sIx l.length l.length hi=l.length then ς (.f (.t l))else ς (.f (.t (fF l lo hi)))
 |x,lo,hi=>gSl x lo hi
def ul(K:xA9):R2:=λx y H Q=>∃a b z xs,x=.ref a/\y=.ref b/\SqT K H a (z::xs)/\SqT K H b []/\Q (.ref a) H
def xp:OpR X (qh7 .Add) (ul X.K):=by
 intro J0 s σ H x y v u Q I rx ry h;have⟨a,b,z,xs,rfl,rfl,ha,hb,q⟩:=h;cases rx;cases ry;have⟨J3,r1,p1,_⟩:=I.tuple ha;have⟨its2,r2,p2,_⟩:=I.tuple hb;cases r2;have⟨⟨cls,dd,data,sl⟩,ho,hc,n,hd⟩:=id p1;have⟨⟨cls2,dd2,Z,sl2⟩,O,U,n2,W⟩:=id p2;simp only at hc hd U W;subst hc hd U W
 exact qv9 ⟨_,ho,rfl⟩ ⟨_,O,rfl⟩ qt3 qy9 PySem.F.slot_tuple_add PySem.F.entry_tuple_add (PySem.F.args_tuple_add_2 _ _)
  (tuple_addW1 a b J3.toArray #[] n n2 dd dd2 sl sl2 (by cases r1;simp) rfl) ⟨ho,O,⟨.ref a,H,I,rfl,q⟩⟩
def iu:Dt->Dt->ζ T
 |.t (d::l),.t []=>ς (.f (.t (d::l)))
 |x,y=>tG x y
def xt:OpR X (qh7 .Add) (λx y H Q=>(lF X.K x y H Q\/jl X.K x y H Q)\/ul X.K x y H Q):=OpR.or wQ xp
omit x in
def BA:R2D K (λx y H Q=>(lF K x y H Q\/jl K x y H Q)\/ul K x y H Q) iu:=by
 intro F H x y vx vy Q t W rx Z U k;unfold iu at U;split at U
 .rename_i d l;cases U;have⟨a,vs,rfl,h1,h2⟩:=rx;have⟨b,ws,rfl,h3,h4⟩:=Z;rwa[Reps]at h4;subst h4;have O:=h2;rwa[Reps]at O;have⟨v,us,rfl,_,_⟩:=O;refine .inr ⟨a,b,v,us,rfl,rfl,W.tup h1,W.tup h3,k.leaf.here W ?_⟩;rwa[Rep];exact⟨a,_,rfl,h1,h2⟩
 .exact .inl (Bh F H _ _ vx vy Q t W rx Z U k)
end
noncomputable def topI(m:Int):η Int->Int
 |[]=>m
 |x::r=>topI (if m<x then x else m) r
def nE{J3:η Value}{ns:η Int}(h:zf0 J3 ns):∃xs:Array (Int×Tok),J3.toArray=intItems xs/\xs.toList.map (·.1)=ns:=by
 induction h with
 |nil=>exact⟨#[],by simp[intItems],rfl⟩
 |cons k t _ W=>have⟨xs,U,e2⟩:=W;refine⟨((k,t)::xs.toList).toArray,?_,by simp[e2]⟩;have O:=congrArg zf2 U;rwa[intItems]at O ⊢;apply Array.toList_inj.mp;simp at O ⊢;exact O
section
variable{X:Cx}
theorem qJ(O:X.calm=θ):CallR X (.builtin "sum") (λxs H Q=>∃(p:J4)(ns:η Int),xs=[.ref p]/\SqL X.K H p (ns.map V.int)/\Q (.int ns.sum) H):=by
 intro J0 s σ H xs us Q I r h;have⟨p,ns,rfl,hq,q⟩:=h;have⟨u,rfl,W⟩:=cQ r;cases W;have⟨J3,U,pl,Z⟩:=I.list hq;have⟨xs,e1,e2⟩:=nE (mO U);have hl:=pl.isList;rw[e1]at hl;refine sum_intListG (I.ok.hd O) hl λh' tk t' hk=>?_
 refine⟨.int ns.sum,H,I.kept hk,⟨t',?_⟩,q⟩;rw[preSum_eq,za5 Ξ,e2]
end
def gMaxL:η Dt->ζ T
 |[.e ds]=>match nq ds with
  |some (m::ns)=>ς (.f (.int (topI m ns)))
  |_=>ψ
 |_=>ψ
def oR:η Dt->ζ T
 |[.e ds]=>(nq ds).map λns=>.f (.int ns.sum)
 |_=>ψ
def BB:CRD K (λxs H Q=>∃(p:J4)(ns:η Int),xs=[.ref p]/\SqL K H p (ns.map V.int)/\Q (.int ns.sum) H) oR:=by
 intro F H ds vs Q t W r O k;unfold oR at O;rcases O
 have⟨ns,U,O⟩:=qd4.mp O;cases O;have⟨v,rfl,Z⟩:=bu r;have⟨a,vs,rfl,h1,h2⟩:=Z;have:=oN h2 U;subst this;exact⟨a,ns,rfl,h1,k.int W⟩
def um:Dt->Dt->ζ T
 |.str x,.int n=>if 0<=n/\n<=1000/\x.length<=1000 then ς (.f (.str (Be x n)))else ψ
 |_,_=>ψ
def zb:R2:=λx y H Q=>∃z n,x=.str z/\y=.int n/\(0<=n/\n<=1000/\z.length<=1000)/\Q (.str (Be z n)) H
variable{z:Str}
def BC{n:Int}(h:0<=n/\n<=1000/\z.length<=1000):MulOk z n:=by
 have⟨W,h1,h2⟩:=h;refine⟨?_,λh _=>?_,λh _=>?_⟩
 .have O:decide (n < -(2^63:Int))=ξ:=decide_eq_false Θ;have e2:decide (n ≥ 2^63)=ξ:=decide_eq_false Θ;rw[O,e2];rfl
 .have e:(1000:Int)<=(2^63-1)/n:=(Int.le_ediv_iff_mul_le Θ).mpr Θ;lia
 .have e:z.length*n.toNat<=1000*1000:=Nat.mul_le_mul h2 Θ;have U:qa4=16777216:=qb7;exact decide_eq_false Θ
variable{X:Cx}
theorem xu:OpR X (qh7 .Mult) zb:=by intro J0 s σ H x y v u Q I U O h;have⟨z,n,rfl,rfl,hb,q⟩:=h;have⟨t,rfl⟩:=U;have⟨t',rfl⟩:=O;exact SB.mul (BC hb) λt2 k=>⟨.str (Be z n),H,I.tok _,⟨_,rfl⟩,q⟩
omit x in
def BD:R2D K zb um:=by
 intro F H x y vx vy Q t U Z W O k;unfold um at O;rcases O
 split at O<;>cases O
 rename_i h;cases Z;cases W;exact⟨_,_,rfl,rfl,h,k.str U⟩
noncomputable def lW:Dt->Dt->ζ T
 |.e l,.int n=>if 0<=n/\n<=1000/\l.length<=1000 then ς (.e (qa9 n.toNat l).flatten)else ψ
 |_,_=>ψ
def Dq (a:Int) (t:Tok) (l:J4) (J3:Array Value) (n:Nat) (sl:Array (ζ Value)) :
  Meets (qj4.«int.__rmul__» ⟨[.int a t,.ref l],[]⟩) (λ_ R s=>s.heap.get? l=ς {cls:=.type "list",dict:=ψ,data:=.seq J3 n,slots:=sl}/\R (.ok (.ret Value.notImplemented)) s):=
 .of_wp λprog w A R s h=>by have⟨hp,g,d,O,U⟩:=s;have⟨hl,h⟩:=h;wp_walk;exact⟨_,rfl,h⟩
theorem mulL (l:J4) (J3:Array Value) (n:Nat) (sl:Array (ζ Value)) (x:Int) (u:Tok) (h0:¬(!Builtin.List.listFitsIndex x)=θ) (h1:¬J3.size*x.toNat > (2^63-1)/8) (h2:¬qq9 (J3.size*x.toNat)=θ) (hsz:(zc9 (λU O=>U++O) #[] (qa9 (if J3.isEmpty=θ then 0 else x.toNat) J3)).size<=qa4) :
  Meets (qj4.«list.__mul__» ⟨[.ref l,.int x u],[]⟩) (λ_ R s=>s.heap.get? l=ς {cls:=.type "list",dict:=ψ,data:=.seq J3 n,slots:=sl}/\R (.ok (.ret (qc1 s.heap.objs.size))) {s with heap:=s.heap.push {cls:=qo8 "list",data:=Data.seq (zc9 (λU O=>U++O) #[] (qa9 (if J3.isEmpty=θ then 0 else x.toNat) J3))},toks:=s.toks}):=
 .of_wp λprog w A R s h=>by have⟨hp,g,d,W,Z⟩:=s;have⟨hl,h⟩:=h;wp_walk;refine wpAny_ite_false (decide_eq_false (qn7.mpr hsz)) ?_;wp_walk;exact⟨_,rfl,h⟩
def zc(K:xA9):R2:=λx y H Q=>∃l k xs,x=.ref l/\y=.int k/\SqL K H l xs/\(0<=k/\k<=1000/\xs.length<=1000)∧∀p,H p=ψ->Q (.ref p) (upd H p (.e (qa9 k.toNat xs).flatten))
def xw:OpR X (qh7 .Mult) (zc X.K):=by
 intro J0 s σ H x y v u Q I rx ry h;have⟨l,k,xs,rfl,rfl,hH,⟨h0,h1,hx⟩,q⟩:=h;cases rx;have⟨t,rfl⟩:=ry;have⟨J3,r,pl,_⟩:=I.list hH;have⟨⟨cls,dd,data,sl⟩,n,Z,hc,hd0,hd⟩:=pl;simp only at hc hd hd0;subst hc hd hd0;have hl:=r.length;have hk:k.toNat<=1000:=by lia
 have hm:J3.length*k.toNat<=1000*1000:=Nat.mul_le_mul Θ hk;have hs:qa4=16777216:=qb7;have W:J3.toArray.size*k.toNat<=qa4:=by rw[qb4];lia
 have O:zc9 (λx1 x2=>x1++x2) #[] (qa9 (if J3.toArray.isEmpty=θ then 0 else k.toNat) J3.toArray)=(qa9 k.toNat J3).flatten.toArray:=by
  have f0:∀m:Nat,zc9 (λx1 x2=>x1++x2) #[] (qa9 m J3.toArray)=(qa9 m J3).flatten.toArray:=λm=>by have:=jc J3 m [];rw[qh9]at this;exact this
  rw[f0];cases J3 with
  |nil=>simp
  |cons a r'=>rw[if_neg Ξ]
 refine wpAny_binaryOp_repeat_ref (T:="list") (U:="int") Ω ⟨_,Z,rfl⟩ (λs'=>typeIs_int s' k t) noFill_list_mul F.fills_int_mul F.slot_int_rmul repeat_list F.slot_int_index.lookup
  (qu3 F.slot_int_rmul (typeIs_int s k t) F.entry_int_rmul (F.args_int_rmul_2 _ _) (Dq k t l J3.toArray n sl)
   ⟨Z,rfl,⟨_,Z,rfl⟩,qu3 F.slot_list_mul ⟨_,Z,rfl⟩ F.entry_list_mul (F.args_list_mul_2 _ _) (mulL l J3.toArray n sl k t (by
    rw[fitsIndex_both Θ Θ];exact qb5) (by
    have:(qa4:Nat)<=(2^63-1)/8:=by decide
    lia) (by
    rw[rX W];exact qb5) (by
    rw[O,qb4,oh,Nat.mul_comm];lia)) ⟨Z,?_⟩⟩)
 rw[O];exact⟨.ref _,_,I.lnew (t':=s.toks) (r.rep k.toNat) (by rw[oh,Nat.mul_comm,hl];lia),rfl,q _ I.fresh⟩
variable{l:η Dt}
theorem Reps.rep{F:Hp}(h:Reps K F l vs):∀n:Nat,Reps K F (qa9 n l).flatten (qa9 n vs).flatten
 |0=>by simp[Reps]
 |n+1=>by rw[qf9,qf9,qk6,qk6];exact h.append (Reps.rep h n)
omit x in
def BE:R2D K (zc K) lW:=by
 intro F H x y vx vy Q t U Z W O k;unfold lW at O;rcases O
 split at O<;>cases O
 rename_i hl;have⟨a,vs,rfl,h1,h2⟩:=Z;cases W;exact⟨a,_,vs,rfl,rfl,h1,⟨hl.1,hl.2.1,by rw[h2.length];exact hl.2.2⟩,λp hp=>bZ k U (Reps.rep h2 _) hp⟩
noncomputable def orO(g g':Dt->Dt->ζ T)(x y:Dt):ζ T:=match g x y with
 |some t=>ς t
 |none=>g' x y
omit x in
theorem R2D.or{r r':R2}{g g':Dt->Dt->ζ T}(h:R2D K r g)(h':R2D K r' g'):R2D K (λx y H Q=>r x y H Q\/r' x y H Q) (orO g g'):=λF H x y vx U Q t W rx Z O k=>by
 unfold orO at O;split at O
 .rename_i u hu;cases O;exact .inl (h F H x y vx U Q _ W rx Z hu k)
 .exact .inr (h' F H x y vx U Q t W rx Z O k)
noncomputable def xx:Dt->Dt->ζ T
 |.int i,.int j=>if 0<=j then ς (.f (.int (i/2^j.toNat)))else ψ
 |_,_=>ψ
def Dr:R2D K (gK (λ_ j=>0<=j) λi j=>.int (i/2^j.toNat)) xx:=by
 intro F H x y vx vy Q t U Z W O k;unfold xx at O;rcases O
 split at O
 .cases O;cases Z;cases W;exact⟨_,_,rfl,rfl,by assumption,k.int U⟩
 .cases O
def kx(O:Bool)(x y:Dt):ζ T:=(bQ y x).map λr=>.f (.bl (if O then !r.isSome else r.isSome))
def zd{O:Bool}(hK:fL K=θ):R2D K (AY O) (kx O):=by
 intro F H x y vx vy Q t Z rx ry U k;have⟨r,hr,rfl⟩:=mS U;have⟨a,o,rfl,U,W⟩:=ia hK Z ry rx hr;refine⟨a,o,rfl,U,?_⟩
 have e:o.isSome=r.isSome:=by
  cases r with
  |none=>rw[W.2 rfl];rfl
  |some d=>have⟨v,rfl,_⟩:=W.1 d rfl;rfl
 rw[e];exact k.bl Z
def oAdd:Op2:=⟨.inl .Add,orO eG iu,λK X k e _ _=>⟨_,by subst e;exact OpR.or oz xt,R2D.or yL BA⟩⟩
def oSub:Op2:=⟨.inl .Sub,sO,λK X k e _ _=>⟨_,zY,C1⟩⟩
def oMul:Op2:=⟨.inl .Mult,orO iQ (orO lW um),λK X k e _ _=>⟨_,by subst e;exact OpR.or zZ (OpR.or xw xu),R2D.or C3 (R2D.or BE BD)⟩⟩
noncomputable def oDiv:Op2:=⟨.inl .FloorDiv,gd,λK X k e _ _=>⟨_,tJ,Bi⟩⟩
noncomputable def oMod:Op2:=⟨.inl .Mod,cN,λK X k e _ _=>⟨_,z0,C4⟩⟩
def oPow:Op2:=⟨.inl .Pow,wv,λK X k e _ _=>⟨_,z6,C5⟩⟩
noncomputable def oBan:Op2:=⟨.inl .BitAnd,qd qw7,λK X k e _ _=>⟨_,z8,mZ⟩⟩
noncomputable def oBor:Op2:=⟨.inl .BitOr,qd qj4.bitOr,λK X k e _ _=>⟨_,CJ,mZ⟩⟩
noncomputable def oXor:Op2:=⟨.inl .BitXor,qd qj4.bitXor,λK X k e _ _=>⟨_,z9,mZ⟩⟩
noncomputable def oShr:Op2:=⟨.inl .RShift,xx,λK X k e _ _=>⟨_,z7,Dr⟩⟩
def oEq:Op2:=⟨.inr .Eq,gEq ξ,λK X k e r _=>⟨_,by subst e;exact AC r,r_eq⟩⟩
def oNe:Op2:=⟨.inr .NotEq,gEq θ,λK X k e r _=>⟨_,by subst e;exact AD r,r_ne⟩⟩
noncomputable def oLt:Op2:=⟨.inr .Lt,qe λi j=>decide (i<j),λK X k e r _=>⟨_,CM,yM⟩⟩
noncomputable def oGt:Op2:=⟨.inr .Gt,qe λi j=>decide (j<i),λK X k e r _=>⟨_,CN,yM⟩⟩
def oIs:Op2:=⟨.inr .Is,orO (gIs ξ) (qk ξ),λK X k e r _=>⟨_,OpR.or Ac Bg,R2D.or r_is Di⟩⟩
def oIsN:Op2:=⟨.inr .IsNot,orO (gIs θ) (qk θ),λK X k e r _=>⟨_,OpR.or vT ql,R2D.or wy tE⟩⟩
def oIn:Op2:=⟨.inr .In,orO (gIn ξ) (kx ξ),λK X k e r h=>⟨_,by subst e;exact OpR.or AG (AZ (lp r)),R2D.or (r_in ξ) (zd h)⟩⟩
def oNi:Op2:=⟨.inr .NotIn,orO (gIn θ) (kx θ),λK X k e r h=>⟨_,by subst e;exact OpR.or qf (qh (lp r)),R2D.or (r_in θ) (zd h)⟩⟩
def bLen:Bf:=⟨"len",.inl "len",rfl,hZ,λK X k e _ _=>⟨_,by subst e;exact rH,C6⟩⟩
noncomputable def bList:Bf:=⟨"list",.inr "list",rfl,sR,λK X k e _ _=>⟨_,by subst e;exact jT,AI⟩⟩
def bTup:Bf:=⟨"tuple",.inr "tuple",rfl,m6,λK X k e _ _=>⟨_,by subst e;exact iL,wA⟩⟩
def bInt:Bf:=⟨"int",.inr "int",rfl,wz,λK X k e _ _=>⟨_,qg,C7⟩⟩
def bSrt:Bf:=⟨"sorted",.inl "sorted",rfl,gw,λK X k e _ _=>⟨_,by subst e;exact ki,tX⟩⟩
def bSum:Bf:=⟨"sum",.inl "sum",rfl,oR,λK X k e c _=>⟨_,by subst e;exact qJ c,BB⟩⟩
def bMin:Bf:=⟨"min",.inl "min",rfl,tH,λK X k e c _=>⟨_,qm c,Dj⟩⟩
def mJoin:Ms:=⟨"join","str.join",PySem.F.slot_str_join,PySem.F.type_str_join,j9,λK X e=>⟨_,by subst e;exact wm,wC⟩⟩
noncomputable def iAdd:Ia:=⟨.Add,λi j=>i+j,λX=>zR⟩
noncomputable abbrev kI(n:Int):E:=.k (.int n)
noncomputable abbrev kS(s:Str):E:=.k (.str s)
noncomputable abbrev A1(a:E):E:=.cons a .nil
abbrev A2(a b:E):E:=.cons a (A1 b)
abbrev A3(a b c:E):E:=.cons a (A2 b c)
abbrev A4(a b c d:E):E:=.cons a (A3 b c d)
abbrev A5(a b c d e:E):E:=.cons a (A4 b c d e)
noncomputable abbrev vN0:E:=.v 0
noncomputable abbrev vN1:E:=.v 1
noncomputable abbrev vN2:E:=.v 2
noncomputable abbrev vN3:E:=.v 3
noncomputable abbrev vN4:E:=.v 4
noncomputable abbrev vN5:E:=.v 5
noncomputable abbrev vN6:E:=.v 6
noncomputable abbrev vN7:E:=.v 7
noncomputable abbrev vN8:E:=.v 8
noncomputable abbrev vN9:E:=.v 9
noncomputable abbrev qK:E:=.v 10
noncomputable abbrev xy:E:=.v 11
noncomputable abbrev nG:E:=.v 12
noncomputable abbrev BF:E:=.v 13
noncomputable abbrev qL:E:=.v 14
noncomputable def sL:η S->S
 |[]=>.nil
 |a::l=>.sq a (sL l)
instance{n:Nat}[OfNat Int n]:OfNat E n:=⟨.k (.int (OfNat.ofNat n))⟩
instance:Add E:=⟨.b2 oAdd .v⟩
instance:Sub E:=⟨.b2 oSub .v⟩
instance:Mul E:=⟨.b2 oMul .v⟩
instance:_root_.Mod E:=⟨.b2 oMod .v⟩
instance:SDiff E:=⟨.b2 oDiv .v⟩
instance:Div E:=⟨.ix⟩
variable{n:Nat}
def xLit[OfNat Int n]:(OfNat.ofNat n:E)=.k (.int (OfNat.ofNat n)):=rfl
section
variable{a b:E}
def xAdd:a+b=.b2 oAdd .v a b:=rfl
def xSub:a-b=.b2 oSub .v a b:=rfl
def xMul:a*b=.b2 oMul .v a b:=rfl
def xMod:a%b=.b2 oMod .v a b:=rfl
def xDiv:a \ b=.b2 oDiv .v a b:=rfl
def xIx:a/b=.ix a b:=rfl
abbrev tsE(a b:E):E:=.tr (.b2 oEq .v a b)
noncomputable abbrev tsL(a b:E):E:=.tr (.b2 oLt .v a b)
abbrev tsN(a b:E):E:=.tr (.b2 oNe .v a b)
noncomputable abbrev tsG(a b:E):E:=.tr (.b2 oGt .v a b)
abbrev eLn(a:E):E:=.bn bLen .v (A1 a)
abbrev rG1(a:E):E:=.rg (A1 a)
noncomputable abbrev aT0(c f:Nat):E:=.at c f (.v 0)
noncomputable abbrev mE0(j:Nat)(a:E):E:=.me j (.v 0) a
noncomputable abbrev cO0(l:η (ζ Nat))(a b:E):E:=.co .v l (.one 0) a .ys b
noncomputable abbrev cR0(a b:E):S:=.cd a (.sq (.rt b) .nil) .nil
end
noncomputable def sLb:η S->S->S
 |[],s=>s
 |a::l,s=>.sq a (sLb l s)
noncomputable def gc:η (Str×Dt):=[("WIDE",.int 1099511627776)]
noncomputable def L:Lw:=⟨["bool","dict","enumerate","int","isinstance","len","list","min","range","sorted","str","sum","tuple"],[("Hand",["first","unlike"]),("Lost",["place","done","hears","says","boxes","dust","log"]),("Store",["home","heads","page_boxes","page_turns","counting","result"]),("House",["rows","onward","sizes","twins","keeps","incoming","store","hand","dust","lost","plan"]),("Plain",["rows","onward","incoming","outgoing","boxes","cells","shelves","place","hears","done","result"])],["bool","int","str"]⟩
noncomputable def t0:η Df:=[]
def d0:Df:=⟨.fn,"_law_names",6,2,sL [.set 2 (kS "abcdefghijklmnopqrstuvwxyz"),.set 3 (vN0%6),.set 4 (vN0 \ 6%(vN3+1)),.set 5 (.ms mJoin .v (kS "") (A1 (cO0 [ψ,ς 0,ς 2] (rG1 vN3) (vN2/((vN1 \ 37+11*vN0*(vN1%2))%26))))),.rt (cO0 [ψ,ς 4,ς 0,ς 5,ς 2] (rG1 vN1) (.sl .v vN3 .no (.cons vN1 .nil)+vN4/((vN2 \ 42+5*vN0)%26)+.sl .v vN3 (.cons vN1 .nil) .no))]⟩
def t1:=d0::t0
def d1:Df:=⟨.fn,"_law_cell_at",2,2,sL [cR0 (tsL vN1 (eLn vN0)) (vN0/vN1),.rt 0]⟩
def t2:=d1::t1
def d2:Df:=⟨.fn,"_law_stream",5,2,sL [.set 2 (.ls .w .nil),.set 3 (vN0%2147483629+69621),.fo (.one 4) (rG1 (vN1+1)) (sL [.set 3 ((vN3*vN3+16807*vN3+vN4)%2147483629),.aps 2 vN3]),.rt (.sl .v vN2 (.cons 1 .nil) .no)]⟩
def t3:=d2::t2
def d3:Df:=⟨.fn,"_law_value_by",1,1,sL [cR0 (tsE (vN0%3) 0) (vN0 \ 3%4),cR0 (tsE (vN0%3) 1) (.b2 oPow .v 2 40-1-vN0 \ 3%4),.rt (vN0 \ 3*1664525%.b2 oPow .v 2 40)]⟩
def t4:=d3::t3
def d4:Df:=⟨.fn,"_law_world",6,1,sL [.set 1 (.ca 3 (A2 (.ca 2 (A2 vN0 0)) 12)),.set 2 (.ca 1 (A2 (.ca 2 (A2 vN0 1)) 12)),.set 3 (cO0 [ψ,ς 1,ς 2] (rG1 (1+vN2/6%3)) (.tu (A3 (vN1/vN0) (.ca 0 (A1 (vN2/vN0))) (.b2 oEq .v ((vN2/vN0) \ 5%2) 0)))),.set 4 (cO0 [ψ,ς 1,ς 2] (rG1 (1+vN2/7%2)) (.tu (A3 (vN1/(4+vN0)) (1+vN2/(4+vN0)%8) (.b2 oEq .v ((vN2/(4+vN0)) \ 8%2) 0)))),.set 5 (cO0 [ψ] (.it (.ca 1 (A2 (.ca 2 (A2 vN0 2)) (vN2/8%7)))) (.ca 0 (A1 vN0))),.rt (.tu (A4 (.sl .v vN1 (.cons 6 .nil) (.cons 10 .nil)) vN3 vN4 vN5))]⟩
def t5:=d4::t4
def d5:Df:=⟨.fn,"_law_atom",2,2,sL [cR0 (tsE (vN0%3) 0) (.ca 1 (A1 (vN0 \ 3))),.rt (vN1/(vN0 \ 3%eLn vN1))]⟩
def t6:=d5::t5
def d6:Df:=⟨.fn,"_law_led",3,3,sL [cR0 (tsE (vN0/4%6) 0) (vN0/5%vN2),.rt (vN1+1+vN0/5%(vN2-1-vN1))]⟩
def t7:=d6::t6
def d7:Df:=⟨.fn,"_law_row",15,4,sL [.un (.many [4,5,6,7]) vN3,.set 8 (.ca 4 (A2 vN0 8)),.set 9 (vN4/(vN8/1%eLn vN4)),.set 10 (vN5/(vN8/6%eLn vN5)/0),.set 11 (vN6/(vN8/6%eLn vN6)/0),.set 12 (.ca 1 (A2 (vN8/2) vN4)),.set 13 (.ca 1 (A2 (vN8/3) vN4)),.set 14 (vN8/0%23),cR0 (tsL qL 5) (.tu (A5 (kS "op") vN9 (kS "+-*<=&|^"/(vN8/7%8)) nG BF)),cR0 (tsL qL 17) (.ls .v (A4 (.tu (A3 (kS "load") vN9 qK)) (.tu (A3 (kS "store") qK nG)) (.tu (A4 (kS "take") vN9 xy nG)) (.tu (A4 (kS "lay") xy nG BF)))/(qL%4)),cR0 (tsL qL 20) (.ls .v (A3 (.tu (A3 (kS "copy") vN9 nG)) (.tu (A2 (kS "hear") vN9)) (.tu (A2 (kS "say") nG)))/(qL%3)),cR0 (tsL qL 22) (.tu (A3 (kS "if") vN9 (.ca 0 (A3 vN8 vN1 vN2)))),.rt (.ls .v (A3 (.tu (A2 (kS "end") nG)) (.tu (A2 (kS "say") BF)) (.tu (A2 (kS "go") (.ca 0 (A3 vN8 vN1 vN2)))))/((vN8/5) \ 64%3))]⟩
def t8:=d7::t7
def d8:Df:=⟨.fn,"_law_program",4,3,sL [.set 3 (cO0 [ψ,ς 0,ς 1] (rG1 (eLn vN0)) (.ca 0 (A4 (vN1/vN0) vN0 (eLn vN1+1) vN2))),.rt (.tu (A3 (.bn bTup .v (A1 (vN1/1))) (.bn bTup .v (A1 (vN1/2))) (.bn bTup .v (A1 vN3)+.tu (A1 (.tu (A2 (kS "end") vN2))))))]⟩
def t9:=d8::t8
def d9:Df:=⟨.fn,"_law_some",2,2,sL [.rt (.bn bTup .v (A1 (.bn bSrt .v (A1 (.co .v [ψ,ς 1,ς 0] (.one 0) (rG1 (eLn vN1)) (tsE (.b2 oBan .v (.b2 oShr .v vN2 vN0) 1) 1) (vN1/vN0))))))]⟩
def t10:=d9::t9
def d10:Df:=⟨.fn,"_law_cutting",8,3,sL [.set 3 (vN0/2),.set 4 (.ca 7 (A2 vN1 (eLn vN3+2))),.set 5 (.ls .v (A3 2 3 5)/(vN4/0%3)),.set 6 (.ls .w .nil),.fo (.one 7) (rG1 (eLn vN3)) (sL [.cd (.to (tsE (vN3/vN7/0) (kS "end")) (tsE (vN4/(vN7+1)%vN5) 0)) (sL [.aps 6 (.tu (A2 vN7 (.ca 0 (A2 ((vN4/(vN7+1)) \ 30) vN2))))]) .nil]),.rt (.tu (A2 (.ca 0 (A2 (vN4/.ng 1) vN2)) (.bn bTup .v (A1 vN6))))]⟩
def t11:=d10::t10
def d11:Df:=⟨.fn,"_law_failings",5,1,sLb [.set 1 (.ls .w .nil),.fo (.one 2) (.it vN0) (sL [.set 3 (.ca 8 (A2 vN2 3)),.set 4 (vN3/0%15),.cd (tsE (vN3/2%5) 0) (sL [.set 4 (vN3/0%100)]) .nil,.aps 1 (.tu (A2 vN4 (.ca 7 (A1 (vN3/1)))))])] (.fz 1 (sL [.rt vN1]))⟩
def t12:=d11::t11
def d12:Df:=⟨.fn,"ways_of",2,2,sL [cR0 (tsE (vN1/0) (kS "go")) (.tu (A1 (vN1/1))),cR0 (tsE (vN1/0) (kS "if")) (.tu (A2 (vN1/2) (vN0+1))),cR0 (tsE (vN1/0) (kS "end")) (.tu .nil),.rt (.tu (A1 (vN0+1)))]⟩
def t13:=d12::t12
def d13:Df:=⟨.fn,"ways",1,1,sL [.rt (.co .v [ψ,ψ] (.many [0,1]) (.en (vN0/2)) .ys (.ca 0 (A2 vN0 vN1)))]⟩
def t14:=d13::t13
def d14:Df:=⟨.mk 2,"__init__",3,3,sL [.fl 2 0 vN0 (.dc .o (cO0 [ψ] (.it (vN1/0)) (.tu (.cons (vN0/0) (.cons (.ls .o (.cons (vN0/1) .nil)) .nil))))),.up (aT0 2 0) (.dc .o (cO0 [ψ] (.it (vN1/1)) (.tu (.cons (vN0/0) (.cons (.b2 oMul .o (.ls .v (A1 0)) (vN0/1)) .nil))))),.fl 2 1 vN0 (.ls .o (A2 (.tu (A4 0 0 0 0)) (.tu (A4 0 0 0 0)))),.fl 2 2 vN0 (.ls .o (.cons (.co .o [ψ] (.one 0) (.it vN2) .ys (.tu (.cons vN0 (.cons 0 .nil)))) (.cons (.ls .o .nil) .nil))),.fl 2 3 vN0 (.ls .o (.cons (.ls .o .nil) (.cons (.ls .o .nil) .nil))),.fl 2 4 vN0 0,.fl 2 5 vN0 (.k .non)]⟩
def t15:=d14::t14
def d15:Df:=⟨.mk 0,"__init__",1,1,sL [.fl 0 0 vN0 (.dn .o ξ),.fl 0 1 vN0 (.k (.bl ξ))]⟩
def t16:=d15::t15
def d16:Df:=⟨.fn,"named",2,2,sL [.rt (.co .v [ψ,ψ,ς 0] (.many [0,1]) (.it vN1) .ys (.tu (A4 vN2 (vN0/0) (vN0/1) vN1)))]⟩
def t17:=d16::t16
def d17:Df:=⟨.fn,"coming_up",1,1,sL [.rt (.b2 oAdd .o (.ca 0 (A2 (kS "put") (vN0/5))) (.ls .v (A1 (.tu (A1 (kS "wake"))))))]⟩
def t18:=d17::t17
def d18:Df:=⟨.me 2,"page",2,2,sL [.rt (aT0 2 1/vN1+.tu (A2 (.bn bList .v (A1 (aT0 2 2/vN1))) (.bn bList .v (A1 (aT0 2 3/vN1)))))]⟩
def t19:=d18::t18
def d19:Df:=⟨.me 3,"page",2,2,sL [.rt (.me 0 (aT0 3 6) (A1 vN1))]⟩
def t20:=d19::t19
def d20:Df:=⟨.me 2,"face",1,1,sL [.rt (aT0 2 4)]⟩
def t21:=d20::t20
def d21:Df:=⟨.me 3,"face",1,1,sL [.rt (.me 0 (aT0 3 6) .nil)]⟩
def t22:=d21::t21
def d22:Df:=⟨.mk 3,"__init__",4,4,sL [.fl 3 0 vN0 (vN1/2),.fl 3 1 vN0 (.ca 8 (A1 vN1)),.fl 3 2 vN0 (.dc .v (cO0 [ψ] (.it (vN1/1)) (.tu (A2 (vN0/0) (vN0/1))))),.fl 3 3 vN0 (.co .v [ψ] (.one 0) (.it (vN1/0+vN1/1)) (.tr (vN0/2)) (vN0/0)),.fl 3 4 vN0 (.dc .v (vN2/1)),.fl 3 5 vN0 (.bn bList .v (A1 vN3)),.fl 3 6 vN0 (.mk 7 (A2 vN1 (vN2/0))),.fl 3 7 vN0 (.mk 6 .nil),.fl 3 8 vN0 0,.fl 3 9 vN0 (.k .non),.fl 3 10 vN0 (.ca 4 (A1 (mE0 2 (A1 (mE0 0 .nil)))))]⟩
def t23:=d22::t22
def d23:Df:=⟨.me 2,"answer",1,1,sL [.rt (aT0 2 5)]⟩
def t24:=d23::t23
def d24:Df:=⟨.me 3,"answer",1,1,sL [.rt (.me 0 (aT0 3 6) .nil)]⟩
def t25:=d24::t24
def d25:Df:=⟨.me 3,"rests",1,1,sL [.rt (.b2 oIsN .v (mE0 0 .nil) (.k .non))]⟩
def t26:=d25::t25
def d26:Df:=⟨.mk 1,"__init__",3,3,sL [.fl 1 0 vN0 (vN1/0),.fl 1 1 vN0 (vN1/1),.fl 1 2 vN0 (vN1/2),.fl 1 3 vN0 (vN1/3),.fl 1 4 vN0 (.dc .o (vN1/4)),.fl 1 5 vN0 vN2,.fl 1 6 vN0 (.dn .o θ)]⟩
def t27:=d26::t26
def d27:Df:=⟨.me 2,"put",4,4,sL [.put (aT0 2 0/vN1) vN2 vN3]⟩
def t28:=d27::t27
def d28:Df:=⟨.me 2,"other",1,1,sL [.rt (1-aT0 2 4)]⟩
def t29:=d28::t28
def d29:Df:=⟨.me 2,"begin_page",5,5,sL [.put (aT0 2 1) (mE0 0 .nil) (.tu (A4 vN1 vN2 vN3 vN4)),.put (aT0 2 2) (mE0 0 .nil) (.ls .o .nil),.put (aT0 2 3) (mE0 0 .nil) (.ls .o .nil)]⟩
def t30:=d29::t29
def d30:Df:=⟨.me 2,"keep_box",3,3,sL [.ap (aT0 2 2/mE0 1 .nil) (.tu (A2 vN1 vN2))]⟩
def t31:=d30::t30
def d31:Df:=⟨.me 2,"keep_turn",4,4,sL [.ap (aT0 2 3/mE0 2 .nil) (.tu (A2 (.tu (A2 vN1 vN2)) vN3))]⟩
def t32:=d31::t31
def d32:Df:=⟨.me 2,"turn",1,1,sL [.fl 2 4 vN0 (mE0 3 .nil)]⟩
def t33:=d32::t32
def d33:Df:=⟨.fn,"do_small",2,2,sL [.cd (tsE (vN1/0) (kS "put")) (sL [.dr (mE0 5 (A3 (vN1/1) (vN1/2) (vN1/3)))]) (sL [.cd (tsE (vN1/0) (kS "begin")) (sL [.dr (mE0 3 (A4 (vN1/1) (vN1/2) (vN1/3) (vN1/4)))]) (sL [.cd (tsE (vN1/0) (kS "box")) (sL [.dr (mE0 2 (A2 (vN1/1) (vN1/2)))]) (sL [.cd (tsE (vN1/0) (kS "log")) (sL [.dr (mE0 1 (A3 (vN1/1) (vN1/2) (vN1/3)))]) (sL [.cd (tsE (vN1/0) (kS "turn")) (sL [.dr (mE0 0 .nil)]) .nil])])])])]⟩
def t34:=d33::t33
def d34:Df:=⟨.me 3,"small_step",2,1,sL [.set 1 (.pp (aT0 3 10) 0),.cd (tsE (vN1/0) (kS "wake")) (sL [.fl 3 9 vN0 (.mk 7 (A2 (mE0 14 (A1 (mE0 12 .nil))) (aT0 3 8)))]) (sL [.dr (.ca 0 (A2 (aT0 3 6) vN1))]),.cd (tsE (eLn (aT0 3 10)) 0) (sL [.cl θ (.at 1 6 (aT0 3 9))]) .nil]⟩
def t35:=d34::t34
def d35:Df:=⟨.me 2,"give",2,2,sL [.fl 2 5 vN0 vN1]⟩
def t36:=d35::t35
def d36:Df:=⟨.me 1,"worth",2,2,sL [.rt (.cd (.tr (.ii "str" vN1)) (.gt (aT0 1 4) vN1 (aT0 1 5)) vN1)]⟩
def t37:=d36::t36
def d37:Df:=⟨.me 3,"write_at",4,4,sL [.cd (.tr (.b2 oIn .v vN1 (aT0 3 3))) (sL [.put (.at 1 6 (aT0 3 9)) (.tu (A2 vN1 vN2)) vN3]) (sL [.dr (.me 9 (aT0 3 6) (A3 vN1 vN2 vN3))])]⟩
def t38:=d37::t37
def d38:Df:=⟨.me 3,"place_on",3,3,sL [.rt (.me 1 (aT0 3 9) (A1 vN2)%(aT0 3 2/vN1))]⟩
def t39:=d38::t38
def d39:Df:=⟨.me 0,"take",3,3,sL [.cd (.tr (.b2 oNi .v vN1 (aT0 0 0))) (sL [.put (aT0 0 0) vN1 vN2]) (sL [.cd (tsN (aT0 0 0/vN1) vN2) (sL [.fl 0 1 vN0 (.k (.bl θ))]) .nil])]⟩
def t40:=d39::t39
def d40:Df:=⟨.fn,"number_of",3,3,sL [cR0 (tsE vN0 (kS "+")) (vN1+vN2),cR0 (tsE vN0 (kS "-")) (vN1-vN2),cR0 (tsE vN0 (kS "*")) (vN1*vN2),cR0 (tsE vN0 (kS "<")) (.cd (tsL vN1 vN2) 1 0),cR0 (tsE vN0 (kS "=")) (.cd (tsE vN1 vN2) 1 0),cR0 (tsE vN0 (kS "&")) (.b2 oBan .v vN1 vN2),cR0 (tsE vN0 (kS "|")) (.b2 oBor .v vN1 vN2),.rt (.b2 oXor .v vN1 vN2)]⟩
def t41:=d40::t40
def d41:Df:=⟨.fn,"value",3,3,sL [.rt (.ca 0 (A3 vN0 vN1 vN2)%.g 0)]⟩
def t42:=d41::t41
def d42:Df:=⟨.me 2,"get_home",3,3,sL [.rt (aT0 2 0/vN1/vN2)]⟩
def t43:=d42::t42
def d43:Df:=⟨.me 3,"value_at",3,3,sL [cR0 (.tr (.b2 oIn .v (.tu (A2 vN1 vN2)) (.at 1 6 (aT0 3 9)))) (.at 1 6 (aT0 3 9)/.tu (A2 vN1 vN2)),.rt (.me 0 (aT0 3 6) (A2 vN1 vN2))]⟩
def t44:=d43::t43
def d44:Df:=⟨.me 3,"next_letter",3,1,sL [.set 1 (aT0 3 9),.set 2 (.at 1 2 vN1),.fa 1 2 iAdd vN1 1,.rt (.cd (tsL vN2 (eLn (aT0 3 5))) (aT0 3 5/vN2) 0)]⟩
def t45:=d44::t44
def d45:Df:=⟨.me 3,"set_by",3,2,sL [.set 2 (aT0 3 9),cR0 (tsE (vN1/0) (kS "copy")) (.me 8 vN2 (A1 (vN1/2))),cR0 (tsE (vN1/0) (kS "op")) (.ca 3 (A3 (vN1/2) (.me 8 vN2 (A1 (vN1/3))) (.me 8 vN2 (A1 (vN1/4))))),cR0 (tsE (vN1/0) (kS "load")) (mE0 1 (A2 (vN1/2) 0)),cR0 (tsE (vN1/0) (kS "take")) (mE0 1 (A2 (vN1/2) (mE0 6 (A2 (vN1/2) (vN1/3))))),.rt (mE0 0 .nil)]⟩
def t46:=d45::t45
def d46:Df:=⟨.me 3,"do_row",3,2,sL [.set 2 (aT0 3 9),.cd (tsE (vN1/0) (kS "store")) (sL [.dr (mE0 8 (A3 (vN1/1) 0 (.me 9 vN2 (A1 (vN1/2)))))]) (sL [.cd (tsE (vN1/0) (kS "lay")) (sL [.dr (mE0 8 (A3 (vN1/1) (mE0 7 (A2 (vN1/1) (vN1/2))) (.me 9 vN2 (A1 (vN1/3)))))]) (sL [.cd (tsE (vN1/0) (kS "say")) (sL [.dr (.me 6 (aT0 3 7) (A2 (.at 1 3 vN2) (.me 9 vN2 (A1 (vN1/1))))),.fa 1 3 iAdd vN2 1]) (sL [.cd (.ta (tsN (vN1/0) (kS "if")) (tsN (vN1/0) (kS "go"))) (sL [.put (.at 1 4 vN2) (vN1/1) (mE0 0 (A1 vN1))]) .nil])])])]⟩
def t47:=d46::t46
def d47:Df:=⟨.me 3,"place_behind",4,2,sL [.set 2 (aT0 3 9),.set 3 (aT0 3 1/.at 1 0 vN2),cR0 (.ta (tsE (vN1/0) (kS "if")) (tsE (.me 10 vN2 (A1 (vN1/1))) 0)) (vN3/1),.rt (vN3/0)]⟩
def t48:=d47::t47
def d48:Df:=⟨.fn,"writing_down",5,2,sL [.set 2 (.ls .v (A1 (.tu (A5 (kS "begin") (aT0 1 0) (aT0 1 1) (aT0 1 2) (aT0 1 3))))),.set 3 (cO0 [ψ,ς 0] (.it vN1) (.tu (A3 (kS "box") vN0 (.me 11 vN1 (A1 vN0))))),.set 4 (.il .v (aT0 1 6)),.rt (.b2 oAdd .o (vN2+vN3+.ca 31 (A2 (kS "log") vN4)+.ls .v (A1 (.tu (A1 (kS "turn"))))) (.ca 31 (A2 (kS "put") vN4)))]⟩
def t49:=d48::t48
def d49:Df:=⟨.me 3,"row_step",3,1,sL [.set 1 (aT0 3 9),.set 2 (aT0 3 0/.at 1 0 vN1),.fa 1 1 iAdd vN1 1,.cd (tsE (vN2/0) (kS "end")) (sL [.dr (.me 13 (aT0 3 6) (A1 (.me 12 vN1 (A1 (vN2/1))))),.rn]) .nil,.dr (mE0 2 (A1 vN2)),.fl 1 0 vN1 (mE0 1 (A1 vN2)),.cd (.tr (.b2 oIn .v (.at 1 0 vN1) (aT0 3 4))) (sL [.fl 3 10 vN0 (.ca 0 (A2 vN1 (aT0 3 4/.at 1 0 vN1)))]) .nil]⟩
def t50:=d49::t49
def d50:Df:=⟨.me 3,"step",1,1,sL [.cd (.tr (mE0 24 .nil)) (sL [.rn]) .nil,.cd (tsG (eLn (aT0 3 10)) 0) (sL [.dr (mE0 15 .nil)]) (sL [.dr (mE0 0 .nil)])]⟩
def t51:=d50::t50
def d51:Df:=⟨.fn,"walked",3,2,sL [.set 2 0,.wh 1100 (.ta (tsL vN2 vN1) (.tn (.tr (mE0 25 .nil)))) (sL [.dr (mE0 0 .nil),.au 2 iAdd 1]),.rt vN2]⟩
def t52:=d51::t51
def d52:Df:=⟨.me 3,"fail",2,2,sL [.cd (.tr (mE0 26 .nil)) (sL [.rn]) .nil,.fl 3 9 vN0 (.k .non),.fl 3 8 vN0 vN1,.fl 3 10 vN0 (.ca 34 (A1 (mE0 32 (A1 (mE0 30 .nil)))))]⟩
def t53:=d52::t52
def d53:Df:=⟨.fn,"drive",7,3,sL [.set 3 0,.set 4 0,.fo (.many [5,6]) (.it vN1) (sL [cR0 (tsG (vN3+vN5) vN2) (vN4+.ca 1 (A2 vN0 (vN2-vN3))),.au 4 iAdd (.ca 1 (A2 vN0 vN5)),.au 3 iAdd vN5,.dr (mE0 0 (A1 vN6))]),.rt (vN4+.ca 1 (A2 vN0 (vN2-vN3)))]⟩
def t54:=d53::t53
def d54:Df:=⟨.fn,"_law_whole",2,2,sL [.rt (.an (.ii "int" vN0) (.an (.nt (.ii "bool" vN0)) (.b2 oEq .v vN0 vN1)))]⟩
def t55:=d54::t54
def d55:Df:=⟨.fn,"_law_by_hand",8,3,sL [.set 3 0,.set 4 vN2,.fo (.many [5,6]) (.it vN1) (sL [.fo (.one 7) (rG1 (.bn bMin .v (A2 vN5 vN4))) (sL [.set 3 (vN3+.bn bInt .v (A1 (.nt (mE0 29 .nil)))),.dr (mE0 4 .nil)]),cR0 (tsG vN5 vN4) vN3,.set 4 (vN4-vN5),.dr (mE0 2 (A1 vN6))]),.fo (.one 7) (rG1 vN4) (sL [.set 3 (vN3+.bn bInt .v (A1 (.nt (mE0 29 .nil)))),.dr (mE0 4 .nil)]),.rt vN3]⟩
def t56:=d55::t55
def d56:Df:=⟨.me 0,"kept",2,1,sLb [.set 1 (.ls .w .nil),.wh 1100 (.tr (.b2 oIn .v (eLn vN1) (aT0 0 0))) (sL [.aps 1 (aT0 0 0/eLn vN1)])] (.fz 1 (sL [.rt vN1]))⟩
def t57:=d56::t56
def d57:Df:=⟨.me 3,"letters",1,1,sL [.rt (.me 0 (aT0 3 7) .nil)]⟩
def t58:=d57::t57
def d58:Df:=⟨.me 2,"cell",2,2,sL [.rt (aT0 2 0/vN1/0)]⟩
def t59:=d58::t58
def d59:Df:=⟨.me 3,"cell",2,2,sL [.rt (.me 0 (aT0 3 6) (A1 vN1))]⟩
def t60:=d59::t59
def d60:Df:=⟨.me 2,"shelf",2,2,sL [.rt (.bn bList .v (A1 (aT0 2 0/vN1)))]⟩
def t61:=d60::t60
def d61:Df:=⟨.me 3,"shelf",2,2,sL [.rt (.me 0 (aT0 3 6) (A1 vN1))]⟩
def t62:=d61::t61
def d62:Df:=⟨.me 3,"stands",1,1,sL [.rt (.cd (.to (.tr (mE0 36 .nil)) (tsG (eLn (aT0 3 10)) 0)) (.k .non) (.at 1 0 (aT0 3 9)))]⟩
def t63:=d62::t62
def d63:Df:=⟨.me 3,"count",1,1,sL [.rt (.cd (.tr (.b2 oIs .v (mE0 0 .nil) (.k .non))) (mE0 43 (A1 (mE0 41 .nil))/1) (.at 1 1 (aT0 3 9)))]⟩
def t64:=d63::t63
def d64:Df:=⟨.me 0,"torn",1,1,sL [.rt (aT0 0 1)]⟩
def t65:=d64::t64
def d65:Df:=⟨.me 3,"torn",1,1,sL [.rt (.me 0 (aT0 3 7) .nil)]⟩
def t66:=d65::t65
def d66:Df:=⟨.me 3,"box",2,2,sL [.rt (.cd (.tr (.b2 oIs .v (mE0 3 .nil) (.k .non))) 0 (.me 29 (aT0 3 9) (A1 vN1)))]⟩
def t67:=d66::t66
def d67:Df:=⟨.fn,"_law_same",9,4,sL [.fo (.one 4) (.it (.tu (A2 0 1))) (sL [cR0 (tsN (mE0 47 (A1 vN4)) (.me 47 vN1 (A1 vN4))) (.k (.bl ξ))]),cR0 (.to (tsN (mE0 45 .nil) (.me 45 vN1 .nil)) (.to (tsN (mE0 9 .nil) (.me 9 vN1 .nil)) (tsN (mE0 42 .nil) (.me 42 vN1 .nil)))) (.k (.bl ξ)),.fo (.many [5,6,7]) (.it (vN2/0)) (sL [cR0 (tsN (mE0 7 (A1 vN5)) (.me 7 vN1 (A1 vN5))) (.k (.bl ξ))]),.fo (.many [5,8,7]) (.it (vN2/1)) (sL [cR0 (tsN (mE0 5 (A1 vN5)) (.me 5 vN1 (A1 vN5))) (.k (.bl ξ))]),cR0 (.to (tsN (mE0 4 .nil) (.me 4 vN1 .nil)) (.to (tsN (mE0 3 .nil) (.me 3 vN1 .nil)) (tsN (mE0 1 .nil) (.me 1 vN1 .nil)))) (.k (.bl ξ)),.rt (.b2 oEq .v (cO0 [ψ,ς 0] (.it vN3) (.me 0 vN1 (A1 vN0))) (cO0 [ψ,ς 1] (.it vN3) (.me 0 vN1 (A1 vN0))))]⟩
def t68:=d67::t67
def d68:Df:=⟨.mk 4,"__init__",3,3,sL [.fl 4 0 vN0 (vN1/2),.fl 4 1 vN0 (.ca 54 (A1 vN1)),.fl 4 2 vN0 (.bn bList .v (A1 vN2)),.fl 4 3 vN0 (.ls .o .nil),.fl 4 4 vN0 (.dn .o ξ),.fl 4 5 vN0 (.dc .o (cO0 [ψ] (.it (vN1/0)) (.tu (A2 (vN0/0) (vN0/1))))),.fl 4 6 vN0 (.dc .o (cO0 [ψ] (.it (vN1/1)) (.tu (.cons (vN0/0) (.cons (.b2 oMul .o (.ls .v (A1 0)) (vN0/1)) .nil))))),.fl 4 7 vN0 0,.fl 4 8 vN0 0,.fl 4 9 vN0 0,.fl 4 10 vN0 (.k .non)]⟩
def t69:=d68::t68
def d69:Df:=⟨.me 4,"ended",1,1,sL [.rt (.b2 oIsN .v (aT0 4 10) (.k .non))]⟩
def t70:=d69::t69
def d70:Df:=⟨.me 4,"box",2,2,sL [.rt (.gt (aT0 4 4) vN1 0)]⟩
def t71:=d70::t70
def d71:Df:=⟨.me 4,"worth",2,2,sL [.rt (.cd (.tr (.ii "str" vN1)) (mE0 0 (A1 vN1)) vN1)]⟩
def t72:=d71::t71
def d72:Df:=⟨.me 4,"next_letter",2,1,sL [.set 1 (aT0 4 8),.fa 4 8 iAdd vN0 1,.rt (.cd (tsL vN1 (eLn (aT0 4 2))) (aT0 4 2/vN1) 0)]⟩
def t73:=d72::t72
def d73:Df:=⟨.me 4,"set_by",3,2,sL [cR0 (tsE (vN1/0) (kS "copy")) (mE0 1 (A1 (vN1/2))),cR0 (tsE (vN1/0) (kS "op")) (.ca 31 (A3 (vN1/2) (mE0 1 (A1 (vN1/3))) (mE0 1 (A1 (vN1/4))))),cR0 (tsE (vN1/0) (kS "load")) (aT0 4 5/(vN1/2)),.cd (tsE (vN1/0) (kS "take")) (sL [.set 2 (aT0 4 6/(vN1/2)),.rt (vN2/(mE0 1 (A1 (vN1/3))%eLn vN2))]) .nil,.rt (mE0 0 .nil)]⟩
def t74:=d73::t73
def d74:Df:=⟨.me 4,"do_row",3,2,sL [.cd (tsE (vN1/0) (kS "store")) (sL [.put (aT0 4 5) (vN1/1) (mE0 2 (A1 (vN1/2)))]) (sL [.cd (tsE (vN1/0) (kS "lay")) (sL [.set 2 (aT0 4 6/(vN1/1)),.put vN2 (mE0 2 (A1 (vN1/2))%eLn vN2) (mE0 2 (A1 (vN1/3)))]) (sL [.cd (tsE (vN1/0) (kS "say")) (sL [.ap (aT0 4 3) (mE0 2 (A1 (vN1/1)))]) (sL [.cd (.ta (tsN (vN1/0) (kS "if")) (tsN (vN1/0) (kS "go"))) (sL [.put (aT0 4 4) (vN1/1) (mE0 0 (A1 vN1))]) .nil])])])]⟩
def t75:=d74::t74
def d75:Df:=⟨.me 4,"place_behind",3,2,sL [.set 2 (aT0 4 1/aT0 4 7),cR0 (.ta (tsE (vN1/0) (kS "if")) (tsE (mE0 3 (A1 (vN1/1))) 0)) (vN2/1),.rt (vN2/0)]⟩
def t76:=d75::t75
def d76:Df:=⟨.me 4,"step",2,1,sL [.cd (.tr (mE0 6 .nil)) (sL [.rn]) .nil,.set 1 (aT0 4 0/aT0 4 7),.fa 4 9 iAdd vN0 1,.cd (tsE (vN1/0) (kS "end")) (sL [.fl 4 10 vN0 (mE0 4 (A1 (vN1/1)))]) (sL [.dr (mE0 1 (A1 vN1)),.fl 4 7 vN0 (mE0 0 (A1 vN1))])]⟩
def t77:=d76::t76
def d77:Df:=⟨.fn,"_law_ends",4,2,sL [.set 2 (.mk 8 (A2 vN0 vN1)),.fo (.one 3) (rG1 60) (sL [.dr (.me 0 vN2 .nil)]),.rt (.me 7 vN2 .nil)]⟩
def t78:=d77::t77
def d78:Df:=⟨.fd 1000,"drive",7,3,sL [.set 3 0,.set 4 0,.fo (.many [5,6]) (.it vN1) (sL [cR0 (tsG (vN3+vN5) vN2) (vN4+.ca 26 (A2 vN0 (vN2-vN3))),.au 4 iAdd (.ca 26 (A2 vN0 vN5)),.au 3 iAdd vN5,.dr (mE0 25 (A1 vN6))]),.rt (vN4+.ca 26 (A2 vN0 (vN2-vN3)))]⟩
def t79:=d78::t78
def d79:Df:=⟨.fn,"law",12,1,sL [.set 1 (.ca 74 (A1 vN0)),.set 2 (.ca 78 (A2 (.ca 77 (A2 vN0 0)) 12)),.set 3 (.ca 70 (A3 (.sl .v vN0 (.cons 5 .nil) (.cons 25 .nil)) vN1 (.ca 73 (A2 (.ca 77 (A2 vN0 3)%2147483629) (vN1/0))))),.set 4 (.ca 68 (A3 vN3 (.ca 77 (A2 vN0 4)) (.sl .v vN2 (.cons 5 .nil) (.cons 11 .nil)))),.set 5 (.ca 67 (A1 (.sl .v vN0 (.cons 25 .nil) (.cons 45 .nil)))),.set 6 (.ca 76 (A2 (.ca 77 (A2 vN0 3)) 4)),.set 7 (vN6/0%151),.cd (tsE (vN6/1%2) 0) (sL [.set 7 (.bn bSum .v (A1 (.co .v [ψ,ψ] (.many [0,1]) (.it (.sl .v vN5 .no (.cons (vN6/2%5) .nil))) .ys vN0)))]) .nil,.set 8 (.bn bList .v (A1 vN5)),.set 9 (.mk 56 (A3 vN3 vN4 (vN1/3))),.set 10 (.mk 56 (A3 vN3 vN4 (vN1/3))),.set 11 (.ca 25 (A3 vN9 vN8 vN7)),cR0 (.to (.tn (.tr (.ca 24 (A2 xy (.ca 23 (A3 qK vN5 vN7)))))) (.tn (.tr (.ca 11 (A4 vN9 qK vN3 vN2))))) (.k (.bl ξ)),cR0 (.tn (.tr (.ca 1 (A2 vN3 (vN1/3))))) (.b2 oEq .v vN8 vN5),.set 9 (.mk 56 (A3 vN3 vN4 (vN1/3))),.set 10 (.mk 56 (A3 vN3 vN4 (vN1/3))),.set 11 (.ca 0 (A2 vN9 (.sl .v vN8 .no (.cons 4 .nil)))),cR0 (.tn (.tr (.ca 24 (A2 xy (.ca 23 (A3 qK (.sl .v vN5 .no (.cons 4 .nil)) 1000)))))) (.k (.bl ξ)),.rt (.an (.ca 11 (A4 vN9 qK vN3 vN2)) (.b2 oEq .v vN8 vN5))]⟩
def t80:=d79::t79
noncomputable def rn(ρ:Nat->Nat):CV->CV
 |.ref i=>.ref (ρ i)
 |.g d=>.g d
 |.fn a F=>.fn a F
 |.own b t=>.own b t
abbrev rnP{κ:Type}(ρ:Nat->Nat)(l:η (κ×CV)):η (κ×CV):=l.map λp=>(p.1,rn ρ p.2)
def rnO(ρ:Nat->Nat):CO->CO
 |.e l=>.e (l.map (rn ρ))
 |.t l=>.t (l.map (rn ρ))
 |.dK l=>.dK (rnP ρ l)
 |.dT l=>.dT (rnP ρ l)
 |.ins c l=>.ins c (l.map (rn ρ))
abbrev rnS(ρ:Nat->Nat)(δ:Sl):Sl:=δ.map (zd0 (rn ρ))
structure Em(ρ:Nat->Nat)(a b:CH):Prop where
 inj:∀i j,ρ i=ρ j->i=j
 get:∀{i o},a[i]?=ς o->b[ρ i]?=ς (rnO ρ o)
 nw:∀k,ρ (a.length+k)=b.length+k
def Kp(ρ:Nat->Nat)(b b':CH):Prop:=∀j,(∀i,ρ i≠j)->b'[j]?=b[j]?
def Go{β:Type}(ρ:Nat->Nat)(b:CH)(y:ζ (β×CH))(x:β)(a':CH):Prop:=∃b',y=ς (x,b')/\Em ρ a' b'/\Kp ρ b b'
def Tr{α:Type}(R:(Nat->Nat)->α->α)(f:FM α):Prop:=∀{ρ δ a x a' b},Em ρ a b->f δ a=ς (x,a')->Go ρ b (f (rnS ρ δ) b) (R ρ x) a'
noncomputable abbrev rI{α:Type}(_:Nat->Nat)(x:α):α:=x
abbrev rnA(ρ:Nat->Nat)(l:η CV):η CV:=l.map (rn ρ)
def TrD(F:Fd):Prop:=∀{ρ cs a x a' b},Em ρ a b->F cs a=ς (x,a')->Go ρ b (F (rnA ρ cs) b) (rn ρ x) a'
variable{b' a':CH}{δ:Sl}
section
variable{ρ:Nat->Nat}{a b:CH}{c:CV}{m:Md}{α β:Type}
def Kp.refl:Kp ρ b b:=λ_ _=>rfl
def Kp.trans{b'':CH}(h:Kp ρ b b')(k:Kp ρ b' b''):Kp ρ b b'':=λj O=>(k j O).trans (h j O)
theorem Go.bind{y:ζ (α×CH)}{x:α}{a'':CH}{k:α×CH->ζ (β×CH)}{z:β}(h:Go ρ b y x a')(O:∀b',Em ρ a' b'->Go ρ b' (k (x,b')) z a''):Go ρ b (y.bind k) z a'':=by have⟨b1,rfl,E,f⟩:=h;have⟨b2,h2,W,U⟩:=O b1 E;exact⟨b2,h2,W,f.trans U⟩
def Go.here{x:α}(E:Em ρ a b):Go ρ b (ς (x,b)) x a:=⟨b,rfl,E,.refl⟩
theorem Go.map{y:ζ (α×CH)}{x:α}{k:α×CH->β×CH}{z:β}(h:Go ρ b y x a')(O:∀b',k (x,b')=(z,b')):Go ρ b (y.map k) z a':=by have⟨b1,rfl,E,f⟩:=h;exact⟨b1,by rw[qb0,O],E,f⟩
def bR{i:Nat}:rn ρ (.ref i)=.ref (ρ i):=rfl
def iw{d:Dt}:rn ρ (.g d)=.g d:=rfl
def dW:(rn ρ c).sol=c.sol:=by cases c<;>rfl
omit x in
def Ds:(rn ρ c).kp=c.kp:=by cases c<;>first|rfl|(rename_i b t;cases b<;>rfl)
omit x in
def BG:(rn ρ c).old=c.old:=by cases c<;>first|rfl|(rename_i b t;cases b<;>rfl)
def oS:rn ρ (lent c)=lent (rn ρ c):=by cases c<;>rfl
def uo:dH (rn ρ c)=dH c:=by cases c<;>rfl
def iy:bY (rn ρ c)=bY c:=by cases c<;>rfl
theorem cF:∀l:η CV,dats (l.map (rn ρ))=dats l
 |[]=>rfl
 |c::l=>by have:=cF l;cases c<;>simp[dats,rn,this]
theorem oT:∀l:η CV,gf (l.map (rn ρ))=gf l
 |[]=>rfl
 |c::l=>by
  have:=oT l;cases c with
  |g d=>cases d<;>simp[gf,rn,this]
  |_=>simp[gf,rn]
def kz(l:η CV):(l.map (rn ρ)).all CV.sol=l.all CV.sol:=by rw[zf7];exact List.all_congr rfl λc=>dW
def kF(l:η CV):(l.map (rn ρ)).all CV.old=l.all CV.old:=by rw[zf7];exact List.all_congr rfl λc=>BG
def BH(o:CO):vwO (rnO ρ o)=vwO o:=by
 cases o with
 |e l=>rwa[rnO,vwO,cF]
 |t l=>rfl
 |ins c l=>rfl
 |dK l|dT l=>have h:=cF (ρ:=ρ) (l.map (·.2));rw[qd5]at h;rwa[rnO,vwO,rnP,qd5,qb2];rwa[qb2]at h;rw[h]
def Em.vw(E:Em ρ a b){d:Dt}(h:vw a c=ς d):vw b (rn ρ c)=ς d:=by
 cases c with
 |ref i=>have⟨o,h1,h2⟩:=bS h;show(b[ρ i]?).bind vwO=ς d;rw[E.get h1,qa0,BH];exact h2
 |g d=>exact h
 |fn x F=>exact h
 |own x t=>exact h
def Em.vws(E:Em ρ a b):∀{l:η CV}{ds:η Dt},vws a l=ς ds->vws b (l.map (rn ρ))=ς ds
 |[],ds,h=>h
 |c::l,ds,h=>by have⟨d,h1,h2⟩:=bS h;have⟨es,O,rfl⟩:=mS h2;show(L2.vw b (rn ρ c)).bind _=_;rw[E.vw h1,qa0,E.vws O];rfl
def Em.push(E:Em ρ a b)(o:CO):Em ρ (a++[o]) (b++[rnO ρ o])/\Kp ρ b (b++[rnO ρ o])/\ρ a.length=b.length:=by
 have O:ρ a.length=b.length:=E.nw 0;refine⟨⟨E.inj,λ{i w} h=>?_,λk=>?_⟩,λj Z=>?_,O⟩
 .rcases qk1 i a.length with hi|hi
  .rw[gL hi]at h;have:=E.get h;rw[gL (ak this)];exact this
  .have U:i=a.length:=by have:=ak h;simp at this;lia
   subst U;simp at h;subst h;rw[O];simp
 .have:=E.nw (k+1);rwa[qc5,qj1];rw[show a.length+1+k=a.length+(k+1)by lia,this];lia
 .have W:j≠b.length:=λe=>Z _ (O.trans e.symm)
  rcases qk1 j b.length with hi|hi
  .rw[gL hi]
  .rw[qh4 (by simp;lia),qh4 hi]
theorem Em.set(E:Em ρ a b){i:Nat}{w:CO}(U:a[i]?=ς w)(o:CO):Em ρ (a.set i o) (b.set (ρ i) (rnO ρ o))/\Kp ρ b (b.set (ρ i) (rnO ρ o)):=by
 refine⟨⟨E.inj,λ{j u} h=>?_,λk=>‹E.nw k›⟩,λj O=>by rw[qt8 (O i)]⟩;by_cases O:i=j
 .subst O;rw[qe5 (ak U)]at h;cases h;rw[qe5 (ak (E.get U))]
 .rw[gN O]at h;rw[gN (λe=>O (E.inj _ _ e))];exact E.get h
omit x in
def Em.al(E:Em ρ a b){t:T}{x:CV}(h:al a t=ς (x,a')):Go ρ b (al b t) (rn ρ x) a':=by
 have O:∀o:CO,rnO ρ o=o->(CV.ref a.length,a++[o])=(x,a')->Go ρ b (ς (.ref b.length,b++[o])) (rn ρ x) a':=λo Z e=>by cases e;have⟨h1,h2,h3⟩:=E.push o;rw[Z]at h1 h2;exact⟨_,by rw[<- h3];rfl,h1,h2⟩
 have W:∀l:η Dt,rnO ρ (.e (l.map .g))=.e (l.map .g):=λl=>by simp[rnO,rn,qb2]
 unfold L2.al at h ⊢;split at h
 .cases h;exact .here E
 .exact O _ (W _) (qc9 h)
 .split at h
  .rename_i U;rwa[U,if_true];exact O _ (by simp[rnO,rn,rnP,qb2]) (qc9 h)
  .cases h
 .split at h
  .rename_i U;rwa[U,if_true];exact O _ (by simp[rnO,rn,rnP,qb2]) (qc9 h)
  .cases h
 .cases h
omit x in
def Em.fin(E:Em ρ a b){t:T}{x:CV}(h:fin m a t=ς (x,a')):Go ρ b (fin m b t) (rn ρ x) a':=by
 cases m with
 |v=>have⟨d,h1,h2⟩:=mS h;cases h2;exact⟨b,by show t.d.map _=_;rw[h1];rfl,E,.refl⟩
 |o=>exact E.al h
 |w=>
  unfold L2.fin at h ⊢;dsimp only at h ⊢;split at h<;>cases h
  rename_i O;rw[if_pos O];exact .here E
omit x in
def Em.finL(E:Em ρ a b){l:η CV}{x:CV}(h:finL m l a=ς (x,a')):Go ρ b (finL m (rnA ρ l) b) (rn ρ x) a':=by
 unfold L2.finL at h ⊢;rw[cF,kz];split at h
 .exact E.fin h
 .split at h<;>cases h
  rename_i hl;have⟨h1,h2,O⟩:=E.push (.e l);rw[if_pos hl];exact⟨_,by rw[<- O];rfl,h1,h2⟩
def nH{i:Nat}{c:CV}(h:δ[i]?=ς (ς c)):(rnS ρ δ)[i]?=ς (ς (rn ρ c)):=by simp[h]
theorem oU{κ:Type}[DecidableEq κ]{k:κ}:∀l:η (κ×CV),lkC (rnP ρ l) k=(lkC l k).map (rn ρ)
 |[]=>rfl
 |p::l=>by
  have O:=oU (k:=k) l;by_cases h:p.1=k
  .simp[lkC,rnP,qy5,h]
  .rwa[lkC,rnP,qa2,qy5,h,decide_false]at O ⊢;exact O
theorem BI{α β:Type}{f:α->β}{l:η α}{i:Int}:atI (l.map f) i=(atI l i).map f:=by unfold atI;rwa[qa3,qa6,Option.map_bind];rfl
def BJ{o:CO}{d:Dt}:ixO (rnO ρ o) d=(ixO o d).map (rn ρ):=by
 cases o with
 |e l|t l=>rwa[ixO,rnO];cases asI d<;>simp[BI]
 |dK l=>rwa[ixO,rnO];cases cO d<;>simp[oU]
 |dT l=>rwa[ixO,rnO];cases isK d<;>simp[oU]
 |ins c l=>rfl
def Em.ixV(E:Em ρ a b){d:Dt}{x:CV}(h:ixV a c d=ς x):ixV b (rn ρ c) d=ς (rn ρ x):=by
 cases c with
 |ref i=>have⟨o,h1,h2⟩:=bS h;show(b[ρ i]?).bind _=_;rw[E.get h1,qa0,BJ,h2];rfl
 |g d'=>unfold L2.ixV at h ⊢;have⟨z,h1,h2⟩:=bS h;have⟨y,O,rfl⟩:=mS h2;exact h
 |fn z F=>cases h
 |own z t=>unfold L2.ixV at h ⊢;have⟨z,h1,h2⟩:=bS h;have⟨y,O,rfl⟩:=mS h2;exact h
end
variable{ρ:Nat->Nat}{a:CH}{src:η (ζ Nat)}{fi:FM (η Dt)}
section
variable{f fa fb fk fe:Fg}{ft fu:FM Bool}{fs:FM (η CV)}{m:Md}{F:Fd}
def tr_K{d:Dt}:Tr rn (eK d):=λE h=>by cases h;exact .here E
omit x in
def tr_V{i:Nat}:Tr rn (eV i):=λ{ρ δ a x a' b} E h=>by
 unfold eV at h ⊢;split at h<;>cases h
 rename_i c hc;rw[nH hc];dsimp only;rw[oS];exact .here E
def tr_2{g:Dt->Dt->ζ T}(U:Tr rn fa)(hb:Tr rn fb):Tr rn (e2 m g fa fb):=λE h=>by
 have⟨p,h1,h⟩:=bS h;have⟨q,h2,h⟩:=bS h;have⟨x,Z,h⟩:=bS h;have⟨y,h4,h⟩:=bS h;have⟨t,W,h⟩:=bS h;refine(U E h1).bind λb1 E1=>(hb E1 h2).bind λb2 O=>?_
 dsimp only;rw[O.vw Z,qa0,O.vw h4,qa0,W];exact O.fin h
def uq(U:Tr rn f):Tr rI (aZ f):=λE h=>by
 have⟨p,h1,h⟩:=bS h;have⟨x,W,h⟩:=mS h;cases h;refine(U E h1).bind λb1 O=>?_
 dsimp only;rw[uo,W];exact .here O
def BK(U:Tr rn f):Tr rI (bJ f):=λE h=>by
 have⟨p,h1,h⟩:=bS h;have⟨d,h2,h⟩:=bS h;have⟨x,W,h⟩:=mS h;cases h;refine(U E h1).bind λb1 O=>?_
 dsimp only;rw[O.vw h2,qa0,W];exact .here O
def Du(O:Tr rI ft):Tr rI (tNt ft):=λE h=>by have⟨p,h1,h⟩:=mS h;cases h;exact(O E h1).map λ_=>rfl
omit x in
def Dv(U:Tr rI ft)(hb:Tr rI fu):Tr rI (tAn ft fu):=λE h=>by
 have⟨p,h1,h⟩:=bS h;refine(U E h1).bind λb1 O=>?_
 dsimp only;split at h
 .rename_i hp;rw[if_pos hp];exact hb O h
 .rename_i hp;rw[if_neg hp];cases h;exact .here O
omit x in
def Dw(U:Tr rI ft)(hb:Tr rI fu):Tr rI (iS ft fu):=λE h=>by
 have⟨p,h1,h⟩:=bS h;refine(U E h1).bind λb1 O=>?_
 dsimp only;split at h
 .rename_i hp;rw[if_pos hp];cases h;exact .here O
 .rename_i hp;rw[if_neg hp];exact hb O h
def Dx:Tr rI tYs:=λE h=>by cases h;exact .here E
omit x in
def BL(U:Tr rn fa)(hb:Tr rn fb):Tr rn (eAn fa fb):=λE h=>by
 have⟨p,h1,h⟩:=bS h;have⟨x,h2,h⟩:=bS h;refine(U E h1).bind λb1 O=>?_
 dsimp only;rw[uo,h2,qa0];split at h
 .rename_i hp;rw[if_pos hp];exact hb O h
 .rename_i hp;rw[if_neg hp];cases h;exact .here O
def BM(U:Tr rn f):Tr rn (eNt f):=λE h=>by
 have⟨p,h1,h⟩:=bS h;have⟨x,h2,h⟩:=bS h;cases h;refine(U E h1).bind λb1 O=>?_
 dsimp only;rw[uo,h2,qa0];exact .here O
def BN(U:Tr rn f):Tr rn (eNg f):=λE h=>by
 have⟨p,h1,h⟩:=bS h;have⟨x,h2,h⟩:=bS h;cases h;refine(U E h1).bind λb1 O=>?_
 dsimp only;rw[iy,h2,qa0];exact .here O
omit x in
def BO(U:Tr rI ft)(W:Tr rn fa)(hb:Tr rn fb):Tr rn (eIf ft fa fb):=λE h=>by
 have⟨p,h1,h⟩:=bS h;refine(U E h1).bind λb1 O=>?_
 dsimp only;split at h
 .rename_i hp;rw[if_pos hp];exact W O h
 .rename_i hp;rw[if_neg hp];exact hb O h
def Dy:Tr rnA aNl:=λE h=>by cases h;exact .here E
theorem Dz(U:Tr rn f)(hs:Tr rnA fs):Tr rnA (aCn f fs):=λE h=>by have⟨p,h1,h⟩:=bS h;have⟨q,h2,h⟩:=mS h;cases h;exact(U E h1).bind λb1 O=>(hs O h2).map λ_=>rfl
def DA(U:Tr rn fa)(hb:Tr rn fb):Tr rn (eIx fa fb):=λE h=>by
 have⟨p,h1,h⟩:=bS h;have⟨q,h2,h⟩:=bS h;have⟨d,W,h⟩:=bS h;have⟨c,h4,h⟩:=mS h;cases h;refine(U E h1).bind λb1 Z=>(hb Z h2).bind λb2 O=>?_
 dsimp only;rw[O.vw W,qa0,O.ixV h4];exact .here O
omit x in
def DB{c i:Nat}(U:Tr rn fa):Tr rn (eAt c i fa):=λ{ρ _ _ _ _ _} E h=>by
 have⟨p,h1,h⟩:=bS h;refine(U E h1).bind λb1 O=>?_
 rcases h
 rename_i j W;rcases h
 rename_i Z l hl;rcases h
 rename_i hc;have⟨x,h2,h⟩:=mS h;cases h;rw[W];rwa[bR,O.get hl,rnO,hc,if_true,qa6,h2,qb0];exact .here O
omit x in
def DC(hs:Tr rnA fs):Tr rn (eLs m fs):=λE h=>by
 have⟨p,h1,h⟩:=bS h;rcases h
 rename_i hl;refine(hs E h1).bind λb1 O=>?_
 dsimp only;rw[if_pos ‹hl›];exact O.finL h
omit x in
def DD(hs:Tr rnA fs):Tr rn (eTu fs):=λ{ρ _ _ _ _ _} E h=>by
 have⟨p,h1,h⟩:=bS h;rcases h
 rename_i hl;refine(hs E h1).bind λb1 O=>?_
 dsimp only;rw[if_pos ‹hl›,cF,kz];split at h
 .cases h;exact .here O
 .split at h<;>cases h
  rename_i hs;have⟨W,k2,U⟩:=O.push (.t p.1);rw[if_pos hs];exact⟨_,by rw[<- U];rfl,W,k2⟩
omit x in
def ze(U:TrD F)(hs:Tr rnA fs):Tr rn (eCa n F fs):=λE h=>by
 have⟨p,h1,h⟩:=bS h;unfold kCa at h;rcases h
 rename_i hl;refine(hs E h1).bind λb1 O=>?_
 dsimp only;unfold kCa;rw[if_pos ⟨by rw[qa3];exact hl.1,by rw[kF];exact hl.2⟩];exact U O h
theorem DE{d:Int}(hs:Tr rnA fs):Tr rnA (aDf d fs):=λE h=>by have⟨p,h1,h⟩:=mS h;cases h;exact(hs E h1).map λ_=>by simp[rn]
omit x in
def DF{c:Nat}(hF:TrD F)(W:Tr rn fa)(hs:Tr rnA fs):Tr rn (eMe c n F fa fs):=λ{ρ _ _ _ _ _} E h=>by
 have⟨p,h1,h⟩:=bS h;refine(W E h1).bind λb1 U=>?_
 rcases h
 rename_i j hj;rcases h
 rename_i c' l hl;rcases h
 rename_i hc;have⟨q,h2,h⟩:=bS h;unfold kCa at h;rcases h
 rename_i O;rw[hj];rwa[bR,U.get hl,rnO,hc,if_true];refine(hs U h2).bind λb2 Z=>?_
 unfold kCa;have e:(CV.ref (ρ j)::rnA ρ q.1)=rnA ρ (.ref j::q.1):=rfl;rw[e,if_pos ⟨by rw[qa3];exact O.1,by rw[kF];exact O.2⟩];exact hF Z h
omit x in
def DG{c:Nat}(hF:TrD F)(hs:Tr rnA fs):Tr rn (eMk c n F fs):=λ{ρ _ _ _ _ _} E h=>by
 have⟨p,h1,h⟩:=bS h;have⟨q,h2,h⟩:=bS h;unfold kCa at h2;rcases h2
 rename_i Z;rcases h
 rename_i hq;split at h<;>cases h
 rename_i hlt;refine(hs E h1).bind λb1 E1=>?_
 have⟨k1,k2,O⟩:=E1.push (.ins c []);have⟨b2,W,U,f2⟩:=hF k1 h2;rw[hq]at W;refine⟨b2,?_,U,k2.trans f2⟩;have e:(CV.ref b1.length::rnA ρ p.1)=rnA ρ (.ref p.2.length::p.1):=by rw[<- O];rfl
 dsimp only;unfold kCa;rw[e,if_pos ⟨by rw[qa3];exact Z.1,by rw[kF];exact Z.2⟩];have e2:b1++[CO.ins c []]=b1++[rnO ρ (.ins c [])]:=rfl;rw[e2,W,qa0];have e3:=U.nw 0;have e4:=E1.nw (q.2.length-p.2.length);rw[show p.2.length+(q.2.length-p.2.length)=q.2.length+0 by lia,e3]at e4;have:b1.length<b2.length:=by lia
 rwa[rn];rw[if_pos this,O]
def zf{o:ζ Fg}(U:∀f,o=ς f->Tr rn f):Tr rI (fOp o):=λE h=>by
 cases o with
 |none=>cases h;exact .here E
 |some f=>
  have⟨p,h1,h⟩:=bS h;have⟨i,h2,h⟩:=mS h;cases h;refine(U f rfl E h1).bind λb1 O=>?_
  dsimp only;rw[iy,h2];exact .here O
def DH{lo hi:ζ Fg}(U:Tr rn fa)(hl:∀f,lo=ς f->Tr rn f)(hh:∀f,hi=ς f->Tr rn f):Tr rn (eSl m fa lo hi):=λE h=>by
 have⟨p,h1,h⟩:=bS h;have⟨q,h2,h⟩:=bS h;have⟨r,h3,h⟩:=bS h;have⟨d,h4,h⟩:=bS h;have⟨t,W,h⟩:=bS h;refine(U E h1).bind λb1 E1=>(zf hl E1 h2).bind λb2 Z=>(zf hh Z h3).bind λb3 O=>?_
 dsimp only;rw[O.vw h4,qa0,W];exact O.fin h
def tr_B{g:η Dt->ζ T}(hs:Tr rnA fs):Tr rn (eB m g fs):=λE h=>by
 have⟨p,h1,h⟩:=bS h;have⟨ds,h2,h⟩:=bS h;have⟨t,U,h⟩:=bS h;refine(hs E h1).bind λb1 O=>?_
 dsimp only;unfold kB;rw[O.vws h2,qa0,U];exact O.fin h
def DI{c:String}(U:Tr rn f):Tr rn (eIs c f):=λE h=>by
 have⟨p,h1,h⟩:=bS h;have⟨d,h2,h⟩:=bS h;cases h;refine(U E h1).bind λb1 O=>?_
 dsimp only;rw[O.vw h2,qa0];exact .here O
omit x in
def DJ{g:Dt->η Dt->ζ T}(U:Tr rn fa)(hs:Tr rnA fs):Tr rn (eMt m g fa fs):=λE h=>by
 have⟨p,h1,h⟩:=bS h;refine(U E h1).bind λb1 E1=>?_
 rcases h
 rename_i z W;have⟨q,h2,h⟩:=bS h;have⟨ds,Z,h⟩:=bS h;have⟨t,h4,h⟩:=bS h;rw[W];rwa[rn];refine(hs E1 h2).bind λb2 O=>?_
 dsimp only;rw[O.vws Z,qa0,h4];exact O.fin h
def DK{t:Bool}:Tr rn (eDn m t):=λE h=>E.fin h
def DL{b:CH}{c:CV}(E:Em ρ a b)(h:ie a c=θ):ie b (rn ρ c)=θ:=by
 unfold ie at h ⊢;cases c with
 |ref i=>
  dsimp only[rn]at h ⊢;cases q:a[i]? with
  |none=>rw[q]at h;cases h
  |some o=>rw[E.get q];rw[q]at h;cases o<;>first|rfl|cases h
 |g d=>exact h
 |fn x F=>exact h
 |own x t=>exact h
omit x in
def Em.getV{b:CH}{c z x:CV}{k:Dt}(E:Em ρ a b)(h:getV a c k z=ς x):getV b (rn ρ c) k (rn ρ z)=ς (rn ρ x):=by
 unfold L2.getV at h ⊢;cases c with
 |ref i=>
  dsimp only[rn]at h ⊢;cases q:a[i]? with
  |none=>rw[q]at h;cases h
  |some o=>
   rw[E.get q];rw[q]at h;cases o<;>try(cases h;done)
   all_goals
    have⟨k',h1,rfl⟩:=mS h;rwa[rnO,h1,qb0,oU];rename_i l;cases lkC l k'<;>rfl
 |g d=>have⟨y,h1,h⟩:=bS h;have⟨r,h2,rfl⟩:=mS h;dsimp only[rn];cases h1;rwa[L2.vw,qa0,h2,qb0];cases r<;>rfl
 |fn x F=>cases h
 |own w t=>have⟨y,h1,h⟩:=bS h;have⟨r,h2,rfl⟩:=mS h;dsimp only[rn];have h1:t.d=ς y:=h1;rwa[L2.vw,h1,qa0,h2,qb0];cases r<;>rfl
omit x in
def DM(W:Tr rn fa)(Z:Tr rn fk)(he:Tr rn fe):Tr rn (eGt fa fk fe):=λE h=>by
 have⟨p,h1,h⟩:=bS h;rcases h
 rename_i hd;have⟨q,h2,h⟩:=bS h;have⟨r,h3,h⟩:=bS h;have⟨k,h4,h⟩:=bS h;rcases h
 rename_i hs;have⟨c,h5,h⟩:=mS h;cases h;refine(W E h1).bind λb1 U=>?_
 dsimp only;rw[if_pos (DL U hd)];refine(Z U h2).bind λb2 E2=>(he E2 h3).bind λb3 O=>?_
 dsimp only;rw[O.vw h4,qa0,dW,if_pos hs,O.getV h5];exact .here O
omit x in
def Em.itm{b:CH}{c:CV}{l:η (η Key×Dt)}(E:Em ρ a b)(h:nv a c=ς l):nv b (rn ρ c)=ς l:=by
 unfold nv at h ⊢;cases c with
 |ref i=>
  dsimp only[rn]at h ⊢;cases q:a[i]? with
  |none=>rw[q]at h;cases h
  |some o=>
   rw[E.get q];rw[q]at h;cases o<;>try(cases h;done)
   rename_i w;have e:rnP ρ w=w.map λp=>(p.1,rn ρ p.2):=rfl
   have O:(rnP ρ w).map (·.2)=(w.map (·.2)).map (rn ρ):=by simp[qb2]
   have e2:(rnP ρ w).map (·.1)=w.map (·.1):=by simp[qb2]
   rwa[rnO,O,e2,cF];exact h
 |g d=>exact h
 |fn x F=>exact h
 |own w t=>cases t<;>exact h
def DN(U:Tr rn fa):Tr rn (eIl m fa):=λE h=>by
 have⟨p,h1,h⟩:=bS h;have⟨l,h2,h⟩:=bS h;refine(U E h1).bind λb1 O=>?_
 dsimp only;rw[O.itm h2,qa0];exact O.fin h
omit x in
def Em.lst{b:CH}{i:Nat}{l:η CV}(E:Em ρ a b)(h:cK a i=ς l):cK b (ρ i)=ς (rnA ρ l)/\a[i]?=ς (.e l):=by
 unfold cK at h ⊢;split at h<;>cases h
 rename_i q;rw[E.get q];exact⟨rfl,q⟩
theorem fN{α β:Type}(f:α->β):∀(l:η α)(i:Nat),(l.map f).eraseIdx i=(l.eraseIdx i).map f
 |[],_=>rfl
 |_::_,0=>rfl
 |x::l,i+1=>by rwa[qa2,List.eraseIdx_cons_succ,fN f l i]
omit x in
def BP(W:Tr rn fa)(he:Tr rn fe):Tr rn (qF fa fe):=λ{ρ _ _ _ _ _} E h=>by
 have⟨p,h1,h⟩:=bS h;have⟨q,h2,h⟩:=bS h;rcases h
 rename_i i hi;have⟨l0,h3,h⟩:=bS h;have⟨l,h4,h⟩:=bS h;have⟨j,Z,h⟩:=bS h;rcases h
 rename_i hj;have⟨c,h6,h⟩:=mS h;cases h;refine(W E h1).bind λb1 U=>(he U h2).bind λb2 O=>?_
 have⟨k1,k2⟩:=O.set (O.lst h4).2 (.e (l.eraseIdx j.toNat));rw[hi];rwa[bR,(U.lst h3).1,(O.lst h4).1,qa0,iy,Z,qa3];rw[if_pos hj];rwa[qa6,h6,qb0];refine⟨_,rfl,?_,?_⟩
 .rw[fN];exact k1
 .rw[fN];exact k2
def Em.seq{b:CH}{c:CV}{l:η CV}(E:Em ρ a b)(h:lM a c=ς l):lM b (rn ρ c)=ς (rnA ρ l):=by
 have O:∀l:η Dt,rnA ρ (l.map .g)=l.map .g:=λl=>by simp[rn,qb2]
 unfold lM at h ⊢;cases c with
 |ref i=>
  dsimp only[rn]at h ⊢;cases q:a[i]? with
  |none=>rw[q]at h;cases h
  |some o=>rw[E.get q];rw[q]at h;cases o<;>first|(cases h;done)|(cases h;rfl)
 |g d=>cases d<;>first|(cases h;done)|(cases h;rw[O];rfl)
 |fn x F=>cases h
 |own w t=>cases t<;>first|(cases h;done)|(cases h;rw[O];rfl)
omit x in
def Em.pair{b:CH}{c:CV}{p:Key×CV}(E:Em ρ a b)(h:cg a c=ς p):cg b (rn ρ c)=ς (p.1,rn ρ p.2):=by
 cases c with
 |ref i=>
  unfold cg at h ⊢;dsimp only[rn]at h ⊢;rcases h
  rename_i k c hc;have⟨k',h1,rfl⟩:=mS h;rw[E.get hc];rwa[rnO,qa2,qe3,rn,h1,qb0]
 |g d=>
  unfold cg at h;rcases h
  .rename_i k d e;cases e;have⟨k',h1,rfl⟩:=mS h;rwa[cg,rn,h1,qb0]
  .rename_i e;cases e
 |fn x F=>cases h
 |own w t=>cases h
def Em.pairs{b:CH}(E:Em ρ a b):∀{l:η CV}{ps:η (Key×CV)},aO a l=ς ps->aO b (rnA ρ l)=ς (rnP ρ ps)
 |[],ps,h=>by cases h;rfl
 |c::l,ps,h=>by have⟨p,h1,h⟩:=bS h;have⟨O,h2,rfl⟩:=mS h;show(cg b (rn ρ c)).bind _=_;rw[E.pair h1,qa0,E.pairs h2];rfl
omit x in
def DO(Z:Tr rn fa):Tr rn (eDc m fa):=λ{ρ _ _ _ _ _} E h=>by
 have⟨p,h1,h⟩:=bS h;have⟨l,h2,h⟩:=bS h;have⟨ps,h3,h⟩:=bS h;rcases h
 rename_i hn;refine(Z E h1).bind λb1 O=>?_
 have W:(rnP ρ ps).map (·.2)=(ps.map (·.2)).map (rn ρ):=by simp[qb2]
 have e2:(rnP ρ ps).map (·.1)=ps.map (·.1):=by simp[qb2]
 dsimp only;rw[O.seq h2,qa0,O.pairs h3,qa0,e2,if_pos hn];unfold lN at h ⊢;rw[W,e2,cF,kz];split at h
 .exact O.fin h
 .split at h
  rotate_left
  .cases h
  rename_i hl;cases h;have⟨k1,k2,U⟩:=O.push (.dK ps);rw[if_pos hl];exact⟨_,by rw[<- U];rfl,k1,k2⟩
omit x in
def DP(U:Tr rn f):Tr rI (iE f):=λE h=>by
 have⟨p,h1,h⟩:=bS h;refine(U E h1).bind λb1 O=>?_
 rcases h
 rename_i d W;have⟨l,h2,h⟩:=mS h;cases h;rw[W];rwa[rn,h2,qb0];exact .here O
def DQ(hs:Tr rnA fs):Tr rI (iR n fs):=λE h=>by
 have⟨p,h1,h⟩:=bS h;have⟨is,h2,h⟩:=bS h;have⟨l,O,h⟩:=mS h;cases h;refine(hs E h1).bind λb1 U=>?_
 dsimp only;rw[oT,h2,qa0,O];exact .here U
omit x in
def DR(U:Tr rn f):Tr rI (iN f):=λE h=>by
 have⟨p,h1,h⟩:=bS h;refine(U E h1).bind λb1 O=>?_
 rcases h
 all_goals
  rename_i d W;cases h;rw[W];exact .here O
theorem oV{ρ:Nat->Nat}:∀{is:η Nat}{ds:η Dt}{δ δ':Sl},gj is ds δ=ς δ'->gj is ds (rnS ρ δ)=ς (rnS ρ δ')
 |[],[],δ,δ',h=>by cases h;rfl
 |i::is,d::ds,δ,δ',h=>by have:=oV (ρ:=ρ) (is:=is) (ds:=ds) h;rwa[rnS,qr2,qb0,rn]at this;exact this
 |[],_::_,_,_,h=>by cases h
 |_::_,[],_,_,h=>by cases h
def nI{pt:Pt}{d:Dt}{δ':Sl}(h:bnd pt d δ=ς δ'):bnd pt d (rnS ρ δ)=ς (rnS ρ δ'):=by
 cases pt with
 |one i=>cases h;rwa[bnd,rnS,qr2,qb0,rn]
 |many is=>cases d<;>first|(cases h;done)|exact oV h
def DS:gC src (rnS ρ δ)=rnS ρ (gC src δ):=by
 unfold gC rnS;rw[qd5];refine qn2 λo _=>?_
 cases o with
 |none=>rfl
 |some j=>
  show((zg2 (zd0 (rn ρ)) δ)[j]?.join).map lent=(((δ[j]?).join).map lent).map (rn ρ);rw[qa6];cases q:δ[j]? with
  |none=>rfl
  |some x=>cases x with
   |none=>rfl
   |some c=>show ς (lent (rn ρ c))=ς (rn ρ (lent c));rw[oS]
omit x in
theorem kG{pt:Pt}(O:Tr rI ft)(U:Tr rn fe):∀{l:η Dt}{a b:CH}{x:η CV}{a':CH},Em ρ a b->aE (bnd pt) ft fe δ l a=ς (x,a')->Go ρ b (aE (bnd pt) ft fe (rnS ρ δ) l b) (rnA ρ x) a'
 |[],a,b,x,a',E,h=>by cases h;exact .here E
 |d::l,a,b,x,a',E,h=>by
  have⟨δ1,h1,h⟩:=bS h;have⟨p,h2,h⟩:=bS h;show Go ρ b ((bnd pt d (rnS ρ δ)).bind _) _ _;rw[nI h1,qa0];refine(O E h2).bind λb1 W=>?_
  dsimp only;split at h
  .rename_i hp;rw[if_pos hp];have⟨q,h3,h⟩:=bS h;rcases h
   rename_i hs;have⟨z,h4,h⟩:=mS h;cases h;refine(U W h3).bind λb2 Z=>?_
   dsimp only;rw[dW,if_pos hs];exact(kG O U Z h4).map λ_=>rfl
  .rename_i hp;rw[if_neg hp];exact kG O U W h
omit x in
def DT{pt:Pt}(hi:Tr rI fi)(U:Tr rI ft)(Z:Tr rn fe):Tr rn (eCo m src fi (bnd pt) ft fe):=λE h=>by
 have⟨p,h1,h⟩:=bS h;have⟨q,h2,h⟩:=bS h;rcases h
 rename_i hl;refine(hi E h1).bind λb1 O=>?_
 dsimp only;rw[DS];refine(kG U Z O h2).bind λb2 W=>?_
 dsimp only;rw[if_pos ‹hl›];exact W.finL h
end
noncomputable def Og.hp:Og->CH
 |.nx _ ch|.rt _ ch|.bk _ ch|.ct _ ch=>ch
def Og.mv(ρ:Nat->Nat)(b:CH):Og->Og
 |.nx δ _=>.nx (rnS ρ δ) b
 |.rt c _=>.rt (rn ρ c) b
 |.bk δ _=>.bk (rnS ρ δ) b
 |.ct δ _=>.ct (rnS ρ δ) b
def GoS(ρ:Nat->Nat)(b:CH)(y:ζ Og)(o:Og):Prop:=∃b',y=ς (o.mv ρ b')/\Em ρ o.hp b'/\Kp ρ b b'
def TrS(g:Fs):Prop:=∀{ρ δ a o b},Em ρ a b->g δ a=ς o->GoS ρ b (g (rnS ρ δ) b) o
section
variable{ρ:Nat->Nat}{a b:CH}{α:Type}
theorem Go.bindS{y:ζ (α×CH)}{x:α}{k:α×CH->ζ Og}{o:Og}(h:Go ρ b y x a')(O:∀b',Em ρ a' b'->GoS ρ b' (k (x,b')) o):GoS ρ b (y.bind k) o:=by have⟨b1,rfl,E,f⟩:=h;have⟨b2,h2,W,U⟩:=O b1 E;exact⟨b2,h2,W,f.trans U⟩
theorem GoS.bind{y:ζ Og}{o' o:Og}{k:Og->ζ Og}(h:GoS ρ b y o')(O:∀b',Em ρ o'.hp b'->GoS ρ b' (k (o'.mv ρ b')) o):GoS ρ b (y.bind k) o:=by have⟨b1,rfl,E,f⟩:=h;have⟨b2,h2,W,U⟩:=O b1 E;exact⟨b2,h2,W,f.trans U⟩
def GoS.nx(E:Em ρ a b):GoS ρ b (ς (.nx (rnS ρ δ) b)) (.nx δ a):=⟨b,rfl,E,.refl⟩
def GoS.rt{c:CV}(E:Em ρ a b):GoS ρ b (ς (.rt (rn ρ c) b)) (.rt c a):=⟨b,rfl,E,.refl⟩
theorem GoS.put{i:Nat}{w o:CO}(E:Em ρ a b)(O:a[i]?=ς w):GoS ρ b (ς (.nx (rnS ρ δ) (b.set (ρ i) (rnO ρ o)))) (.nx δ (a.set i o)):=let ⟨h1,h2⟩:=E.set O o;⟨_,rfl,h1,h2⟩
end
variable{o':CO}
section
variable{f fa fb fk fe:Fg}{ft fu:FM Bool}{fs:FM (η CV)}{m:Md}{F:Fd}{g g1 g2:Fs}{i:Nat}
def BQ:TrS ax:=λE h=>by cases h;exact .nx E
def BR(h1:TrS g1)(h2:TrS g2):TrS (aj g1 g2):=λE h=>by
 have⟨o,U,h⟩:=bS h;refine(h1 E U).bind λb1 O=>?_
 cases o with
 |nx δ ch=>exact h2 O h
 |_=>cases h;exact⟨b1,rfl,O,.refl⟩
def kJ{c:CV}:rnS ρ (δ.set i (ς c))=(rnS ρ δ).set i (ς (rn ρ c)):=by rwa[rnS,qr2,qb0]
omit x in
def DU(U:TrS g):TrS (sFz i g):=λ{ρ δ a o b} E h=>by
 unfold sFz at h ⊢;rcases h
 rename_i t O;have⟨d,h1,h⟩:=bS h;rw[nH O];rwa[rn,h1,qa0];have:=U E h;rw[kJ]at this;exact this
theorem DV(U:Tr rn f):TrS (sDr f):=λE h=>by have⟨p,h1,rfl⟩:=mS h;have⟨b1,h2,O,k⟩:=U E h1;exact⟨b1,by unfold sDr;rw[h2];rfl,O,k⟩
omit x in
def DW(U:Tr rn f):TrS (sRt f):=λE h=>by
 have⟨p,h1,h⟩:=bS h;split at h<;>cases h
 rename_i W;refine(U E h1).bindS λb1 O=>?_
 dsimp only;rw[dW,if_pos W];exact .rt O
def DX:TrS sRn:=λE h=>by cases h;exact⟨_,rfl,E,.refl⟩
omit x in
def DY(U:Tr rI ft)(h1:TrS g1)(h2:TrS g2):TrS (sIf ft g1 g2):=λE h=>by
 have⟨p,W,h⟩:=bS h;refine(U E W).bindS λb1 O=>?_
 dsimp only;split at h
 .rename_i hp;rw[if_pos hp];exact h1 O h
 .rename_i hp;rw[if_neg hp];exact h2 O h
omit x in
def BS(U:Tr rn f):TrS (bC i f):=λE h=>by
 have⟨p,h1,h⟩:=bS h;split at h<;>cases h
 rename_i W;refine(U E h1).bindS λb1 O=>?_
 dsimp only;rw[Ds,if_pos W,<- kJ];exact .nx O
theorem kL{pt:Pt}(W:TrS g):∀{l:η Dt}{δ:Sl}{a b:CH}{o:Og},Em ρ a b->bE (bnd pt) g l δ a=ς o->GoS ρ b (bE (bnd pt) g l (rnS ρ δ) b) o
 |[],δ,a,b,o,E,h=>by cases h;exact .nx E
 |d::l,δ,a,b,o,E,h=>by
  have⟨δ1,h1,h⟩:=bS h;have⟨Z,h2,h⟩:=bS h;show GoS ρ b ((bnd pt d (rnS ρ δ)).bind _) _;rw[nI h1,qa0];refine(W E h2).bind λb1 U=>?_
  cases Z with
  |nx O ch2=>exact kL W U h
  |ct O ch2=>exact kL W U h
  |bk O ch2=>cases h;exact .nx U
  |rt c ch2=>cases h;exact .rt U
theorem BT{pt:Pt}(hi:Tr rI fi)(U:TrS g):TrS (lH fi (bnd pt) g):=λE h=>by have⟨p,h1,h⟩:=bS h;exact(hi E h1).bindS λb1 O=>kL U O h
omit x in
theorem ur(Z:Tr rI ft)(W:TrS g):∀{n:Nat},TrS (whZ ft g n)
 |0,_,_,_,_,_,_,h=>by cases h
 |n+1,ρ,δ,a,o,b,E,h=>by
  have⟨p,h1,h⟩:=bS h;refine(Z E h1).bindS λb1 E1=>?_
  dsimp only;split at h
  .rename_i hp;rw[if_pos hp];have⟨o1,h2,h⟩:=bS h;refine(W E1 h2).bind λb2 U=>?_
   cases o1 with
   |nx O ch2=>exact ur Z W U h
   |ct O ch2=>exact ur Z W U h
   |bk O ch2=>cases h;exact .nx U
   |rt c ch2=>cases h;exact .rt U
  .rename_i hp;rw[if_neg hp];cases h;exact .nx E1
theorem oW{κ:Type}[DecidableEq κ]{ρ:Nat->Nat}{k:κ}{c:CV}:∀l:η (κ×CV),bF (rnP ρ l) k (rn ρ c)=rnP ρ (bF l k c)
 |[]=>rfl
 |p::l=>by
  have O:=oW (ρ:=ρ) (k:=k) (c:=c) l;rwa[bF,rnP,qa2]at O ⊢;split
  .rfl
  .rw[O];rfl
omit x in
def xz{o:CO}{d:Dt}{c:CV}(h:gk o d c=ς o'):gk (rnO ρ o) d (rn ρ c)=ς (rnO ρ o'):=by
 cases o with
 |e l=>have⟨j,h1,h⟩:=bS h;have⟨n,h2,rfl⟩:=mS h;rwa[gk,rnO,h1,qa0,qa3,h2,qb0,qr2]
 |dK l|dT l=>
  have⟨j,h1,h⟩:=bS h;split at h<;>cases h
  rename_i hl;rwa[gk,rnO,h1,qa0,qa3,hl,if_true,oW]
 |t l=>cases h
 |ins c l=>cases h
omit x in
def BU(W:Tr rn fa)(Z:Tr rn fk)(he:Tr rn fe):TrS (sPt fa fk fe):=λ{ρ _ _ _ _} E h=>by
 have⟨p,h1,h⟩:=bS h;have⟨q,h2,h⟩:=bS h;have⟨r,h3,h⟩:=bS h;rcases h
 rename_i j hj;rcases h
 rename_i hs;have⟨d,h4,h⟩:=bS h;have⟨o',h5,rfl⟩:=mS h;have⟨o,U,h7⟩:=bS h5;refine(he E h1).bindS λb1 E1=>(W E1 h2).bindS λb2 E2=>(Z E2 h3).bindS λb3 O=>?_
 rw[hj];rwa[bR,dW,hs,if_true,O.vw h4,qa0,O.get U,xz h7,qb0];exact .put O U
def BV:c9 (rnS ρ δ) i=c9 δ i:=by
 unfold c9;rw[qa6];cases q:δ[i]? with
 |none=>rfl
 |some x=>cases x with
  |none=>rfl
  |some c=>cases c<;>rfl
omit x in
def oX{c k:Nat}{o:CO}{x:CV}(h:cP c k o x=ς o'):cP c k (rnO ρ o) (rn ρ x)=ς (rnO ρ o'):=by
 cases o<;>try(cases h;done)
 rename_i W l;unfold cP at h ⊢;rwa[rnO,qa3,dW];simp only at h;rcases h
 rename_i hc;rw[if_pos hc];split at h
 .rename_i O;rw[if_pos O];cases h;rwa[qr2,rnO]
 .rename_i O;rw[if_neg O];split at h<;>cases h
  rename_i U;rw[if_pos U];rwa[rnO,qd1,qa2,qe3]
omit x in
def DZ{c k:Nat}(W:Tr rn fa)(he:Tr rn fe):TrS (sFl c k fa fe):=λ{ρ _ _ _ _} E h=>by
 have⟨p,h1,h⟩:=bS h;have⟨q,h2,h⟩:=bS h;rcases h
 rename_i j hj;have⟨o',Z,rfl⟩:=mS h;have⟨o,U,h7⟩:=bS Z;refine(he E h1).bindS λb1 E1=>(W E1 h2).bindS λb2 O=>?_
 rw[hj];rwa[bR,O.get U,qa0,oX h7,qb0];exact .put O U
omit x in
def D0{c k:Nat}{op:Int->Int->Int}(ha:Tr rn fa)(he:Tr rn fe):TrS (sFa c k op fa fe):=λ{ρ _ _ _ _} E h=>by
 have⟨p,h1,h⟩:=bS h;rcases h
 rename_i j hj;rcases h
 rename_i c' l hl;rcases h
 rename_i hc;have⟨x,h2,h⟩:=bS h;have⟨n,Z,h⟩:=bS h;have⟨q,h4,h⟩:=bS h;have⟨n2,h5,h⟩:=bS h;have⟨o',h6,rfl⟩:=mS h;have⟨o,W,h8⟩:=bS h6;refine(ha E h1).bindS λb1 U=>?_
 rw[hj];rwa[bR,U.get hl,rnO,hc,if_true,qa6,h2,qb0,qa0,iy,Z];refine(he U h4).bindS λb2 O=>?_
 have:=oX (ρ:=ρ) h8;rw[iw]at this;rwa[iy,h5,qa0,O.get W,this,qb0];exact .put O W
def D3{op:Int->Int->Int}(Z:Tr rn fe):TrS (sAu i op fe):=λ{ρ δ _ _ _} E h=>by
 have⟨n,h1,h⟩:=bS h;have⟨q,h2,h⟩:=bS h;have⟨k,W,rfl⟩:=mS h
 have e:((rnS ρ δ)[i]?.join.bind bY)=ς n:=by
  have⟨c,O,k2⟩:=bS h1
  have:δ[i]?=ς (ς c):=by
   cases q:δ[i]? with
   |none=>rw[q]at O;cases O
   |some y=>rw[q]at O;simp at O;rw[O]
  rw[nH this];simp[iy,k2]
 unfold sAu;rw[e,qa0];refine(Z E h2).bindS λb2 U=>?_
 rwa[iy,W,qb0];have e:(rnS ρ δ).set i (ς (.g (.int (op n k))))=rnS ρ _:=(kJ (ρ:=ρ) (c:=.g (.int (op n k)))).symm;rw[e];exact .nx U
omit x in
def D4{pt:Pt}(W:Tr rn fe):TrS (sUn pt fe):=λ{ρ δ _ _ _} E h=>by
 have⟨p,h1,h⟩:=bS h;rcases h
 rename_i d U;have⟨δ',h2,rfl⟩:=mS h;refine(W E h1).bindS λb2 O=>?_
 rw[U];rwa[iw,nI h2,qb0];exact .nx O
omit x in
def D5(W:Tr rn fa)(he:Tr rn fe):TrS (sAp fa fe):=λ{ρ δ _ _ _} E h=>by
 have⟨p,h1,h⟩:=bS h;have⟨q,h2,h⟩:=bS h;rcases h
 rename_i j hj;have⟨l0,Z,h⟩:=bS h;have⟨l,h4,h⟩:=bS h;rcases h
 rename_i hl;cases h;refine(W E h1).bindS λb1 U=>(he U h2).bindS λb2 O=>?_
 rw[hj];rwa[bR,(U.lst Z).1,(O.lst h4).1,qa0,qa3,dW];rw[if_pos hl];have:=GoS.put (δ:=δ) (o:=.e (l++[q.1])) O (O.lst h4).2;rwa[rnO,qd1,qa2,qe3]at this;exact this
omit x in
def BW(Z:Tr rn fe):TrS (sAs i fe):=λ{ρ δ _ _ _} E h=>by
 have⟨q,h2,h⟩:=bS h;rcases h
 rename_i d l W hl;rcases h
 rename_i U;cases h;refine(Z E h2).bindS λb2 O=>?_
 rw[W];rwa[iw,BV,hl];rw[if_pos U];have e:(rnS ρ δ).set i (ς (.own θ (.e (l++[d]))))=rnS ρ _:=(kJ (ρ:=ρ) (c:=.own θ (.e (l++[d])))).symm;rw[e];exact .nx O
omit x in
def D6{t:Bool}(Z:Tr rn fa):TrS (sCl t fa):=λ{ρ _ _ _ _} E h=>by
 have⟨p,h1,h⟩:=bS h;rcases h
 rename_i j hj;have⟨o',h5,rfl⟩:=mS h;have⟨o,U,W⟩:=bS h5;refine(Z E h1).bindS λb2 O=>?_
 have e:Bt t (rnO ρ o)=ς (rnO ρ o'):=by cases o<;>cases t<;>first|(cases W;done)|(cases W;rfl)
 rw[hj];rwa[bR,O.get U,qa0,e,qb0];exact .put O U
omit x in
def Em.dk{b:CH}{i:Nat}{l:η (Key×CV)}(E:Em ρ a b)(h:gm a i=ς l):gm b (ρ i)=ς (rnP ρ l)/\a[i]?=ς (.dK l):=by
 unfold gm at h ⊢;split at h<;>cases h
 rename_i q;rw[E.get q];exact⟨rfl,q⟩
omit x in
def D7(W:Tr rn fa)(he:Tr rn fe):TrS (sUp fa fe):=λ{ρ δ _ _ _} E h=>by
 have⟨p,h1,h⟩:=bS h;have⟨q,h2,h⟩:=bS h;rcases h
 rename_i i j hi hj;have⟨l0,h3,h⟩:=bS h;have⟨l,h4,h⟩:=bS h;have⟨n,Z,h⟩:=bS h;rcases h
 rename_i hl;cases h;refine(W E h1).bindS λb1 U=>(he U h2).bindS λb2 O=>?_
 rw[hi,hj];have e:((rnP ρ l++rnP ρ n).map (·.1))=(l++n).map (·.1):=by simp[qb2]
 rwa[bR,(U.dk h3).1,(O.dk h4).1,(O.dk Z).1,qa0];rw[if_pos ⟨λz=>hl.1 (O.inj _ _ z),by rw[e];exact hl.2.1,‹hl.2.2›⟩];have:=GoS.put (δ:=δ) (o:=.dK (l++n)) O (O.dk h4).2;rwa[rnO,rnP,qd1]at this;exact this
end
def TrN:En->Prop
 |.fn _ _ F|.fd _ _ _ F|.me _ _ _ F|.mk _ _ F=>TrD F
section
variable{tb:Tb}
def bj:Tr rn nF:=λ_ h=>by cases h
def ac{α:Type}{R:(Nat->Nat)->α->α}:Tr R (λ_ _=>ψ):=λ_ h=>by cases h
theorem tr_E(ht:∀e∈tb.f,TrN e):∀e:E,Tr rn (evE tb e)/\Tr rI (evT tb e)/\Tr rnA (evA tb e)/\Tr rI (evI tb e)/\(∀f,evO tb e=ς f->Tr rn f)/\Tr rI (aZ (evE tb e)):=by
 have one:∀{e:E},Tr rn (evE tb e)->Tr rI (evT tb e)->Tr rnA (evA tb e)->Tr rI (evI tb e)->(∀f,evO tb e=ς f->Tr rn f)->Tr rn (evE tb e)/\Tr rI (evT tb e)/\Tr rnA (evA tb e)/\Tr rI (evI tb e)/\(∀f,evO tb e=ς f->Tr rn f)/\Tr rI (aZ (evE tb e)):=λh1 h2 h3 h4 h5=>⟨h1,h2,h3,h4,h5,uq h1⟩
 have no:∀f,ς nF=ς f->Tr rn f:=λf h=>by cases h;exact bj
 intro e;induction e with
 |k d=>exact one tr_K (@ac _ _) (@ac _ _) (@ac _ _) no
 |v i=>exact one tr_V (@ac _ _) (@ac _ _) (@ac _ _) no
 |g j=>
  refine one ?_ (@ac _ _) (@ac _ _) (@ac _ _) no;show Tr rn (gcE tb.gc[j]?);cases tb.gc[j]? with
  |none=>show Tr rn nF;exact bj
  |some p=>show Tr rn (eK p.2);exact tr_K
 |b2 o m x y O W=>exact one (tr_2 O.1 W.1) (@ac _ _) (@ac _ _) (@ac _ _) no
 |nt x O=>exact one (BM O.1) (@ac _ _) (@ac _ _) (@ac _ _) no
 |ng x O=>exact one (BN O.1) (@ac _ _) (@ac _ _) (@ac _ _) no
 |an x y O W=>exact one (BL O.1 W.1) (@ac _ _) (@ac _ _) (@ac _ _) no
 |cd c x y hc O W=>exact one (BO hc.2.1 O.1 W.1) (@ac _ _) (@ac _ _) (@ac _ _) no
 |tr x O=>refine one bj ?_ (@ac _ _) (@ac _ _) no;have h0:Tr rI (bJ (evE tb x)):=BK O.1;have h1:Tr rI (aZ (evE tb x)):=uq O.1;cases x<;>first|exact @h0|exact @h1
 |tn x O=>exact one bj (Du O.2.1) (@ac _ _) (@ac _ _) no
 |ta x y O W=>exact one bj (Dv O.2.1 W.2.1) (@ac _ _) (@ac _ _) no
 |to x y O W=>exact one bj (Dw O.2.1 W.2.1) (@ac _ _) (@ac _ _) no
 |bn o m as U=>exact one (tr_B U.2.2.1) (@ac _ _) (@ac _ _) (@ac _ _) no
 |ii c x O=>exact one (DI O.1) (@ac _ _) (@ac _ _) (@ac _ _) no
 |ms o m x as O U=>exact one (DJ O.1 U.2.2.1) (@ac _ _) (@ac _ _) (@ac _ _) no
 |gt x k e O hk he=>exact one (DM O.1 hk.1 he.1) (@ac _ _) (@ac _ _) (@ac _ _) no
 |ca j as U=>
  refine one ?_ (@ac _ _) (@ac _ _) (@ac _ _) no;show Tr rn (caE (evA tb as) tb.f[j]?);cases h:tb.f[j]? with
  |none=>show Tr rn nF;exact bj
  |some q=>
   have Z:=ht _ (qa5 h);cases q with
   |fn x n F=>show Tr rn (eCa n F (evA tb as));exact ze Z U.2.2.1
   |fd x n d F=>show Tr rn (eCa n F (aDf d (evA tb as)));exact ze Z (DE U.2.2.1)
   |_=>show Tr rn nF;exact bj
 |me j o as ho U=>
  refine one ?_ (@ac _ _) (@ac _ _) (@ac _ _) no;show Tr rn (meE (evE tb o) (evA tb as) tb.f[j]?);cases h:tb.f[j]? with
  |none=>show Tr rn nF;exact bj
  |some q=>
   have Z:=ht _ (qa5 h);cases q with
   |me c x n F=>show Tr rn (eMe c n F (evE tb o) (evA tb as));exact DF Z ho.1 U.2.2.1
   |_=>show Tr rn nF;exact bj
 |mk j as U=>
  refine one ?_ (@ac _ _) (@ac _ _) (@ac _ _) no;show Tr rn (mkE (evA tb as) tb.f[j]?);cases h:tb.f[j]? with
  |none=>show Tr rn nF;exact bj
  |some q=>
   have Z:=ht _ (qa5 h);cases q with
   |mk c n F=>show Tr rn (eMk c n F (evA tb as));exact DG Z U.2.2.1
   |_=>show Tr rn nF;exact bj
 |«at» c f o ho=>exact one (DB ho.1) (@ac _ _) (@ac _ _) (@ac _ _) no
 |ix x y O W=>exact one (DA O.1 W.1) (@ac _ _) (@ac _ _) (@ac _ _) no
 |sl m x lo hi O hl hh=>exact one (DH O.1 hl.2.2.2.2.1 hh.2.2.2.2.1) (@ac _ _) (@ac _ _) (@ac _ _) no
 |no=>exact one bj (@ac _ _) (@ac _ _) (@ac _ _) (λf h=>by cases h)
 |ls m as U=>exact one (DC U.2.2.1) (@ac _ _) (@ac _ _) (@ac _ _) no
 |tu as U=>exact one (DD U.2.2.1) (@ac _ _) (@ac _ _) (@ac _ _) no
 |dn m t=>exact one DK (@ac _ _) (@ac _ _) (@ac _ _) no
 |il m x O=>exact one (DN O.1) (@ac _ _) (@ac _ _) (@ac _ _) no
 |pp x y O W=>exact one (BP O.1 W.1) (@ac _ _) (@ac _ _) (@ac _ _) no
 |dc m x O=>exact one (DO O.1) (@ac _ _) (@ac _ _) (@ac _ _) no
 |co m src pt it c e hi hc he=>exact one (DT hi.2.2.2.1 hc.2.1 he.1) (@ac _ _) (@ac _ _) (@ac _ _) no
 |ys=>exact one bj Dx (@ac _ _) (@ac _ _) no
 |it x O=>exact one bj (@ac _ _) (@ac _ _) (DP O.1) no
 |rg as U=>exact one bj (@ac _ _) (@ac _ _) (DQ U.2.2.1) no
 |en x O=>exact one bj (@ac _ _) (@ac _ _) (DR O.1) no
 |nil=>exact one bj (@ac _ _) Dy (@ac _ _) no
 |cons x as O U=>exact one bj (@ac _ _) (Dz O.1 U.2.2.1) (@ac _ _) (λf h=>by cases h;exact O.1)
def xB(ht:∀e∈tb.f,TrN e):∀s:S,TrS (evS tb s):=by
 have O:=tr_E ht;intro s;induction s with
 |nil=>exact BQ
 |sq s r Z W=>exact BR Z W
 |fz i r W=>exact DU W
 |set i e=>exact BS (O e).1
 |un pt e=>exact D4 (O e).1
 |put x k e=>exact BU (O x).1 (O k).1 (O e).1
 |fl c f o e=>exact DZ (O o).1 (O e).1
 |fa c f o x e=>exact D0 (O x).1 (O e).1
 |au i o e=>exact D3 (O e).1
 |dr e=>exact DV (O e).1
 |ap x e=>exact D5 (O x).1 (O e).1
 |aps i e=>exact BW (O e).1
 |cl t x=>exact D6 (O x).1
 |up x e=>exact D7 (O x).1 (O e).1
 |rt e=>exact DW (O e).1
 |rn=>exact DX
 |cd c x y U hy=>exact DY (O c).2.1 U hy
 |fo pt it x U=>exact BT (O it).2.2.2.1 U
 |wh n c x U=>exact ur (O c).2.1 U
end
variable{m:Nat}
omit x in
def oY{g:Fs}(U:TrS g):TrD (cD m g):=λ{ρ cs a x a' b} E h=>by
 unfold cD at h;have e:(cs.map (rn ρ)).map ς++qa9 (m-(cs.map (rn ρ)).length) ψ=rnS ρ (cs.map ς++qa9 (m-cs.length) ψ):=by simp[rnS,qb2]
 split at h<;>cases h
 .rename_i q;have⟨b1,h1,O,k⟩:=U E q;exact⟨b1,by unfold cD;rw[e,h1];rfl,O,k⟩
 .rename_i q;have⟨b1,h1,O,k⟩:=U E q;exact⟨b1,by unfold cD;rw[e,h1];rfl,O,k⟩
theorem dA{gc:η (Str×Dt)}:∀ds:η Df,∀e∈(aM gc ds).f,TrN e
 |[],e,h=>by cases h
 |d::r,e,h=>by
  have O:=dA (gc:=gc) r;rcases qc4.mp h with rfl|h
  .have:TrD (cD d.m (evS (aM gc r) d.b)):=oY (xB O d.b);unfold Df.en;cases d.kd<;>exact @this
  .exact O e h
def ay{gc:η (Str×Dt)}(ds:η Df):TrD (FF gc ds):=by
 cases ds with
 |nil=>exact λ_ h=>by cases h
 |cons d r=>exact oY (xB (dA r) d.b)
def bD(t:η Df):η En:=(aM gc t).f
def bDf{t:η Df}:(aM gc t).f=bD t:=rfl
def gc0:gc[0]?=ς ((PySem.Str.ofString "WIDE":Str),Dt.int 1099511627776):=rfl
def F0:=FF gc t1
def u0:bD t1=d0.en F0::bD t0:=rfl
def F1:=FF gc t2
def u1:bD t2=d1.en F1::bD t1:=rfl
def F2:=FF gc t3
def u2:bD t3=d2.en F2::bD t2:=rfl
def F3:=FF gc t4
def u3:bD t4=d3.en F3::bD t3:=rfl
def F4:=FF gc t5
def u4:bD t5=d4.en F4::bD t4:=rfl
def F5:=FF gc t6
def u5:bD t6=d5.en F5::bD t5:=rfl
def F6:=FF gc t7
def u6:bD t7=d6.en F6::bD t6:=rfl
def F7:=FF gc t8
def u7:bD t8=d7.en F7::bD t7:=rfl
def F8:=FF gc t9
def u8:bD t9=d8.en F8::bD t8:=rfl
def F9:=FF gc t10
def u9:bD t10=d9.en F9::bD t9:=rfl
def F10:=FF gc t11
def u10:bD t11=d10.en F10::bD t10:=rfl
def F11:=FF gc t12
def u11:bD t12=d11.en F11::bD t11:=rfl
def F12:=FF gc t13
def u12:bD t13=d12.en F12::bD t12:=rfl
def F13:=FF gc t14
def u13:bD t14=d13.en F13::bD t13:=rfl
def F14:=FF gc t15
def u14:bD t15=d14.en F14::bD t14:=rfl
def F15:=FF gc t16
def u15:bD t16=d15.en F15::bD t15:=rfl
def F16:=FF gc t17
def u16:bD t17=d16.en F16::bD t16:=rfl
def F17:=FF gc t18
def u17:bD t18=d17.en F17::bD t17:=rfl
def F18:=FF gc t19
def u18:bD t19=d18.en F18::bD t18:=rfl
def F19:=FF gc t20
def u19:bD t20=d19.en F19::bD t19:=rfl
def F20:=FF gc t21
def u20:bD t21=d20.en F20::bD t20:=rfl
def F21:=FF gc t22
def u21:bD t22=d21.en F21::bD t21:=rfl
def F22:=FF gc t23
def u22:bD t23=d22.en F22::bD t22:=rfl
def F23:=FF gc t24
def u23:bD t24=d23.en F23::bD t23:=rfl
def F24:=FF gc t25
def u24:bD t25=d24.en F24::bD t24:=rfl
def F25:=FF gc t26
def u25:bD t26=d25.en F25::bD t25:=rfl
def F26:=FF gc t27
def u26:bD t27=d26.en F26::bD t26:=rfl
def F27:=FF gc t28
def u27:bD t28=d27.en F27::bD t27:=rfl
def F28:=FF gc t29
def u28:bD t29=d28.en F28::bD t28:=rfl
def F29:=FF gc t30
def u29:bD t30=d29.en F29::bD t29:=rfl
def F30:=FF gc t31
def u30:bD t31=d30.en F30::bD t30:=rfl
def F31:=FF gc t32
def u31:bD t32=d31.en F31::bD t31:=rfl
def F32:=FF gc t33
def u32:bD t33=d32.en F32::bD t32:=rfl
def F33:=FF gc t34
def u33:bD t34=d33.en F33::bD t33:=rfl
def F34:=FF gc t35
def u34:bD t35=d34.en F34::bD t34:=rfl
def F35:=FF gc t36
def u35:bD t36=d35.en F35::bD t35:=rfl
def F36:=FF gc t37
def u36:bD t37=d36.en F36::bD t36:=rfl
def F37:=FF gc t38
def u37:bD t38=d37.en F37::bD t37:=rfl
def F38:=FF gc t39
def u38:bD t39=d38.en F38::bD t38:=rfl
def F39:=FF gc t40
def u39:bD t40=d39.en F39::bD t39:=rfl
def F40:=FF gc t41
def u40:bD t41=d40.en F40::bD t40:=rfl
def F41:=FF gc t42
def u41:bD t42=d41.en F41::bD t41:=rfl
def F42:=FF gc t43
def u42:bD t43=d42.en F42::bD t42:=rfl
def F43:=FF gc t44
def u43:bD t44=d43.en F43::bD t43:=rfl
def F44:=FF gc t45
def u44:bD t45=d44.en F44::bD t44:=rfl
def F45:=FF gc t46
def u45:bD t46=d45.en F45::bD t45:=rfl
def F46:=FF gc t47
def u46:bD t47=d46.en F46::bD t46:=rfl
def F47:=FF gc t48
def u47:bD t48=d47.en F47::bD t47:=rfl
def F48:=FF gc t49
def u48:bD t49=d48.en F48::bD t48:=rfl
def F49:=FF gc t50
def u49:bD t50=d49.en F49::bD t49:=rfl
def F50:=FF gc t51
def u50:bD t51=d50.en F50::bD t50:=rfl
def F51:=FF gc t52
def u51:bD t52=d51.en F51::bD t51:=rfl
def F52:=FF gc t53
def u52:bD t53=d52.en F52::bD t52:=rfl
def F53:=FF gc t54
def u53:bD t54=d53.en F53::bD t53:=rfl
def F54:=FF gc t55
def u54:bD t55=d54.en F54::bD t54:=rfl
def F55:=FF gc t56
def u55:bD t56=d55.en F55::bD t55:=rfl
def F56:=FF gc t57
def u56:bD t57=d56.en F56::bD t56:=rfl
def F57:=FF gc t58
def u57:bD t58=d57.en F57::bD t57:=rfl
def F58:=FF gc t59
def u58:bD t59=d58.en F58::bD t58:=rfl
def F59:=FF gc t60
def u59:bD t60=d59.en F59::bD t59:=rfl
def F60:=FF gc t61
def u60:bD t61=d60.en F60::bD t60:=rfl
def F61:=FF gc t62
def u61:bD t62=d61.en F61::bD t61:=rfl
def F62:=FF gc t63
def u62:bD t63=d62.en F62::bD t62:=rfl
def F63:=FF gc t64
def u63:bD t64=d63.en F63::bD t63:=rfl
def F64:=FF gc t65
def u64:bD t65=d64.en F64::bD t64:=rfl
def F65:=FF gc t66
def u65:bD t66=d65.en F65::bD t65:=rfl
def F66:=FF gc t67
def u66:bD t67=d66.en F66::bD t66:=rfl
def F67:=FF gc t68
def u67:bD t68=d67.en F67::bD t67:=rfl
def F68:=FF gc t69
def u68:bD t69=d68.en F68::bD t68:=rfl
def F69:=FF gc t70
def u69:bD t70=d69.en F69::bD t69:=rfl
def F70:=FF gc t71
def u70:bD t71=d70.en F70::bD t70:=rfl
def F71:=FF gc t72
def u71:bD t72=d71.en F71::bD t71:=rfl
def F72:=FF gc t73
def u72:bD t73=d72.en F72::bD t72:=rfl
def F73:=FF gc t74
def u73:bD t74=d73.en F73::bD t73:=rfl
def F74:=FF gc t75
def u74:bD t75=d74.en F74::bD t74:=rfl
def F75:=FF gc t76
def u75:bD t76=d75.en F75::bD t75:=rfl
def F76:=FF gc t77
def u76:bD t77=d76.en F76::bD t76:=rfl
def F77:=FF gc t78
def u77:bD t78=d77.en F77::bD t77:=rfl
def F78:=FF gc t79
def u78:bD t79=d78.en F78::bD t78:=rfl
def F79:=FF gc t80
def u79:bD t80=d79.en F79::bD t79:=rfl
def qq:=(by and_intros<;>(show cD _ (evS (aM _ _) _)=_;rwa[L2.vN0,L2.vN1,L2.vN2,L2.vN3,L2.vN4,L2.vN5,L2.vN6,L2.vN7,L2.vN8,L2.vN9,L2.qK,L2.xy,L2.nG,L2.BF,L2.qL,L2.sL,L2.xLit,L2.xAdd,L2.xSub,L2.xMul,L2.xMod,L2.xDiv,L2.xIx,L2.tsE,L2.tsL,L2.tsN,L2.tsG,L2.eLn,L2.rG1,L2.aT0,L2.mE0,L2.cO0,L2.cR0,L2.sLb,L2.bDf,L2.caE,L2.meE,L2.mkE,L2.gcE,L2.zk0,L2.zk1,L2.zk2,L2.zk3,L2.zk4,L2.zk5,L2.zk6,L2.zk7,L2.zk8,L2.zk9,L2.zk10,L2.zk11,L2.zk12,L2.zk13,L2.zk14,L2.zk15,L2.zk16,L2.zk17,L2.zk18,L2.zk19,L2.zk20,L2.zk21,L2.zk22,L2.zk23,L2.zk24,L2.zk25,L2.zk26,L2.zk27,L2.zk28,L2.zk29,L2.zk30,L2.zk31,L2.zk32,L2.zk33,L2.zk34,L2.zk35,L2.zk36,L2.zk37,L2.zk38,L2.zk39,L2.zk40,L2.zk41,L2.zk42,L2.zk43,L2.zk44,L2.zk45,L2.zk46,L2.zk47,L2.zk48,L2.zk49,L2.zk50,L2.zk51,L2.zk52,L2.zk53,L2.zk54,L2.zk55,L2.zk56,L2.zk57,L2.zk58,L2.zk59,L2.Df.en,L2.ir,L2.uf,L2.kI,L2.kS,L2.A1,L2.A2,L2.A3,L2.A4,L2.A5,L2.gc0,L2.d0,L2.d1,L2.d2,L2.d3,L2.d4,L2.d5,L2.d6,L2.d7,L2.d8,L2.d9,L2.d10,L2.d11,L2.d12,L2.d13,L2.d14,L2.d15,L2.d16,L2.d17,L2.d18,L2.d19,L2.d20,L2.d21,L2.d22,L2.d23,L2.d24,L2.d25,L2.d26,L2.d27,L2.d28,L2.d29,L2.d30,L2.d31,L2.d32,L2.d33,L2.d34,L2.d35,L2.d36,L2.d37,L2.d38,L2.d39,L2.d40,L2.d41,L2.d42,L2.d43,L2.d44,L2.d45,L2.d46,L2.d47,L2.d48,L2.d49,L2.d50,L2.d51,L2.d52,L2.d53,L2.d54,L2.d55,L2.d56,L2.d57,L2.d58,L2.d59,L2.d60,L2.d61,L2.d62,L2.d63,L2.d64,L2.d65,L2.d66,L2.d67,L2.d68,L2.d69,L2.d70,L2.d71,L2.d72,L2.d73,L2.d74,L2.d75,L2.d76,L2.d77,L2.d78,L2.d79,L2.u0,L2.u1,L2.u2,L2.u3,L2.u4,L2.u5,L2.u6,L2.u7,L2.u8,L2.u9,L2.u10,L2.u11,L2.u12,L2.u13,L2.u14,L2.u15,L2.u16,L2.u17,L2.u18,L2.u19,L2.u20,L2.u21,L2.u22,L2.u23,L2.u24,L2.u25,L2.u26,L2.u27,L2.u28,L2.u29,L2.u30,L2.u31,L2.u32,L2.u33,L2.u34,L2.u35,L2.u36,L2.u37,L2.u38,L2.u39,L2.u40,L2.u41,L2.u42,L2.u43,L2.u44,L2.u45,L2.u46,L2.u47,L2.u48,L2.u49,L2.u50,L2.u51,L2.u52,L2.u53,L2.u54,L2.u55,L2.u56,L2.u57,L2.u58,L2.u59,L2.u60,L2.u61,L2.u62,L2.u63,L2.u64,L2.u65,L2.u66,L2.u67,L2.u68,L2.u69,L2.u70,L2.u71,L2.u72,L2.u73,L2.u74,L2.u75,L2.u76,L2.u77,L2.u78,L2.u79,qd3,qi0];rfl):F0=_/\F1=_/\F2=_/\F3=_/\F4=_/\F5=_/\F6=_/\F7=_/\F8=_/\F9=_/\F10=_/\F11=_/\F13=_/\F14=_/\F16=_/\F17=_/\F18=_/\F19=_/\F21=_/\F22=_/\F26=_/\F27=_/\F34=_/\F39=_/\F40=_/\F48=_/\F51=_/\F52=_/\F53=_/\F54=_/\F55=_/\F56=_/\F67=_/\F68=_/\F70=_/\F71=_/\F72=_/\F77=_/\F78=_/\F79=_)
def q0:=qq.1
def q1:=qq.2.1
def q2:=qq.2.2.1
def q3:=qq.2.2.2.1
def q4:=qq.2.2.2.2.1
def q5:=qq.2.2.2.2.2.1
def q6:=qq.2.2.2.2.2.2.1
def q7:=qq.2.2.2.2.2.2.2.1
def q8:=qq.2.2.2.2.2.2.2.2.1
def q9:=qq.2.2.2.2.2.2.2.2.2.1
def q10:=qq.2.2.2.2.2.2.2.2.2.2.1
def q11:=qq.2.2.2.2.2.2.2.2.2.2.2.1
def q13:=qq.2.2.2.2.2.2.2.2.2.2.2.2.1
def q14:=qq.2.2.2.2.2.2.2.2.2.2.2.2.2.1
def q18:=qq.2.2.2.2.2.2.2.2.2.2.2.2.2.2.2.2.1
def q19:=qq.2.2.2.2.2.2.2.2.2.2.2.2.2.2.2.2.2.1
def q21:=qq.2.2.2.2.2.2.2.2.2.2.2.2.2.2.2.2.2.2.1
def q22:=qq.2.2.2.2.2.2.2.2.2.2.2.2.2.2.2.2.2.2.2.1
def q27:=qq.2.2.2.2.2.2.2.2.2.2.2.2.2.2.2.2.2.2.2.2.2.1
def q40:=qq.2.2.2.2.2.2.2.2.2.2.2.2.2.2.2.2.2.2.2.2.2.2.2.2.1
def q48:=qq.2.2.2.2.2.2.2.2.2.2.2.2.2.2.2.2.2.2.2.2.2.2.2.2.2.1
def q51:=qq.2.2.2.2.2.2.2.2.2.2.2.2.2.2.2.2.2.2.2.2.2.2.2.2.2.2.1
def q53:=qq.2.2.2.2.2.2.2.2.2.2.2.2.2.2.2.2.2.2.2.2.2.2.2.2.2.2.2.2.1
def q54:=qq.2.2.2.2.2.2.2.2.2.2.2.2.2.2.2.2.2.2.2.2.2.2.2.2.2.2.2.2.2.1
def q55:=qq.2.2.2.2.2.2.2.2.2.2.2.2.2.2.2.2.2.2.2.2.2.2.2.2.2.2.2.2.2.2.1
def q56:=qq.2.2.2.2.2.2.2.2.2.2.2.2.2.2.2.2.2.2.2.2.2.2.2.2.2.2.2.2.2.2.2.1
def q67:=qq.2.2.2.2.2.2.2.2.2.2.2.2.2.2.2.2.2.2.2.2.2.2.2.2.2.2.2.2.2.2.2.2.1
def q68:=qq.2.2.2.2.2.2.2.2.2.2.2.2.2.2.2.2.2.2.2.2.2.2.2.2.2.2.2.2.2.2.2.2.2.1
def q70:=qq.2.2.2.2.2.2.2.2.2.2.2.2.2.2.2.2.2.2.2.2.2.2.2.2.2.2.2.2.2.2.2.2.2.2.1
def q71:=qq.2.2.2.2.2.2.2.2.2.2.2.2.2.2.2.2.2.2.2.2.2.2.2.2.2.2.2.2.2.2.2.2.2.2.2.1
def q72:=qq.2.2.2.2.2.2.2.2.2.2.2.2.2.2.2.2.2.2.2.2.2.2.2.2.2.2.2.2.2.2.2.2.2.2.2.2.1
def q77:=qq.2.2.2.2.2.2.2.2.2.2.2.2.2.2.2.2.2.2.2.2.2.2.2.2.2.2.2.2.2.2.2.2.2.2.2.2.2.1
def q78:=qq.2.2.2.2.2.2.2.2.2.2.2.2.2.2.2.2.2.2.2.2.2.2.2.2.2.2.2.2.2.2.2.2.2.2.2.2.2.2.1
def q79:=qq.2.2.2.2.2.2.2.2.2.2.2.2.2.2.2.2.2.2.2.2.2.2.2.2.2.2.2.2.2.2.2.2.2.2.2.2.2.2.2
noncomputable def clV(n:Nat):CV->Bool
 |.ref i=>decide (i<n)
 |_=>θ
noncomputable def clO(n:Nat):CO->Bool
 |.e l=>l.all (clV n)
 |.t l=>l.all (clV n)
 |.dK l=>l.all λp=>clV n p.2
 |.dT l=>l.all λp=>clV n p.2
 |.ins _ l=>l.all (clV n)
def Cl(cs:CH):Prop:=cs.all (clO cs.length)=θ
structure At(ρ:Nat->Nat)(cs b:CH):Prop where
 inj:∀i j,i<cs.length->j<cs.length->ρ i=ρ j->i=j
 get:∀{i o},cs[i]?=ς o->b[ρ i]?=ς (rnO ρ o)
noncomputable def hat(ρ:Nat->Nat)(n m:Nat):Nat->Nat:=λi=>if i<n then ρ i else m+(i-n)
variable{cs':CH}
section
variable{ρ ρ' σ:Nat->Nat}{a b cs ds:CH}{n:Nat}
def ut{c:CV}(h:clV n c=θ)(e:∀i,i<n->ρ i=ρ' i):rn ρ c=rn ρ' c:=by
 cases c with
 |ref i=>simp only[rn,e i (by simpa[clV] using h)]
 |_=>rfl
def oZ{l:η CV}(h:l.all (clV n)=θ)(e:∀i,i<n->ρ i=ρ' i):l.map (rn ρ)=l.map (rn ρ'):=qn2 λc hc=>ut (qb9.mp h c hc) e
def BX{o:CO}(h:clO n o=θ)(e:∀i,i<n->ρ i=ρ' i):rnO ρ o=rnO ρ' o:=by
 cases o with
 |e l|t l|ins c l=>rwa[rnO,oZ h e]
 |dK l|dT l=>rwa[rnO,rnP];rw[qn2 λp hp=>by rw[ut (qb9.mp h p hp) e]]
def D8{c:CV}:rn ρ (rn σ c)=rn (λi=>ρ (σ i)) c:=by cases c<;>rfl
def o0{o:CO}:rnO ρ (rnO σ o)=rnO (λi=>ρ (σ i)) o:=by cases o<;>rwa[rnO,rnP,qd5,qb2,D8]
def At.lt(h:At ρ cs b){i:Nat}(hi:i<cs.length):ρ i<b.length:=ak (h.get (gQ hi))
def At.em(h:At ρ cs b)(hc:Cl cs):Em (hat ρ cs.length b.length) cs b:=by
 have U:∀i,i<cs.length->hat ρ cs.length b.length i=ρ i:=λi hi=>if_pos hi
 have e2:∀i,cs.length<=i->hat ρ cs.length b.length i=b.length+(i-cs.length):=λi hi=>if_neg Θ
 refine⟨λi j e=>?_,λ{i o} hi=>?_,λk=>by rw[e2 _ Θ];lia⟩
 .rcases qk1 i cs.length with hi|hi<;>rcases qk1 j cs.length with O|O
  .rw[U i hi,U j O]at e;exact h.inj i j hi O e
  .rw[U i hi,e2 j O]at e;have:=h.lt hi;lia
  .rw[e2 i hi,U j O]at e;have:=h.lt O;lia
  .rw[e2 i hi,e2 j O]at e;lia
 .have hl:=ak hi;rw[U i hl,h.get hi,BX (qb9.mp hc o (qa5 hi)) λk W=>(U k W).symm]
theorem At.comp(h:Em ρ a b)(k:At σ ds a):At (λi=>ρ (σ i)) ds b:=⟨λi j hi O e=>k.inj i j hi O (h.inj _ _ e),λhi=>by rw[h.get (k.get hi),o0]⟩
structure Fr(ρ:Nat->Nat)(n:Nat)(b b':CH):Prop where
 le:b.length<=b'.length
 kp:∀j,j<b.length->(∀i,i<n->ρ i≠j)->b'[j]?=b[j]?
def Sb(ρ:Nat->Nat)(n:Nat)(b:CH)(ρ':Nat->Nat)(n':Nat):Prop:=∀i,i<n'->(∃k,k<n/\ρ' i=ρ k)\/b.length<=ρ' i
theorem Em.fr(h:At ρ cs b)(hc:Cl cs)(E:Em (hat ρ cs.length b.length) a b')(k:Kp (hat ρ cs.length b.length) b b')(hl:cs.length<=a.length):Fr ρ cs.length b b':=by
 have U:=E.nw 0;have:hat ρ cs.length b.length (a.length+0)=b.length+(a.length-cs.length):=if_neg Θ;refine⟨Θ,λj O hi=>k j λi=>?_⟩;unfold hat
 split
 .exact hi i (by assumption)
 .lia
def Rn(F:Fd)(args:η CV)(cs:CH)(d:Dt)(ds:CH):Prop:=∀ ρ b,At ρ cs b->∃ ρ' b',F (rnA ρ args) b=ς (.g d,b')/\At ρ' ds b'/\ρ' 0=ρ 0/\Fr ρ cs.length b b'/\Sb ρ cs.length b ρ' ds.length
theorem At.go{F:Fd}{args:η CV}{x:CV}(U:TrD F)(h:At ρ cs b)(hc:Cl cs)(W:args.all (clV cs.length)=θ)(O:F args cs=ς (x,cs')):∃b',F (rnA ρ args) b=ς (rn (hat ρ cs.length b.length) x,b')/\Em (hat ρ cs.length b.length) cs' b'/\Kp (hat ρ cs.length b.length) b b':=by
 have⟨b',h1,h2,Z⟩:=U (h.em hc) O;have e:rnA (hat ρ cs.length b.length) args=rnA ρ args:=oZ W λi hi=>if_pos hi
 rw[e]at h1;exact⟨b',h1,h2,Z⟩
theorem Rn.of{F:Fd}{args:η CV}{d:Dt}(hF:TrD F)(hc:Cl cs)(O:args.all (clV cs.length)=θ)(Z:F args cs=ς (.g d,cs'))(hl:cs.length<=cs'.length)(hs:At σ ds cs')(U:σ 0=0)(W:0<cs.length):Rn F args cs d ds:=λρ b h=>by
 have⟨b',h1,E,k⟩:=h.go hF hc O Z;refine⟨_,b',h1,At.comp E hs,by show hat _ _ _ (σ 0)=_;rw[U];exact if_pos W,Em.fr h hc E k hl,λi hi=>?_⟩;show(∃j,j<cs.length/\hat ρ cs.length b.length (σ i)=ρ j)\/_<=hat ρ cs.length b.length (σ i);unfold hat
 split
 .exact .inl ⟨σ i,by assumption,rfl⟩
 .exact .inr Θ
def zg{c:CV}:rn (λi=>i) c=c:=by cases c<;>rfl
def uu{o:CO}:rnO (λi=>i) o=o:=by
 have h1:∀l:η CV,l.map (rn λi=>i)=l:=λl=>by
  have:(rn λi=>i)=id:=funext λc=>zg
  rw[this,List.map_id]
 cases o<;>rwa[rnO,rnP,h1,zg]<;>simp
def At.same:At (λi=>i) cs cs:=⟨λ_ _ _ _ e=>e,λh=>by rw[uu];exact h⟩
theorem Rn.here{F:Fd}{args:η CV}{d:Dt}(W:TrD F)(hc:Cl cs)(Z:args.all (clV cs.length)=θ)(U:F args cs=ς (.g d,ds))(hl:cs.length<=ds.length)(O:0<cs.length):Rn F args cs d ds:=.of W hc Z U hl .same rfl O
theorem Fr.at(f:Fr ρ n b b')(h:At σ ds b)(U:∀i j,i<n->j<ds.length->ρ i≠σ j):At σ ds b':=⟨h.inj,λ{j o} O=>by have hl:=ak O;rw[f.kp _ (h.lt hl) λi hi=>U i j hi hl];exact h.get O⟩
theorem Sb.apart{n':Nat}(s:Sb ρ n b ρ' n')(W:∀i j,i<n->j<m->ρ i≠σ j)(hl:∀j,j<m->σ j<b.length):∀i j,i<n'->j<m->ρ' i≠σ j:=λi j hi O e=>by
 rcases s i hi with ⟨k,U,h⟩|h
 .exact W k j U O (h.symm.trans e)
 .have:=hl j O;lia
end
variable{ds:η Dt}
section
variable{pt:Pt}{ft:FM Bool}{fe:Fg}{δ:Sl}{ch:CH}{α:Type}
theorem bT{f g:α->Dt}:∀{l:η α},(∀x∈l,∃O,bnd pt (f x) δ=ς O/\ft O ch=ς (θ,ch)/\fe O ch=ς (.g (g x),ch))->aE (bnd pt) ft fe δ (l.map f) ch=ς (l.map λx=>.g (g x),ch)
 |[],_=>rfl
 |x::l,h=>by
  have⟨O,h1,h2,U⟩:=h x Ξ;have Z:=bT (l:=l) λy W=>h y (by simp[W])
  rwa[qa2,aE,h1,qa0,h2,if_true,U,CV.sol,Z,qb0]
theorem dg{f g:α->Dt}{p:α->Bool}:∀{l:η α},(∀x∈l,∃O,bnd pt (f x) δ=ς O/\ft O ch=ς (p x,ch)/\(p x=θ->fe O ch=ς (.g (g x),ch)))->aE (bnd pt) ft fe δ (l.map f) ch=ς ((l.filter p).map λx=>.g (g x),ch)
 |[],_=>rfl
 |x::l,h=>by
  have⟨O,h1,h2,W⟩:=h x Ξ;have U:=dg (l:=l) λy Z=>h y (by simp[Z])
  cases hp:p x with
  |true=>rwa[qa2,aE,h1,qa0,h2,hp,if_true,W hp,CV.sol,U,qb0,List.filter_cons_of_pos hp]
  |false=>have:List.filter p (x::l)=List.filter p l:=List.filter_cons_of_neg (by simp[hp]);rwa[qa2,aE,h1,qa0,h2,hp,qg3,if_false,U,this]
theorem o3{f:α->Dt}{P:Dt->Prop}:∀{l:η α},(∀x∈l,∃O d,bnd pt (f x) δ=ς O/\ft O ch=ς (θ,ch)/\fe O ch=ς (.g d,ch)/\P d)->∃ds:η Dt,aE (bnd pt) ft fe δ (l.map f) ch=ς (ds.map .g,ch)/\(∀d∈ds,P d)/\ds.length=l.length
 |[],_=>⟨[],rfl,Ξ,rfl⟩
 |x::l,h=>by
  have⟨O,d,h1,h2,W,hp⟩:=h x Ξ;have⟨ds,h4,U,h6⟩:=o3 (l:=l) λy Z=>h y (by simp[Z])
  exact⟨d::ds,by rwa[qa2,aE,h1,qa0,h2,if_true,W,CV.sol,h4,qb0],‹⟨hp,U⟩›,by simp[h6]⟩
theorem dh{β γ:Type}{f:α->Dt}{g:β->Dt}{h:β->γ}{h':α->γ}{Q:β->Prop}:∀{l:η α},(∀x∈l,∃O y,bnd pt (f x) δ=ς O/\ft O ch=ς (θ,ch)/\fe O ch=ς (.g (g y),ch)/\Q y/\h y=h' x)->∃ys:η β,aE (bnd pt) ft fe δ (l.map f) ch=ς ((ys.map g).map .g,ch)/\(∀y∈ys,Q y)/\ys.map h=l.map h'
 |[],_=>⟨[],rfl,Ξ,rfl⟩
 |x::l,W=>by
  have⟨O,y,h1,h2,Z,hq,hh⟩:=W x Ξ;have⟨ys,h4,h5,h6⟩:=dh (l:=l) λz U=>W z (by simp[U])
  exact⟨y::ys,by rwa[qa2,aE,h1,qa0,h2,if_true,Z,CV.sol,h4,qb0],λz U=>by rcases qc4.mp U with rfl|U;exact hq;exact h5 z U,by simp[hh,h6]⟩
def uv{m:Md}:finL m (ds.map .g) ch=fin m ch (.e ds):=by unfold finL;rw[bO]
def uw{g:α->Dt}{l:η α}:dats (l.map λx=>.g (g x))=ς (l.map g):=by
 have:(l.map λx=>CV.g (g x))=(l.map g).map .g:=by simp
 rw[this,bO]
def bG{m:Md}{g:α->Dt}{l:η α}:finL m (l.map λx=>.g (g x)) ch=fin m ch (.e (l.map g)):=by unfold finL;rw[uw]
end
variable{r:η Dt}{δ0:Sl}{fe:Fg}
section
variable{m:Md}{g:Dt->Dt->ζ T}{fa fb f:Fg}{δ δ':Sl}{ch ch1 ch2:CH}{x y c:CV}{dx dy:Dt}{t:T}{g1 g2:Fs}{o:Og}{i n:Nat}
theorem cL(O:fa δ ch=ς (x,ch1))(hb:fb δ ch1=ς (y,ch2))(Z:vw ch2 x=ς dx)(W:vw ch2 y=ς dy)(U:g dx dy=ς t):e2 m g fa fb δ ch=fin m ch2 t:=by unfold e2;rw[O,qa0,hb,qa0];dsimp only;rw[Z,qa0,W,qa0,U];rfl
theorem xC{a b:η Dt}(h:a.length+b.length<=qa4):oAdd.g (.e a) (.e b)=ς (.e (a++b)):=by show orO eG iu _ _=_;unfold orO eG;rwa[h,if_true]
theorem aF(h:f δ ch=ς (c,ch1))(O:c.kp=θ):bC i f δ ch=ς (.nx (δ.set i (ς c)) ch1):=by unfold bC;rw[h,qa0];dsimp only;rw[if_pos O]
def cj(h:f δ ch=ς (c,ch1))(O:c.sol=θ):sRt f δ ch=ς (.rt c ch1):=by unfold sRt;rw[h,qa0];dsimp only;rw[if_pos O]
def ah(h1:g1 δ ch=ς (.nx δ' ch1))(h2:g2 δ' ch1=ς o):aj g1 g2 δ ch=ς o:=by unfold aj;rw[h1];exact h2
def bU(h1:g1 δ ch=ς (.rt c ch1)):aj g1 g2 δ ch=ς (.rt c ch1):=by unfold aj;rw[h1];rfl
theorem BY{pt:Pt}{g:Fs}{d:Dt}(h1:bnd pt d δ=ς δ')(h2:g δ' ch=ς (.rt c ch1)):bE (bnd pt) g (d::r) δ ch=ς (.rt c ch1):=by show(bnd pt d δ).bind _=_;rw[h1,qa0,h2];rfl
theorem cG{pt:Pt}{g:Fs}{d:Dt}{δ2:Sl}(h1:bnd pt d δ=ς δ')(h2:g δ' ch=ς (.nx δ2 ch1)):bE (bnd pt) g (d::r) δ ch=bE (bnd pt) g r δ2 ch1:=by show(bnd pt d δ).bind _=_;rw[h1,qa0,h2];rfl
theorem bz{pt:Pt}{g:Fs}(h1:fi δ ch=ς (ds,ch1))(h2:bE (bnd pt) g ds δ ch1=ς o):lH fi (bnd pt) g δ ch=ς o:=by unfold lH;rw[h1];exact h2
def rng1{j:Int}(h:eI j=θ):rng 1 [j]=ς (aB 0 j.toNat):=by rwa[rng,h,if_true]
theorem iR_i{fs:FM (η CV)}{j:Int}(h:fs δ ch=ς ([.g (.int j)],ch1))(hb:eI j=θ):iR 1 fs δ ch=ς (aB 0 j.toNat,ch1):=by unfold iR;rw[h];rwa[qa0,gf,qb0,rng1 hb]
theorem di{fs:FM (η CV)}(h:fs δ ch=ς ([.g (.int j)],ch1))(hb:eI (j:Int)=θ):iR 1 fs δ ch=ς (aB 0 j,ch1):=by have e:=iR_i h hb;rw[qi6]at e;exact e
theorem BZ{g:Dt->η Dt->ζ T}{fs:FM (η CV)}{s:Str}{d:Dt}(O:fa δ ch=ς (.g (.str s),ch))(hs:fs δ ch=ς ([.g d],ch))(U:g (.str s) [d]=ς t):eMt m g fa fs δ ch=fin m ch t:=by unfold eMt;rw[O,qa0];dsimp only;rw[hs,qa0];show(g (.str s) [d]).bind _=_;rw[U];rfl
def aV(h:f δ ch=ς (c,ch1)):aCn f aNl δ ch=ς ([c],ch1):=by unfold aCn;rw[h];rfl
theorem dX{pt:Pt}{ft:FM Bool}{es:η Dt}(hi:fi δ ch=ς (ds,ch))(O:gC src δ=δ0)(h:aE (bnd pt) ft fe δ0 ds ch=ς (es.map .g,ch))(hl:es.length<=qa4):eCo .v src fi (bnd pt) ft fe δ ch=ς (.g (.e es),ch):=by unfold eCo;rw[hi,qa0,O];dsimp only;rw[h,qa0];dsimp only;rw[if_pos (by rw[qa3];exact hl)];unfold finL;rw[bO];rfl
def bm{g:Fs}(h:g (cs.map ς++qa9 (n-cs.length) ψ) ch=ς (.rt c ch1)):cD n g cs ch=ς (c,ch1):=by unfold cD;rw[h]
def nJ{g:Fs}(h:g (cs.map ς++qa9 (n-cs.length) ψ) ch=ς (.nx δ' ch1)):cD n g cs ch=ς (.g .non,ch1):=by unfold cD;rw[h]
end
variable{cs1:CH}
section
variable{F:Fd}{ρ ρ1 ρ2:Nat->Nat}{cs b b1 b2:CH}{args:η CV}{d:Dt}{n n1 n2:Nat}
theorem At.pure(hF:TrD F)(h:At ρ cs b)(hc:Cl cs)(U:args.all (clV cs.length)=θ)(Z:F args cs=ς (.g d,cs)):F (rnA ρ args) b=ς (.g d,b):=by
 have⟨b',h1,E,K⟩:=h.go hF hc U Z;have W:=E.nw 0;have e0:hat ρ cs.length b.length (cs.length+0)=b.length+0:=by unfold hat;rw[if_neg Θ];lia
 rw[e0]at W
 have:b'=b:=by
  refine qy6 λj=>?_
  by_cases O:∃i,hat ρ cs.length b.length i=j
  .have⟨i,rfl⟩:=O;rcases qk1 i cs.length with hi|hi
   .rw[E.get (gQ hi),(h.em hc).get (gQ hi)]
   .have:hat ρ cs.length b.length i=b.length+(i-cs.length):=if_neg Θ;rw[this,qh4 Θ,qh4 Θ]
  .exact K j λi e=>O ⟨i,e⟩
 rw[this]at h1;exact h1
def Fr.refl:Fr ρ n b b:=⟨nL _,λ_ _ _=>rfl⟩
def Sb.refl:Sb ρ n b ρ n:=λi hi=>.inl ⟨i,hi,rfl⟩
def Fr.trans(f:Fr ρ n b b1)(s:Sb ρ n b ρ1 n1)(g:Fr ρ1 n1 b1 b2):Fr ρ n b b2:=⟨qd2 f.le g.le,λj O hi=>by
 rw[g.kp j (qc6 O f.le) λi h e=>?_,f.kp j O hi];rcases s i h with ⟨k,U,q⟩|q
 .exact hi k U (q.symm.trans e)
 .lia⟩
def Sb.trans(f:Fr ρ n b b1)(s:Sb ρ n b ρ1 n1)(t:Sb ρ1 n1 b1 ρ2 n2):Sb ρ n b ρ2 n2:=λi hi=>by
 rcases t i hi with ⟨k,O,q⟩|q
 .rw[q];exact s k O
 .exact .inr (qd2 f.le q)
structure Mv(ρ:Nat->Nat)(cs b:CH)(ρ':Nat->Nat)(cs' b':CH):Prop where
 at_:At ρ' cs' b'
 zero:ρ' 0=ρ 0
 fr:Fr ρ cs.length b b'
 sb:Sb ρ cs.length b ρ' cs'.length
def Mv.refl(h:At ρ cs b):Mv ρ cs b ρ cs b:=⟨h,rfl,.refl,.refl⟩
theorem Mv.trans{O:CH}(h:Mv ρ cs b ρ1 cs1 b1)(k:Mv ρ1 cs1 b1 ρ2 O b2):Mv ρ cs b ρ2 O b2:=⟨k.at_,k.zero.trans h.zero,h.fr.trans h.sb k.fr,h.sb.trans h.fr k.sb⟩
theorem Rn.mv(r:Rn F args cs d cs1)(h:At ρ cs b):∃ ρ' b',F (rnA ρ args) b=ς (.g d,b')/\Mv ρ cs b ρ' cs1 b':=let ⟨ρ',b',h1,h2,h3,h4,h5⟩:=r ρ b h;⟨ρ',b',h1,h2,h3,h4,h5⟩
end
section
variable{F:Fd}{ch a a':CH}{args:η CV}{x:CV}
theorem o4:Em (ch.length + ·) a (ch++a.map (rnO (ch.length + ·))):=by refine⟨λi j h=>Nat.add_left_cancel h,λ{i o} h=>?_,λk=>by simp;lia⟩;rw[gR Θ,qg0,qa6,h];rfl
theorem xD(E:Em (ch.length + ·) a' b')(K:Kp (ch.length + ·) (ch++a.map (rnO (ch.length + ·))) b'):b'=ch++a'.map (rnO (ch.length + ·)):=by
 have hl:ch.length+(a'.length+0)=b'.length+0:=E.nw 0;refine qy6 λj=>?_
 rcases qk1 j ch.length with O|O
 .rw[K j λi e=>by have e:ch.length+i=j:=e;lia,gL O,gL O]
 .have⟨i,rfl⟩:=Nat.exists_eq_add_of_le O;rw[gR Θ,qg0,qa6];rcases qk1 i a'.length with hi|hi
  .rw[gQ hi];exact E.get (gQ hi)
  .rw[qh4 hi,qh4 Θ];rfl
theorem TrD.tail(O:TrD F)(h:F args a=ς (x,a')):F (rnA (ch.length + ·) args) (ch++a.map (rnO (ch.length + ·)))=ς (rn (ch.length + ·) x,ch++a'.map (rnO (ch.length + ·))):=by have⟨b',h1,E,K⟩:=O o4 h;rw[h1,xD E K]
theorem eO{c:Nat}{fs:FM (η CV)}(W:TrD F)(hs:fs δ ch=ς (ds.map .g,ch))(O:n=ds.length+1)(h:F (.ref 0::ds.map .g) [.ins c []]=ς (.g .non,a'))(hl:0<a'.length):eMk c n F fs δ ch=ς (.ref ch.length,ch++a'.map (rnO (ch.length + ·))):=by
 have e:=W.tail (ch:=ch) h;have U:rnA (ch.length + ·) (.ref 0::ds.map .g)=.ref ch.length::ds.map .g:=by simp[rn,qb2]
 have e2:ch++[CO.ins c []].map (rnO (ch.length + ·))=ch++[.ins c []]:=rfl;rw[U,e2]at e;unfold eMk kCa;rw[hs,qa0];dsimp only;rw[if_pos ⟨by simp[O],by simp[CV.old]⟩,e,qa0];rwa[rn];rw[if_pos (by simp;lia)]
end
inductive An where
 |v (n:Nat) (x:CV×CH)|o (n:Nat) (x:Og)|t (n:Nat) (x:T)|c (n:Nat) (x:CV)|p (n:Nat) (x:CO)|d (n:Nat) (x:Dt)|h (n:Nat) (x:CO)
abbrev Qs:=η An×η Prop
def All:η Prop->Prop
 |[]=>True
 |p::l=>p/\All l
noncomputable def kK{α:Type}(f:An->ζ (Nat×α))(m:Nat->α->An)(v:ζ α):Qs->ζ (α×Qs)
 |(a::g,L)=>(match f a with
  |some (0,x)=>ς (x,g,(v=ς x)::L)
  |some (n+1,x)=>v.map λy=>(y,m n x::g,L)
  |none=>v.map λy=>(y,a::g,L))
 |s=>v.map λy=>(y,s)
theorem dj{α:Type}{f:An->ζ (Nat×α)}{m:Nat->α->An}{v:ζ α}{s s':Qs}{r:α}(h:kK f m v s=ς (r,s'))(a:All s'.2):v=ς r/\All s.2:=by
 obtain⟨_|⟨x,g⟩,L⟩:=s
 .have⟨y,h1,h2⟩:=mS h;cases h2;exact⟨h1,a⟩
 .unfold kK at h;dsimp only at h;split at h
  .cases h;exact a
  .have⟨y,h1,h2⟩:=mS h;cases h2;exact⟨h1,a⟩
  .have⟨y,h1,h2⟩:=mS h;cases h2;exact⟨h1,a⟩
abbrev kA:=kK (λa=>match a with|.v n x=>ς (n,x)|_=>ψ) An.v
abbrev kO:=kK (λa=>match a with|.o n x=>ς (n,x)|_=>ψ) An.o
abbrev kT:=kK (λa=>match a with|.t n x=>ς (n,x)|_=>ψ) An.t
abbrev kC:=kK (λa=>match a with|.c n x=>ς (n,x)|_=>ψ) An.c
abbrev kD:=kK (λa=>match a with|.d n x=>ς (n,x)|_=>ψ) An.d
abbrev kH:=kK (λa=>match a with|.h n x=>ς (n,x)|_=>ψ) An.h
abbrev kP:=kK (λa=>match a with|.p n x=>ς (n,x)|_=>ψ) An.p
abbrev QM(α:Type):=Sl->CH->Qs->ζ ((α×CH)×Qs)
def Snd{α:Type}(x:QM α)(f:FM α):Prop:=∀ δ ch s r s',x δ ch s=ς (r,s')->All s'.2->f δ ch=ς r/\All s.2
def Sns(x:Sl->CH->Qs->ζ (Og×Qs))(f:Fs):Prop:=∀ δ ch s r s',x δ ch s=ς (r,s')->All s'.2->f δ ch=ς r/\All s.2
noncomputable def qP{α:Type}(f:FM α):QM α:=λδ ch s=>(f δ ch).map λy=>(y,s)
def qW(f:Fg):QM CV:=λδ ch s=>kA (f δ ch) s
def qT(v:CH->ζ T)(m:Md):QM CV:=λ_ ch s=>(kT (v ch) s).bind λp=>(fin m ch p.1).map λy=>(y,p.2)
def qC(v:CH->ζ CV):QM CV:=λ_ ch s=>(kC (v ch) s).map λp=>((p.1,ch),p.2)
def Snd.to{α:Type}{x:QM α}{f g:FM α}(h:Snd x f)(e:f=g):Snd x g:=e▸h
def Snd.p{α:Type}{f:FM α}:Snd (qP f) f:=λ_ _ _ _ _ h a=>by have⟨y,h1,h2⟩:=mS h;cases h2;exact⟨h1,a⟩
def Snd.w{f:Fg}:Snd (qW f) f:=λ_ _ _ _ _ h a=>dj h a
theorem Snd.t{v:CH->ζ T}{m:Md}:Snd (qT v m) (λ_ ch=>(v ch).bind (fin m ch)):=λδ ch s r s' h a=>by have⟨p,h1,h⟩:=bS h;have⟨y,h2,h⟩:=mS h;cases h;have⟨U,O⟩:=dj h1 a;exact⟨by show(v ch).bind _=_;rw[U];exact h2,O⟩
theorem Snd.c{v:CH->ζ CV}:Snd (qC v) (λ_ ch=>(v ch).map λc=>(c,ch)):=λδ ch s r s' h a=>by have⟨p,h1,h⟩:=mS h;cases h;have⟨O,U⟩:=dj h1 a;exact⟨by show(v ch).map _=_;rw[O];rfl,U⟩
def qV{α:Type}(c:CV)(k:Dt->QM α):QM α:=λδ ch s=>(match c with
 |.ref i=>(kD (vw ch (.ref i)) s).bind λp=>k p.1 δ ch p.2
 |c=>(vw ch c).bind λd=>k d δ ch s)
theorem Snd.vw{α:Type}{c:CV}{k:Dt->QM α}{j:Dt->FM α}(h:∀d,Snd (k d) (j d)):Snd (qV c k) (λδ ch=>(vw ch c).bind λd=>j d δ ch):=λδ ch s r s' e a=>by
 unfold qV at e;split at e
 .have⟨d,h1,h2⟩:=bS e;have⟨U,O⟩:=h _ _ _ _ _ _ h2 a;have⟨W,Z⟩:=dj h1 O;exact⟨by show(L2.vw ch _).bind _=_;rw[W];exact U,Z⟩
 .have⟨d,h1,h2⟩:=bS e;have⟨U,O⟩:=h d _ _ _ _ _ h2 a;exact⟨by show(L2.vw ch _).bind _=_;rw[h1];exact U,O⟩
def qVs{α:Type}:η CV->(η Dt->QM α)->QM α
 |[],k=>k []
 |c::cs,k=>qV c λd=>qVs cs λds=>k (d::ds)
theorem Snd.vws{α:Type}:∀{cs:η CV}{k:η Dt->QM α}{j:η Dt->FM α},(∀d,Snd (k d) (j d))->Snd (qVs cs k) (λδ ch=>(vws ch cs).bind λd=>j d δ ch)
 |[],k,j,h=>(h []).to rfl
 | c::cs,k,j,h=>(Snd.vw (j:=λd=>_) λd=>Snd.vws (cs:=cs) (j:=λds=>j (d::ds)) λds=>h (d::ds)).to (by
     funext δ ch;show _=((L2.vw ch c).bind λd=>(L2.vws ch cs).map (d::·)).bind _;cases L2.vw ch c with
     |none=>rfl
     |some d=>cases L2.vws ch cs<;>rfl)
noncomputable def qB{α β:Type}(x:QM α)(k:α->QM β):QM β:=λδ ch s=>(x δ ch s).bind λp=>k p.1.1 δ p.1.2 p.2
theorem Snd.b{α β:Type}{x:QM α}{f:FM α}{k:α->QM β}{j:α->FM β}(h:Snd x f)(W:∀c,Snd (k c) (j c)):Snd (qB x k) (λδ ch=>(f δ ch).bind λp=>j p.1 δ p.2):=λδ ch s r s' e a=>by have⟨p,h1,h2⟩:=bS e;have⟨Z,U⟩:=W _ _ _ _ _ _ h2 a;have⟨O,i4⟩:=h _ _ _ _ _ h1 U;exact⟨by show(f δ ch).bind _=_;rw[O];exact Z,i4⟩
omit x in
theorem Snd.i{α:Type}{c:Prop}[Decidable c]{x:QM α}{f:FM α}(h:c->Snd x f):Snd (λδ ch s=>if c then x δ ch s else ψ) (λδ ch=>if c then f δ ch else ψ):=λδ ch s r s' e a=>by
 split at e
 .rename_i q;have⟨O,U⟩:=h q _ _ _ _ _ e a;exact⟨by show(if c then _ else _)=_;rw[if_pos q];exact O,U⟩
 .cases e
def caX(x:QM (η CV))(f:FM (η CV)):ζ En->QM CV
 |some (.fn _ n F)=>qB x λcs=>λδ ch s=>if cs.length=n/\cs.all CV.old=θ then qW (λ_ ch=>F cs ch) δ ch s else ψ
 |o=>qW (caE f o)
def meX(x:QM CV)(f:Fg)(y:QM (η CV))(g:FM (η CV)):ζ En->QM CV
 | some (.me c _ n F)=>qB x λx=>λδ ch s=>(match x with
     |.ref i=>(kH ch[i]? s).bind λp=>(match p.1 with
      |.ins O _=>if O=c then qB y (λcs=>λδ ch s=>if(CV.ref i::cs).length=n/\(CV.ref i::cs).all CV.old=θ then qW (λ_ ch=>F (.ref i::cs) ch) δ ch s else ψ) δ ch p.2 else ψ
      |_=>ψ)
     |_=>ψ)
 |o=>qW (meE f g o)
mutual
def xE(tb:Tb):E->QM CV
 |.b2 o m a b=>qB (xE tb a) λc=>qB (xE tb b) λd=>qV c λx=>qV d λy=>qT (λ_=>o.g x y) m
 |.cd t a b=>qB (xT tb t) λc=>if c then xE tb a else xE tb b
 |.bn o m as=>qB (xA tb as) λcs=>qVs cs λds=>qT (λ_=>o.g ds) m
 |.ii c a=>qB (xE tb a) λd=>qP λ_ ch=>(vw ch d).bind λd=>ς (.g (.bl (cY c d)),ch)
 |.gt a k e=>qB (xE tb a) λx=>λδ ch s=>if ie ch x then qB (xE tb k) (λy=>qB (xE tb e) λz=>qV y λk=>λδ ch s=>if z.sol then qC (λch=>getV ch x k z) δ ch s else ψ) δ ch s else ψ
 |.ca j as=>caX (xA tb as) (evA tb as) tb.f[j]?
 |.me j o as=>meX (xE tb o) (evE tb o) (xA tb as) (evA tb as) tb.f[j]?
 |.at c f o=>qB (xE tb o) λx=>λδ ch s=>(match x with
  |.ref i=>(kH ch[i]? s).bind λp=>(match p.1 with
   |.ins c' l=>if c'=c then(l[f]?).map λx=>((x,ch),p.2)else ψ
   |_=>ψ)
  |_=>ψ)
 |.ix a b=>qB (xE tb a) λc=>qB (xE tb b) λd=>qV d λd=>qC λch=>ixV ch c d
 |.ls m as=>qB (xA tb as) λcs=>qP λ_ ch=>if cs.length<=qa4 then finL m cs ch else ψ
 |.tu as=>qB (xA tb as) λcs=>qP λ_ ch=>if cs.length<=qa4 then(match dats cs with
  |some ds=>ς (.g (.t ds),ch)
  |none=>if cs.all CV.sol then ς (.ref ch.length,ch++[.t cs])else ψ)else ψ
 |.k d=>qP (eK d)
 |.v i=>qP (eV i)
 |.g j=>qP (evE tb (.g j))
 |e=>qW (evE tb e)
def xT(tb:Tb):E->QM Bool
 |.tr (.b2 o m a b)=>qB (qB (xE tb a) λc=>qB (xE tb b) λd=>qV c λx=>qV d λy=>qT (λ_=>o.g x y) m) λc=>qP λ_ ch=>(dH c).map λb=>(b,ch)
 |.tr a=>qB (xE tb a) λc=>qP λ_ ch=>(vw ch c).bind λd=>(iP d).map λb=>(b,ch)
 |.tn a=>qB (xT tb a) λb=>qP λ_ ch=>ς (!b,ch)
 |.ta a b=>qB (xT tb a) λc=>if c then xT tb b else qP λ_ ch=>ς (ξ,ch)
 |.to a b=>qB (xT tb a) λc=>if c then qP (λ_ ch=>ς (θ,ch))else xT tb b
 |e=>qP (evT tb e)
def xA(tb:Tb):E->QM (η CV)
 |.nil=>qP aNl
 |.cons a as=>qB (xE tb a) λc=>qB (xA tb as) λcs=>qP λ_ ch=>ς (c::cs,ch)
 |e=>qP (evA tb e)
end
theorem Snd.f{α:Type}{x:QM Bool}{c:FM Bool}{y z:QM α}{f g:FM α}(h:Snd x c)(hy:Snd y f)(hz:Snd z g):Snd (qB x λb=>if b then y else z) (λδ ch=>(c δ ch).bind λp=>if p.1 then f δ p.2 else g δ p.2):=λδ ch s r s' e al=>by
 have⟨⟨⟨b,ch1⟩,s1⟩,h1,e⟩:=bS e;cases b with
 |true=>have⟨W,U⟩:=hy _ _ _ _ _ e al;have⟨O,Z⟩:=h _ _ _ _ _ h1 U;exact⟨by show(c δ ch).bind _=_;rw[O];exact W,Z⟩
 |false=>have⟨W,U⟩:=hz _ _ _ _ _ e al;have⟨O,Z⟩:=h _ _ _ _ _ h1 U;exact⟨by show(c δ ch).bind _=_;rw[O];exact W,Z⟩
def caX.ok{x:QM (η CV)}{f:FM (η CV)}(h:Snd x f)(o:ζ En):Snd (caX x f o) (caE f o):=by
 cases o with
 |none=>exact .w
 |some q=>cases q<;>first|exact h.b (j:=λcs=>kCa _ _ cs) λcs=>.i λ_=>.w|exact .w
omit x in
def meX.ok{x:QM CV}{f:Fg}{y:QM (η CV)}{g:FM (η CV)}(Z:Snd x f)(hy:Snd y g)(o:ζ En):Snd (meX x f y g o) (meE f g o):=by
 cases o with
 |none=>exact .w
 |some q=>
  cases q<;>first|exact .w|skip
  rename_i c m n F;intro δ ch s r s' e al;have⟨⟨⟨x,ch1⟩,s1⟩,h1,e⟩:=bS e;dsimp only at e;split at e
  .rename_i i;have⟨⟨o1,s2⟩,g1,e⟩:=bS e;dsimp only at e;split at e
   .split at e
    .rename_i hc;have⟨i1,O⟩:=(hy.b (j:=λcs=>kCa n F (.ref i::cs)) λcs=>.i λ_=>.w) _ _ _ _ _ e al;have⟨g2,O⟩:=dj g1 O;have⟨W,U⟩:=Z _ _ _ _ _ h1 O;refine⟨?_,U⟩;show eMe c n F f g δ ch=_;unfold eMe;rw[W,qa0];dsimp only;rw[g2];dsimp only;rw[if_pos hc];exact i1
    .cases e
   .cases e
  .cases e
omit x in
def fQ(tb:Tb)(e:E):Snd (xE tb e) (evE tb e)/\Snd (xT tb e) (evT tb e)/\Snd (xA tb e) (evA tb e):=by
 induction e with
 |b2 o m a b O hb=>exact⟨(O.1).b (j:=λc=>_) λc=>(hb.1).b (j:=λd=>_) λd=>.vw (j:=λx=>_) λx=>.vw (j:=λy=>_) λy=>.t,.p,.p⟩
 |cd t a b ht O hb=>exact⟨ht.2.1.f O.1 hb.1,.p,.p⟩
 |bn o m as h=>exact⟨(h.2.2).b (j:=λcs=>kB m o.g cs) λcs=>.vws (j:=λds=>_) λds=>.t,.p,.p⟩
 |ii c a h=>exact⟨(h.1).b (j:=λc=>_) λc=>.p,.p,.p⟩
 |gt a k e O hk he=>
  refine⟨(O.1).b (j:=λx δ ch=>if ie ch x then(evE tb k δ ch).bind λq=>(evE tb e δ q.2).bind λr=>(vw r.2 q.1).bind λk=>if r.1.sol then(getV r.2 x k r.1).map λc=>(c,r.2)else ψ else ψ) λx δ ch s r s' h al=>?_,.p,.p⟩;split at h
  .rename_i q;have⟨W,U⟩:=((hk.1).b (j:=λy=>_) λy=>(he.1).b (j:=λz=>_) λz=>.vw (j:=λk=>_) λk=>.i λ_=>.c) _ _ _ _ _ h al;exact⟨by dsimp only;rw[if_pos q];exact W,U⟩
  .cases h
 |ca j as h=>exact⟨caX.ok h.2.2 _,.p,.p⟩
 |me j o as ho h=>exact⟨meX.ok ho.1 h.2.2 _,.p,.p⟩
 |«at» c f o h=>
  refine⟨?_,.p,.p⟩;intro δ ch s r s' e al;have⟨⟨⟨x,ch1⟩,s1⟩,h1,e⟩:=bS e;dsimp only at e;split at e
  .have⟨⟨o1,s2⟩,g1,e⟩:=bS e;dsimp only at e;split at e
   .split at e
    .rename_i hc;have⟨y,g2,e⟩:=mS e;cases e;have⟨g3,g4⟩:=dj g1 al;have⟨i3,Z⟩:=h.1 _ _ _ _ _ h1 g4;refine⟨?_,Z⟩;show(evE tb o δ ch).bind _=_;rw[i3,qa0];dsimp only;rw[g3];dsimp only;rw[if_pos hc,g2];rfl
    .cases e
   .cases e
  .cases e
 |ix a b O hb=>exact⟨(O.1).b (j:=λc=>_) λc=>(hb.1).b (j:=λd=>_) λd=>.vw (j:=λd=>_) λd=>.c,.p,.p⟩
 |ls m as h=>exact⟨(h.2.2).b (j:=λcs=>_) λcs=>.p,.p,.p⟩
 |tu as h=>exact⟨(h.2.2).b (j:=λcs=>_) λcs=>.p,.p,.p⟩
 |tr a h=>refine⟨.w,?_,.p⟩;cases a<;>first|exact(h.1).b (j:=λc _ ch=>(vw ch c).bind λd=>(iP d).map λb=>(b,ch)) λc=>.p|exact(h.1).b (j:=λc _ ch=>(dH c).map λb=>(b,ch)) λc=>.p
 |tn a h=>exact⟨.w,λδ ch s r s' e al=>by have⟨p,h1,h2⟩:=bS e;cases h2;have⟨W,U⟩:=h.2.1 _ _ _ _ _ h1 al;exact⟨by show(evT tb a δ ch).map _=_;rw[W];rfl,U⟩,.p⟩
 |ta a b O hb=>exact⟨.w,O.2.1.f hb.2.1 .p,.p⟩
 |to a b O hb=>exact⟨.w,O.2.1.f .p hb.2.1,.p⟩
 |nil=>exact⟨.w,.p,.p⟩
 |cons a as O h=>exact⟨.w,.p,λδ ch s r s' e al=>by have⟨p,h1,e⟩:=bS e;have⟨q,h2,e⟩:=bS e;cases e;have⟨W,U⟩:=h.2.2 _ _ _ _ _ h2 al;have⟨i3,Z⟩:=O.1 _ _ _ _ _ h1 U;exact⟨by show(evE tb a δ ch).bind _=_;rw[i3,qa0,W];rfl,Z⟩⟩
 |k d=>exact⟨.p,.p,.p⟩
 |v i=>exact⟨.p,.p,.p⟩
 |g j=>exact⟨.p,.p,.p⟩
 |_=>exact⟨.w,.p,.p⟩
noncomputable def sB(x y:Sl->CH->Qs->ζ (Og×Qs)):Sl->CH->Qs->ζ (Og×Qs):=λδ ch s=>(x δ ch s).bind λp=>match p.1 with
 |.nx δ' ch'=>y δ' ch' p.2
 |o=>ς (o,p.2)
noncomputable def sA{α:Type}(x:QM α)(k:α->Sl->CH->ζ Og):Sl->CH->Qs->ζ (Og×Qs):=λδ ch s=>(x δ ch s).bind λp=>(k p.1.1 δ p.1.2).map λo=>(o,p.2)
def sK{α:Type}(x:QM α)(k:α->Sl->CH->ζ Og):Sl->CH->Qs->ζ (Og×Qs):=λδ ch s=>(x δ ch s).bind λp=>kO (k p.1.1 δ p.1.2) p.2
def qqBq(x y:QM CV):QM (CV×CV):=qB x λc=>qB y λd=>qP λ_ ch=>ς ((c,d),ch)
def apO(l:η CV)(c:CV):ζ CO:=if l.length<qa4/\c.sol=θ then ς (.e (l++[c]))else ψ
def xS(tb:Tb):S->Sl->CH->Qs->ζ (Og×Qs)
 |.nil=>λδ ch s=>ς (.nx δ ch,s)
 |.sq a b=>sB (xS tb a) (xS tb b)
 |.set i e=>sA (xE tb e) λc δ ch=>if c.kp then ς (.nx (δ.set i (ς c)) ch)else ψ
 |.rt e=>sA (xE tb e) λc _ ch=>if c.sol then ς (.rt c ch)else ψ
 |.rn=>λ_ ch s=>ς (.rt (.g .non) ch,s)
 |.dr e=>sA (xE tb e) λ_ δ ch=>ς (.nx δ ch)
 |.cd c a b=>λδ ch s=>(xT tb c δ ch s).bind λp=>if p.1.1 then xS tb a δ p.1.2 p.2 else xS tb b δ p.1.2 p.2
 |.fl c f o e=>sA (qqBq (xE tb e) (xE tb o)) λp δ ch=>(match p.2 with
  |.ref i=>((ch[i]?).bind λo=>cP c f o p.1).map λo'=>.nx δ (ch.set i o')
  |_=>ψ)
 |.put a k e=>λδ ch s=>(qB (xE tb e) (λv=>qB (xE tb a) λo=>qB (xE tb k) λw=>qP λ_ ch=>ς ((v,o,w),ch)) δ ch s).bind λq=>(match q.1.1.2.1 with
  |.ref i=>if q.1.1.1.sol then(vw q.1.2 q.1.1.2.2).bind λd=>(kH q.1.2[i]? q.2).bind λo=>(kP (gk o.1 d q.1.1.1) o.2).map λr=>(.nx δ (q.1.2.set i r.1),r.2)else ψ
  |_=>ψ)
 |.ap a e=>λδ ch s=>(xE tb a δ ch s).bind λp=>(xE tb e δ p.1.2 p.2).bind λq=>(match p.1.1 with
  |.ref i=>(cK p.1.2 i).bind λ_=>(cK q.1.2 i).bind λl=>(kP (apO l q.1.1) q.2).map λr=>(.nx δ (q.1.2.set i r.1),r.2)
  |_=>ψ)
 |.aps i e=>sK (xE tb e) λc δ ch=>sAs i (λ_ ch=>ς (c,ch)) δ ch
 |s=>λδ ch q=>kO (evS tb s δ ch) q
omit x in
def ux(tb:Tb)(s:S):Sns (xS tb s) (evS tb s):=by
 induction s with
 |nil=>intro δ ch s r s' e al;cases e;exact⟨rfl,al⟩
 |sq a b ha hb=>
  intro δ ch s r s' e al;have⟨⟨o,s1⟩,h1,e⟩:=bS e;cases o with
  |nx δ1 ch1=>have⟨Z,W⟩:=hb _ _ _ _ _ e al;have⟨U,O⟩:=ha _ _ _ _ _ h1 W;exact⟨by show(evS tb a δ ch).bind _=_;rw[U];exact Z,O⟩
  |_=>cases e;have⟨U,O⟩:=ha _ _ _ _ _ h1 al;exact⟨by show(evS tb a δ ch).bind _=_;rw[U];rfl,O⟩
 |set i e=>intro δ ch s r s' h al;have⟨p,h1,h⟩:=bS h;have⟨o,h2,h⟩:=mS h;cases h;have⟨U,O⟩:=(fQ tb e).1 _ _ _ _ _ h1 al;exact⟨by show(evE tb e δ ch).bind _=_;rw[U];exact h2,O⟩
 |rt e=>intro δ ch s r s' h al;have⟨p,h1,h⟩:=bS h;have⟨o,h2,h⟩:=mS h;cases h;have⟨U,O⟩:=(fQ tb e).1 _ _ _ _ _ h1 al;exact⟨by show(evE tb e δ ch).bind _=_;rw[U];exact h2,O⟩
 |rn=>intro δ ch s r s' e al;cases e;exact⟨rfl,al⟩
 |dr e=>intro δ ch s r s' h al;have⟨p,h1,h⟩:=bS h;cases h;have⟨U,O⟩:=(fQ tb e).1 _ _ _ _ _ h1 al;exact⟨by show(evE tb e δ ch).map _=_;rw[U];rfl,O⟩
 |cd c a b ha hb=>
  intro δ ch s r s' e al;have⟨⟨⟨w,ch1⟩,s1⟩,h1,e⟩:=bS e;cases w with
  |true=>have⟨Z,W⟩:=ha _ _ _ _ _ e al;have⟨U,O⟩:=(fQ tb c).2.1 _ _ _ _ _ h1 W;exact⟨by show(evT tb c δ ch).bind _=_;rw[U];exact Z,O⟩
  |false=>have⟨Z,W⟩:=hb _ _ _ _ _ e al;have⟨U,O⟩:=(fQ tb c).2.1 _ _ _ _ _ h1 W;exact⟨by show(evT tb c δ ch).bind _=_;rw[U];exact Z,O⟩
 |fl c f o e=>intro δ ch s r s' h al;have⟨p,h1,h⟩:=bS h;have⟨w,h2,h⟩:=mS h;cases h;have⟨q1,k1,h1⟩:=bS h1;have⟨q2,k2,h1⟩:=bS h1;cases h1;have⟨Z,W⟩:=(fQ tb o).1 _ _ _ _ _ k2 al;have⟨U,O⟩:=(fQ tb e).1 _ _ _ _ _ k1 W;exact⟨by show(evE tb e δ ch).bind _=_;rw[U,qa0,Z];exact h2,O⟩
 |put a k e=>
  intro δ ch s r s' h al;have⟨_,h1,h⟩:=bS h;have⟨⟨⟨v,c1⟩,s1⟩,k1,h1⟩:=bS h1;have⟨⟨⟨o,c2⟩,s2⟩,k2,h1⟩:=bS h1;have⟨⟨⟨w,c3⟩,s3⟩,k3,h1⟩:=bS h1;cases h1;dsimp only at h;split at h
  .rename_i i;split at h
   .rename_i hs;have⟨d,g1,h⟩:=bS h;have⟨c,g2,h⟩:=bS h;have⟨c',g3,h⟩:=mS h;cases h;have⟨g4,al⟩:=dj g3 al;have⟨g2,al⟩:=dj g2 al;have⟨i5,i6⟩:=(fQ tb k).1 _ _ _ _ _ k3 al;have⟨Z,W⟩:=(fQ tb a).1 _ _ _ _ _ k2 i6;have⟨U,O⟩:=(fQ tb e).1 _ _ _ _ _ k1 W;refine⟨?_,O⟩;show(evE tb e δ ch).bind _=_;rw[U,qa0,Z,qa0,i5,qa0];dsimp only;rw[if_pos hs,g1,qa0,g2,qa0,g4];rfl
   .cases h
  .cases h
 |ap a e=>
  intro δ ch s r s' h al;have⟨⟨⟨v,ch1⟩,s1⟩,h1,h⟩:=bS h;have⟨⟨⟨w,ch2⟩,s2⟩,h2,h⟩:=bS h;dsimp only at h;split at h
  .have⟨_,g1,h⟩:=bS h;have⟨l,g2,h⟩:=bS h;have⟨c',g3,h⟩:=mS h;cases h;have⟨g4,al⟩:=dj g3 al;have⟨Z,W⟩:=(fQ tb e).1 _ _ _ _ _ h2 al;have⟨U,O⟩:=(fQ tb a).1 _ _ _ _ _ h1 W;refine⟨?_,O⟩;show(evE tb a δ ch).bind _=_;rw[U,qa0,Z,qa0];dsimp only;rw[g1,qa0,g2,qa0];unfold apO at g4;split at g4
   .rename_i hc;rw[if_pos hc,qc9 g4]
   .cases g4
  .cases h
 |aps i e=>intro δ ch s r s' h al;have⟨p,h1,h⟩:=bS h;have⟨h2,al⟩:=dj h al;have⟨U,O⟩:=(fQ tb e).1 _ _ _ _ _ h1 al;exact⟨by show(evE tb e δ ch).bind _=_;rw[U];exact h2,O⟩
 |_=>exact λδ ch s r s' h al=>dj h al
inductive Oa:List An->List Prop->Prop
 |nil:Oa [] []
 |v (n:Nat) {w:Option (CV×CH)} {x:CV×CH} {g:List An} {L:List Prop} (h:w=ς x) (t:Oa g L):Oa (.v n x::g) ((w=ς x)::L)
 |o (n:Nat) {w:Option Og} {x:Og} {g:List An} {L:List Prop} (h:w=ς x) (t:Oa g L):Oa (.o n x::g) ((w=ς x)::L)
 |t (n:Nat) {w:Option T} {x:T} {g:List An} {L:List Prop} (h:w=ς x) (t:Oa g L):Oa (.t n x::g) ((w=ς x)::L)
 |c (n:Nat) {w:Option CV} {x:CV} {g:List An} {L:List Prop} (h:w=ς x) (t:Oa g L):Oa (.c n x::g) ((w=ς x)::L)
 |h (n:Nat) {w:Option CO} {x:CO} {g:List An} {L:List Prop} (h:w=ς x) (t:Oa g L):Oa (.h n x::g) ((w=ς x)::L)
 |d (n:Nat) {w:Option Dt} {x:Dt} {g:List An} {L:List Prop} (h:w=ς x) (t:Oa g L):Oa (.d n x::g) ((w=ς x)::L)
 |p (n:Nat) {w:Option CO} {x:CO} {g:List An} {L:List Prop} (h:w=ς x) (t:Oa g L):Oa (.p n x::g) ((w=ς x)::L)
def Oa.all{g:η An}{L:η Prop}(h:Oa g L):All L:=by
 induction h with
 |nil=>trivial
 |v _ h _ O|o _ h _ O|t _ h _ O|c _ h _ O|p _ h _ O|d _ h _ O|h _ h _ O=>exact⟨h,O⟩
def o5{L M:η Prop}(h:All L)(k:All M):All (L.reverseAux M):=by
 induction L generalizing M with
 |nil=>exact k
 |cons p l O=>exact O h.2 ⟨h.1,k⟩
def xF(gc:η (Str×Dt))(g:η An):η Df->η CV->CH->ζ ((CV×CH)×η Prop)
 |[],_,_=>ψ
 |d::r,cs,ch=>match xS (aM gc r) d.b (cs.map ς++qa9 (d.m-cs.length) ψ) ch (g,[])with
  |some (.rt c ch',[],L)=>ς ((c,ch'),L)
  |some (.nx _ ch',[],L)=>ς ((.g .non,ch'),L)
  |_=>ψ
omit x in
theorem D9{gc:η (Str×Dt)}{ds:η Df}{g:η An}{L:η Prop}{r:CV×CH}(a:Oa g L)(h:xF gc g ds cs ch=ς (r,L.reverse)):FF gc ds cs ch=ς r:=by
 cases ds with
 |nil=>cases h
 |cons d ds=>
  have al:All L.reverse:=o5 a.all trivial;show cD _ _ _ _=_;unfold cD
  replace h:(match xS (aM gc ds) d.b (cs.map ς++qa9 (d.m-cs.length) ψ) ch (g,[])with|some (.rt c ch',[],L)=>ς ((c,ch'),L)|some (.nx _ ch',[],L)=>ς ((CV.g .non,ch'),L)|_=>ψ)=ς (r,L.reverse):=h
  split at h
  .rename_i q;cases h;rw[((ux _ _) _ _ _ _ _ q al).1]
  .rename_i q;cases h;rw[((ux _ _) _ _ _ _ _ q al).1]
  .cases h
theorem xR{gc:η (Str×Dt)}{ds:η Df}{g:η An}{L:η Prop}{r:CV×CH}(a:Oa g L)(h:xF gc g ds cs ch=ς (r,L.reverse):=by kernel_rfl):FF gc ds cs ch=ς r:=D9 a h
theorem xRs{s:S}{g:η An}{L:η Prop}{o:Og}(a:Oa g L)(h:xS tb s δ ch (g,[])=ς (o,([],L.reverse)):=by kernel_rfl):evS tb s δ ch=ς o:=(ux tb s _ _ _ _ _ h (o5 a.all trivial)).1
noncomputable def foB:S->S
 |.sq (.fo _ _ b) _=>b
 |.sq (.wh _ _ b) _=>b
 |.sq _ b=>foB b
 |_=>.nil
theorem vl{i:Nat}{L:η Dt}(h:ch[i]?=ς (.e (L.map .g))):vw ch (.ref i)=ς (.e L):=by show(ch[i]?).bind vwO=_;rw[h];show(dats (L.map .g)).map Dt.e=_;rw[bO];rfl
theorem ofS{a b:String}:(qd0 a=qd0 b)=(a=b):=by refine propext ⟨λh=>?_,λh=>h▸rfl⟩;rw[za6,za6]at h;exact String.toList_inj.mp ((List.map_inj_right λ_ _=>Char.toNat_inj.mp).mp (congrArg (·.cps.toList) h))
structure Fx where
 rows:List Dt
 onw:List Dt
 sk:List Key
 sv:List Dt
 tw:List Dt
 kk:List Key
 kv:List Dt
 inc:List Dt
structure HS where
 x:Fx
 plan:List Dt
 h0:List Dt
 h1:List Dt
 pb0:List Dt
 pb1:List Dt
 pt0:List Dt
 pt1:List Dt
 cnt:Int
 res:Dt
 fst:List (Key×Dt)
 unl:Bool
 dust:Int
noncomputable abbrev dl(l:η Dt):CO:=.e (l.map .g)
noncomputable def dp{κ:Type}(l:η (κ×Dt)):η (κ×CV):=l.map λp=>(p.1,.g p.2)
def cH{κ:Type}{l:η (κ×Dt)}:(dp l).map (·.1)=l.map (·.1):=by simp[dp,qb2]
def cI{κ:Type}{l:η (κ×Dt)}:dats ((dp l).map (·.2))=ς (l.map (·.2)):=by
 have e:(dp l).map (·.2)=(l.map (·.2)).map .g:=by simp[dp,qb2]
 rw[e,bO]
def nK{κ:Type}{l:η (κ×Dt)}:((dp l).map (·.1)).zip (l.map (·.2))=l:=by
 rw[cH];induction l with
 |nil=>rfl
 |cons p l O=>rwa[qa2,qo1,O]
def nM{κ:Type}{l:η (κ×Dt)}:(dp l).length=l.length:=by simp[dp]
noncomputable abbrev I(i:Int):CV:=.g (.int i)
def hO(S:HS)(lv O:CV):CO:=.ins 3 [.g (.t S.x.rows),.g (.e S.x.onw),.g (.dct S.x.sk S.x.sv),.g (.e S.x.tw),.g (.dct S.x.kk S.x.kv),.g (.e S.x.inc),.ref 1,.ref 2,I S.dust,lv,O]
def hb(S:HS)(lv:CV)(rf:η (Key×CV))(tl:CH):CH:=hO S lv (.ref 3)::.ins 2 [.ref 4,.ref 5,.ref 6,.ref 7,I S.cnt,.g S.res]::.ins 0 [.ref 8,.g (.bl S.unl)]::dl S.plan::.dK rf::.e [.g (.t S.h0),.g (.t S.h1)]::.e [.ref 9,.ref 10]::.e [.ref 11,.ref 12]::.dK (dp S.fst)::dl S.pb0::dl S.pb1::dl S.pt0::dl S.pt1::tl
section
variable{S:HS}{lv:CV}{rf:η (Key×CV)}{tl:CH}
theorem B0:(hb S lv rf tl)[0]?=ς (.ins 3 [.g (.t S.x.rows),.g (.e S.x.onw),.g (.dct S.x.sk S.x.sv),.g (.e S.x.tw),.g (.dct S.x.kk S.x.kv),.g (.e S.x.inc),.ref 1,.ref 2,I S.dust,lv,.ref 3]):=rfl
def hb_1:(hb S lv rf tl)[1]?=ς (.ins 2 [.ref 4,.ref 5,.ref 6,.ref 7,I S.cnt,.g S.res]):=rfl
def hb_2:(hb S lv rf tl)[2]?=ς (.ins 0 [.ref 8,.g (.bl S.unl)]):=rfl
def hb_3:(hb S lv rf tl)[3]?=ς (.e (S.plan.map .g)):=rfl
def hb_4:(hb S lv rf tl)[4]?=ς (.dK rf):=rfl
def hb_5:(hb S lv rf tl)[5]?=ς (.e [.g (.t S.h0),.g (.t S.h1)]):=rfl
def hb_6:(hb S lv rf tl)[6]?=ς (.e [.ref 9,.ref 10]):=rfl
def hb_7:(hb S lv rf tl)[7]?=ς (.e [.ref 11,.ref 12]):=rfl
def hb_8:(hb S lv rf tl)[8]?=ς (.dK (dp S.fst)):=rfl
def hb_9:(hb S lv rf tl)[9]?=ς (.e (S.pb0.map .g)):=rfl
def Ea:(hb S lv rf tl)[10]?=ς (.e (S.pb1.map .g)):=rfl
def Eb:(hb S lv rf tl)[11]?=ς (.e (S.pt0.map .g)):=rfl
def Ec:(hb S lv rf tl)[12]?=ς (.e (S.pt1.map .g)):=rfl
def hb_t{k:Nat}:(hb S lv rf tl)[k+13]?=tl[k]?:=rfl
end
local macro_rules|`(tactic|simp! only[$x,*]$(l)?)=>do
 let a:=mL0 "cD aj ax sRt sRn sIf bC sDr sFl sFa sAu sPt sAp sCl e2 eIx eAt eV eK eTu eLs eB kB eCa kCa eMe eIf eIs eGt eIl aZ bJ tNt tAn iS aCn aNl"
 `(tactic|simp only[$a,*,$x,*]$(l)?)
local macro_rules|`(tactic|simp![$x,*]$(l)?)=>do
 let a:=mL0 ("ixD bQ gIx atI ixN "++mD0)
 `(tactic|simp[PySem.sizeLine_eq,$a,*,$x,*]$(l)?)
local macro_rules|`(tactic|dsimp![$x,*]$(l)?)=>do
 let a:=mL0 mD0
 `(tactic|simp[PySem.sizeLine_eq,$a,*,$x,*]$(l)?)
section
variable{S:HS}{lv:CV}{rf:η (Key×CV)}{tl:CH}
def ans2_at:F24 [.ref 0] (hb S lv rf tl)=ς (.g S.res,hb S lv rf tl):=rfl
def uy:F21 [.ref 0] (hb S lv rf tl)=ς (I S.cnt,hb S lv rf tl):=rfl
def four{h:η Dt}(e:h.length=4):∃a b c d,h=[a,b,c,d]:=by
 match h,e with
 |[a,b,c,d],_=>exact⟨a,b,c,d,rfl⟩
theorem tup4{h:η Dt}(e:h.length=4){x y:Dt}:oAdd.g (.t h) (.t [x,y])=ς (.f (.t (h++[x,y]))):=by have⟨a,b,c,d,rfl⟩:=four e;kernel_rfl
theorem uz(h:S.h0.length=4):F18 [.ref 1,I 0] (hb S lv rf tl)=ς (.g (.t (S.h0++[.e S.pb0,.e S.pt0])),hb S lv rf tl):=xR (.d 0 (vl (ch:=hb S lv rf tl) (i:=9) (L:=S.pb0) rfl) (.d 0 (vl (ch:=hb S lv rf tl) (i:=11) (L:=S.pt0) rfl) (.t 1 (tup4 h (x:=.e S.pb0) (y:=.e S.pt0)) .nil)))
theorem uA(h:S.h1.length=4):F18 [.ref 1,I 1] (hb S lv rf tl)=ς (.g (.t (S.h1++[.e S.pb1,.e S.pt1])),hb S lv rf tl):=xR (.d 0 (vl (ch:=hb S lv rf tl) (i:=10) (L:=S.pb1) rfl) (.d 0 (vl (ch:=hb S lv rf tl) (i:=12) (L:=S.pt1) rfl) (.t 1 (tup4 h (x:=.e S.pb1) (y:=.e S.pt1)) .nil)))
noncomputable def pgD(S:HS):η Dt:=if S.cnt=0 then S.h0++[.e S.pb0,.e S.pt0]else S.h1++[.e S.pb1,.e S.pt1]
theorem kM(O:S.h0.length=4)(h1:S.h1.length=4)(hc:S.cnt=0\/S.cnt=1):F19 [.ref 0,I S.cnt] (hb S lv rf tl)=ς (.g (.t (pgD S)),hb S lv rf tl):=by
 unfold pgD;rcases hc with hc|hc
 .rw[hc,if_pos rfl];exact xR (.v 0 (uz (lv:=lv) (rf:=rf) (tl:=tl) O) .nil)
 .rw[hc,if_neg Ω];exact xR (.v 0 (uA (lv:=lv) (rf:=rf) (tl:=tl) h1) .nil)
theorem gz(h:S.res=.non):F25 [.ref 0] (hb S lv rf tl)=ς (.g (.bl ξ),hb S lv rf tl):=xR (.v 0 (w:=F24 [.ref 0] (hb S lv rf tl)) (ans2_at.trans (by rw[h])) .nil)
theorem gD{i:Int}(h:S.res=.int i):F25 [.ref 0] (hb S lv rf tl)=ς (.g (.bl θ),hb S lv rf tl):=xR (.v 0 (w:=F24 [.ref 0] (hb S lv rf tl)) (ans2_at.trans (by rw[h])) .nil)
def other_at:F28 [.ref 1] (hb S lv rf tl)=ς (I (1-S.cnt),hb S lv rf tl):=rfl
def xG{v:Dt}:F35 [.ref 1,.g v] (hb S lv rf tl)=ς (.g .non,hb {S with res:=v} lv rf tl):=rfl
theorem uB{n:Str}{k p:Nat}{v:Dt}(h1:lkC rf (.inr n)=ς (.ref (k+13)))(h2:tl[k]?=ς (dl l))(hp:p<l.length):F27 [.ref 1,.g (.str n),I p,.g v] (hb S lv rf tl)=ς (.g .non,hb S lv rf (tl.set k (dl (l.set p v)))):=by
 have e:ixN l.length (p:Int)=ς p:=by unfold ixN;simp;lia
 simp! only[q27];simp[lent,vw,ixV,ixO,asI,gk,cO,CV.sol,B0,hb_1,hb_2,hb_3,hb_4,hb_5,hb_6,hb_7,hb_8,hb_9,Ea,Eb,Ec,hb_t,h1,h2,e];rw[<- qr2];rfl
theorem lY{d:Dt}(hl:l.length<qa4):apO (l.map .g) (.g d)=ς (dl (l++[d])):=by unfold apO;rw[if_pos ⟨by rw[qa3];exact hl,rfl⟩,dl,qd1];rfl
theorem B1(hc:S.cnt=1){n v:Dt}(hl:S.pb0.length<qa4):F30 [.ref 1,.g n,.g v] (hb S lv rf tl)=ς (.g .non,hb {S with pb0:=S.pb0++[.t [n,v]]} lv rf tl):=xR (.v 0 (w:=F28 [.ref 1] (hb S lv rf tl)) (x:=(I 0,hb S lv rf tl)) (other_at.trans (by rw[hc];rfl)) (.p 0 (lY (d:=.t [n,v]) hl) .nil))
theorem B2(hc:S.cnt=0){n v:Dt}(hl:S.pb1.length<qa4):F30 [.ref 1,.g n,.g v] (hb S lv rf tl)=ς (.g .non,hb {S with pb1:=S.pb1++[.t [n,v]]} lv rf tl):=xR (.v 0 (w:=F28 [.ref 1] (hb S lv rf tl)) (x:=(I 1,hb S lv rf tl)) (other_at.trans (by rw[hc];rfl)) (.p 0 (lY (d:=.t [n,v]) hl) .nil))
theorem B3(hc:S.cnt=1){n p v:Dt}(hl:S.pt0.length<qa4):F31 [.ref 1,.g n,.g p,.g v] (hb S lv rf tl)=ς (.g .non,hb {S with pt0:=S.pt0++[.t [.t [n,p],v]]} lv rf tl):=xR (.v 0 (w:=F28 [.ref 1] (hb S lv rf tl)) (x:=(I 0,hb S lv rf tl)) (other_at.trans (by rw[hc];rfl)) (.p 0 (lY (d:=.t [.t [n,p],v]) hl) .nil))
theorem B4(hc:S.cnt=0){n p v:Dt}(hl:S.pt1.length<qa4):F31 [.ref 1,.g n,.g p,.g v] (hb S lv rf tl)=ς (.g .non,hb {S with pt1:=S.pt1++[.t [.t [n,p],v]]} lv rf tl):=xR (.v 0 (w:=F28 [.ref 1] (hb S lv rf tl)) (x:=(I 1,hb S lv rf tl)) (other_at.trans (by rw[hc];rfl)) (.p 0 (lY (d:=.t [.t [n,p],v]) hl) .nil))
def hbN(S:HS)(lv:CV)(rf:η (Key×CV))(b0 b1 t0 t1:Nat)(tl:CH):CH:=hO S lv (.ref 3)::.ins 2 [.ref 4,.ref 5,.ref 6,.ref 7,I S.cnt,.g S.res]::.ins 0 [.ref 8,.g (.bl S.unl)]::dl S.plan::.dK rf::.e [.g (.t S.h0),.g (.t S.h1)]::.e [.ref b0,.ref b1]::.e [.ref t0,.ref t1]::.dK (dp S.fst)::dl S.pb0::dl S.pb1::dl S.pt0::dl S.pt1::tl
theorem xH(hc:S.cnt=1){a b c d:Dt}:F29 [.ref 1,.g a,.g b,.g c,.g d] (hb S lv rf tl)=ς (.g .non,hbN {S with h0:=[a,b,c,d]} lv rf (tl.length+13) 10 (tl.length+1+13) 12 (tl++[.e []]++[.e []])):=by
 have⟨x,pl,h0,h1,O,W,q0,q1,ct,rs,fs,un,U⟩:=S;cases hc;have e:(tl++[CO.e []]).length=tl.length+1:=by simp
 rw[<- e];rfl
theorem xI(hc:S.cnt=0){a b c d:Dt}:F29 [.ref 1,.g a,.g b,.g c,.g d] (hb S lv rf tl)=ς (.g .non,hbN {S with h1:=[a,b,c,d]} lv rf 9 (tl.length+13) 11 (tl.length+1+13) (tl++[.e []]++[.e []])):=by
 have⟨x,pl,W,h1,O,Z,q0,q1,ct,rs,fs,un,U⟩:=S;cases hc;have e:(tl++[CO.e []]).length=tl.length+1:=by simp
 rw[<- e];rfl
end
inductive Sm where
 |put (n:Str) (p:Nat) (v:Int)|wake|beg (a b c d:Int)|box (n:Str) (v:Int)|log (n:Str) (p:Nat) (v:Int)|trn
noncomputable def Sm.d:Sm->Dt
 |.put n p v=>.t [.str "put",.str n,.int p,.int v]
 |.wake=>.t [.str "wake"]
 |.beg a b c d=>.t [.str "begin",.int a,.int b,.int c,.int d]
 |.box n v=>.t [.str "box",.str n,.int v]
 |.log n p v=>.t [.str "log",.str n,.int p,.int v]
 |.trn=>.t [.str "turn"]
abbrev Tn:=(Str×Nat)×Int
noncomputable def Tn.d(t:Tn):Dt:=.t [.t [.str t.1.1,.int t.1.2],.int t.2]
variable{ts:η Tn}{P:η Dt}{S':HS}
section
variable{S:HS}{lv:CV}{rf:η (Key×CV)}{tl:CH}
theorem lZ{ch:CH}{k:Str}(hl:ts.length<=qa4):F16 [.g (.str k),.g (.e (ts.map Tn.d))] ch=ς (.g (.e (ts.map λt=>.t [.str k,.str t.1.1,.int t.1.2,.int t.2])),ch):=by
 have:=bT (pt:=.many [0,1]) (ft:=tYs) (fe:=eTu (aCn (eV 2) (aCn (eIx (eV 0) (eK (.int 0))) (aCn (eIx (eV 0) (eK (.int 1))) (aCn (eV 1) aNl))))) (δ:=gC [ψ,ψ,ς 0] [ς (.g (.str k)),ς (.g (.e (ts.map Tn.d)))]) (ch:=ch) (f:=Tn.d) (g:=λt:Tn=>.t [.str k,.str t.1.1,.int t.1.2,.int t.2]) (l:=ts) λt _=>⟨_,rfl,rfl,rfl⟩
 refine xR (.v 0 (show eCo .v [ψ,ψ,ς 0] (iE (eV 1)) (bnd (.many [0,1])) tYs (eTu (aCn (eV 2) (aCn (eIx (eV 0) (eK (.int 0))) (aCn (eIx (eV 0) (eK (.int 1))) (aCn (eV 1) aNl))))) [ς (.g (.str k)),ς (.g (.e (ts.map Tn.d)))] ch=ς (.g (.e (ts.map λt=>.t [.str k,.str t.1.1,.int t.1.2,.int t.2])),ch)from ?_) .nil);simp[eCo,iE,eV,lent,itD,this,qa3,hl,bG,fin,T.d]
noncomputable def dm(ts:η Tn):η Sm:=ts.map λt=>.put t.1.1 t.1.2 t.2
noncomputable def uC(ts:η Tn):η Sm:=ts.map λt=>.log t.1.1 t.1.2 t.2
theorem jE{ch:CH}{a b c d e:Dt}(hl:ts.length<qa4):F17 [.g (.t [a,b,c,d,e,.e (ts.map Tn.d)])] ch=ς (.ref ch.length,ch++[dl ((dm ts++[Sm.wake]).map Sm.d)]):=by
 have h1:=lZ (ch:=ch) (k:="put") (qq7 hl);have O:(dm ts++[Sm.wake]).map Sm.d=(ts.map λt=>.t [.str "put",.str t.1.1,.int t.1.2,.int t.2])++[.t [.str "wake"]]:=by simp[dm,Sm.d,qb2]
 have h2:oAdd.g (.e (ts.map λt=>.t [.str "put",.str t.1.1,.int t.1.2,.int t.2])) (.e [.t [.str "wake"]])=ς (.e ((dm ts++[Sm.wake]).map Sm.d)):=by rw[O];simp[oAdd,orO,eG,show ts.length+1<=qa4 from hl]
 exact xR (.v 0 h1 (.t 0 h2 .nil))
section
variable{ch':CH}{n p v a b c d:Dt}
theorem B5(h:F27 [.ref 1,.g n,.g p,.g v] (hb S lv rf tl)=ς (.g .non,ch')):F33 [.ref 1,.g (.t [.str "put",n,p,v])] (hb S lv rf tl)=ς (.g .non,ch'):=xR (.v 0 h .nil)
theorem uD(h:F29 [.ref 1,.g a,.g b,.g c,.g d] (hb S lv rf tl)=ς (.g .non,ch')):F33 [.ref 1,.g (.t [.str "begin",a,b,c,d])] (hb S lv rf tl)=ς (.g .non,ch'):=xR (.v 0 h .nil)
theorem uE(h:F30 [.ref 1,.g n,.g v] (hb S lv rf tl)=ς (.g .non,ch')):F33 [.ref 1,.g (.t [.str "box",n,v])] (hb S lv rf tl)=ς (.g .non,ch'):=xR (.v 0 h .nil)
theorem uF(h:F31 [.ref 1,.g n,.g p,.g v] (hb S lv rf tl)=ς (.g .non,ch')):F33 [.ref 1,.g (.t [.str "log",n,p,v])] (hb S lv rf tl)=ς (.g .non,ch'):=xR (.v 0 h .nil)
def B6:F33 [.ref 1,.g (.t [.str "turn"])] (hb S lv rf tl)=ς (.g .non,hb {S with cnt:=1-S.cnt} lv rf tl):=xR .nil
def eqI'{a b:Int}{q:Bool}(h:decide (a=b)=q):oEq.g (.int a) (.int b)=ς (.f (.bl q)):=by rw[<- h];rfl
theorem nN{d:Dt}(hp:S.plan=d::P)(hl:S.plan.length<=1000000):qF (eAt 3 10 (eV 0)) (eK (.int 0)) [ς (.ref 0),ψ] (hb S lv rf tl)=ς (.g d,hb {S with plan:=P} lv rf tl):=by rw[hp]at hl;rwa[qb6]at hl;have e:(hb S lv rf tl).set 3 (.e (P.map .g))=hb {S with plan:=P} lv rf tl:=rfl;simp[qF,eAt,eV,eK,lent,B0,hb_3,hp,bY,cK,ixN,e];lia
def ix0{d:Dt}:ixV ch (.g (.t (d::l))) (.int 0)=ς (.g d):=by show(ixD _ _).map CV.g=_;simp[ixD,bQ,gIx,atI,ixN]
theorem noWk{k:Str}(O:(k=qd0 "wake")=False):oEq.g (.str k) (.str "wake")=ς (.f (.bl ξ)):=by show ς (T.f (.bl (decide (k=qd0 "wake"))))=_;rw[decide_eq_false (by rw[O];exact id)]
theorem dY{k:Str}{q:Dt}(hp:S.plan=.t (.str k::r)::q::P)(U:(k=qd0 "wake")=False)(hl:S.plan.length<=1000000)(W:F33 [.ref 1,.g (.t (.str k::r))] (hb {S with plan:=q::P} lv rf tl)=ς (.g .non,ch'))(Z:ch'[0]?=ς (hO S' lv (.ref 3)))(O:ch'[3]?=ς (dl (q::P))):F34 [.ref 0] (hb S lv rf tl)=ς (.g .non,ch'):=by exact xR (.v 0 (nN (lv:=lv) (rf:=rf) (tl:=tl) hp hl) (.c 0 (ix0 (ch:=hb {S with plan:=q::P} lv rf tl) (d:=.str k) (l:=r)) (.t 0 (noWk U) (.v 0 W (.h 0 Z (.d 0 (vl (ch:=ch') (i:=3) (L:=q::P) O) (.t 1 (eqI' (a:=((q::P).length:Int)) (b:=0) (decide_eq_false (by simp;lia))) .nil)))))))
theorem nO{k:Str}{a b c d e:CV}{bx:CO}{lg:η (η Key×CV)}(hp:S.plan=[.t (.str k::r)])(U:(k=qd0 "wake")=False)(W:F33 [.ref 1,.g (.t (.str k::r))] (hb {S with plan:=[]} (.ref 13) rf tl)=ς (.g .non,hb S' (.ref 13) rf (.ins 1 [a,b,c,d,.ref 14,e,.ref 15]::bx::.dT lg::ch')))(O:S'.plan=[]):F34 [.ref 0] (hb S (.ref 13) rf tl)=ς (.g .non,hb S' (.ref 13) rf (.ins 1 [a,b,c,d,.ref 14,e,.ref 15]::bx::.dT []::ch')):=by
 have h4:oEq.g (.int S'.plan.length) (.int 0)=ς (.f (.bl θ)):=by rw[O];rfl
 exact xR (.v 0 (nN (lv:=.ref 13) (rf:=rf) (tl:=tl) hp (by rw[hp];simp)) (.c 0 (ix0 (ch:=hb {S with plan:=[]} (.ref 13) rf tl) (d:=.str k) (l:=r)) (.t 0 (noWk U) (.v 0 W (.d 0 (vl (ch:=hb S' (.ref 13) rf (.ins 1 [a,b,c,d,.ref 14,e,.ref 15]::bx::.dT lg::ch')) (i:=3) (L:=S'.plan) rfl) (.t 1 h4 .nil))))))
end
abbrev Bx:=Str×Int
noncomputable def Bx.d(t:Bx):Dt:=.t [.str t.1,.int t.2]
noncomputable def bxK(l:η Bx):η (Key×Dt):=l.map λt=>(.inr t.1,.int t.2)
theorem eQ{ch:CH}:∀l:η Bx,aO ch (l.map (CV.g ∘ Bx.d))=ς (dp (bxK l))
 |[]=>rfl
 |t::l=>by rwa[qa2,Function.comp_apply,aO,Bx.d,cg,cO,qb0,qa0,eQ (ch:=ch) l];rfl
def kN{l:η Bx}(O:(l.map (·.1)).Nodup):((bxK l).map (·.1)).Nodup:=by
 have e:(bxK l).map (·.1)=(l.map (·.1)).map qk9:=by simp[bxK]
 rw[e];exact qm8 _ (λa b h q=>h (zd4 q)) O
theorem uG{l:η (Key×Dt)}(O:(l.map (·.1)).Nodup):lN .o (dp l) ch=ς (.ref ch.length,ch++[.dK (dp l)]):=by unfold lN;rw[cI];dsimp only;rw[nK];rwa[fin,al,O,if_true];rfl
theorem xJ{a b c d u:Int}{l:η Bx}{t:Dt}(O:(l.map (·.1)).Nodup):F26 [.ref 0,.g (.t [.int a,.int b,.int c,.int d,.e (l.map Bx.d),t]),I u] [.ins 1 []]=ς (.g .non,[.ins 1 [I a,I b,I c,I d,.ref 1,I u,.ref 2],.dK (dp (bxK l)),.dT []]):=by
 have U:((dp (bxK l)).map (·.1)).Nodup:=by rw[cH];exact kN O
 have h1:eDc .o (eIx (eV 1) (eK (.int 4))) [ς (.ref 0),ς (.g (.t [.int a,.int b,.int c,.int d,.e (l.map Bx.d),t])),ς (I u)] [.ins 1 [I a,I b,I c,I d]]=ς (.ref 1,[.ins 1 [I a,I b,I c,I d],.dK (dp (bxK l))]):=by show(aO _ ((l.map Bx.d).map .g)).bind _=_;rw[qd5,eQ,qa0,if_pos U,uG (kN O)];rfl
 exact xR (.v 0 h1 .nil)
def dZ{κ:Type}{l:η (κ×Dt)}:rnP ρ (dp l)=dp l:=by simp[rnP,dp,rn,qb2]
theorem nP {a b c d:Int} {l:η Bx} {t:Dt} (hp:S.plan=[.t [.str "wake"]]) (hc:S.cnt=0\/S.cnt=1) (h0:S.h0.length=4) (h1:S.h1.length=4) (hg:pgD S=[.int a,.int b,.int c,.int d,.e (l.map Bx.d),t]) (hn:(l.map (·.1)).Nodup) :
  F34 [.ref 0] (hb S lv rf tl)=ς (.g .non,hb {S with plan:=[]} (.ref (tl.length+13)) rf (tl++[.ins 1 [I a,I b,I c,I d,.ref (tl.length+13+1),I S.dust,.ref (tl.length+13+2)],.dK (dp (bxK l)),.dT []])):=by
 have U:F19 [.ref 0,I S.cnt] (hb {S with plan:=[]} lv rf tl)=ς (.g (.t (pgD S)),hb {S with plan:=[]} lv rf tl):=kM (S:={S with plan:=[]}) h0 h1 hc
 have O:=eO (F:=F26) (c:=1) (n:=3) (ch:=hb {S with plan:=[]} lv rf tl) (δ:=[ς (.ref 0),ς (.g (.t [.str "wake"]))]) (fs:=aCn (eMe 3 2 F19 (eV 0) (aCn (eMe 3 1 F21 (eV 0) aNl) aNl)) (aCn (eAt 3 8 (eV 0)) aNl)) (ds:=[.t (pgD S),.int S.dust]) (ay _) (by have Z:F19 [.ref 0,I {S with plan:=[]}.cnt] (hb {S with plan:=[]} lv rf tl)=ς (.g (.t (pgD S)),hb {S with plan:=[]} lv rf tl):=U;simp! only[];simp! [uy,U]) rfl (by rw[hg];exact xJ hn) Ξ
 have eL:(hb {S with plan:=[]} lv rf tl).length=tl.length+13:=rfl
 have eX:hb {S with plan:=[]} lv rf tl++zg2 (rnO λx=>tl.length+13+x) [CO.ins 1 [I a,I b,I c,I d,.ref 1,I S.dust,.ref 2],.dK (dp (bxK l)),.dT []]=hb {S with plan:=[]} lv rf (tl++[.ins 1 [I a,I b,I c,I d,.ref (tl.length+13+1),I S.dust,.ref (tl.length+13+2)],.dK (dp (bxK l)),.dT []]):=by rwa[qa2,qe3,rnO,rn,dZ];rfl
 rw[eL,eX]at O;generalize hT:tl++[CO.ins 1 [I a,I b,I c,I d,.ref (tl.length+13+1),I S.dust,.ref (tl.length+13+2)],.dK (dp (bxK l)),.dT []]=W at O ⊢;have t1:W[tl.length]?=ς (CO.ins 1 [I a,I b,I c,I d,.ref (tl.length+13+1),I S.dust,.ref (tl.length+13+2)]):=by rw[<- hT];simp
 have t2:W[tl.length+2]?=ς (CO.dT []):=by rw[<- hT,qe0 Θ];simp
 have t3:W.set (tl.length+2) (CO.dT [])=W:=by
  refine qy6 λj=>?_
  by_cases hj:tl.length+2=j
  .subst hj;rw[qe5 (ak t2),t2]
  .rw[gN hj]
 have e4:(hb {S with plan:=[]} (.ref (tl.length+13)) rf W)[tl.length+13+2]?=ς (CO.dT []):=by rw[show tl.length+13+2=tl.length+2+13 by lia,hb_t,t2]
 have e5:(hb {S with plan:=[]} (.ref (tl.length+13)) rf W).set (tl.length+13+2) (CO.dT [])=hb {S with plan:=[]} (.ref (tl.length+13)) rf W:=by have:(hb {S with plan:=[]} (.ref (tl.length+13)) rf W).set (tl.length+2+13) (CO.dT [])=hb {S with plan:=[]} (.ref (tl.length+13)) rf (W.set (tl.length+2) (CO.dT [])):=rfl;rw[show tl.length+13+2=tl.length+2+13 by lia,this,t3]
 have e6:sCl θ (eAt 1 6 (eAt 3 9 (eV 0))) [ς (.ref 0),ς (.g (.t [.str "wake"]))] (hb {S with plan:=[]} (.ref (tl.length+13)) rf W)=ς (.nx [ς (.ref 0),ς (.g (.t [.str "wake"]))] (hb {S with plan:=[]} (.ref (tl.length+13)) rf W)):=by simp[sCl,eAt,eV,lent,B0,hb_t,t1,e4,e5,Bt]
 exact xR (.v 0 (nN (lv:=lv) (rf:=rf) (tl:=tl) hp (by rw[hp];simp)) (.v 0 O (.o 0 e6 .nil)))
end
def Vi(d:Dt):Prop:=∃i:Int,d=.int i/\0<=i/\i<1099511627776
structure LS where
 pl:Int
 dn:Int
 he:Int
 sy:Int
 du:Int
 bx:List (Key×Dt)
 lg:List (List Key×Dt)
def lO(l:LS):CO:=.ins 1 [I l.pl,I l.dn,I l.he,I l.sy,.ref 14,I l.du,.ref 15]
abbrev hl(S:HS)(l:LS)(rf:η (Key×CV))(tl:CH):CH:=hb S (.ref 13) rf (lO l::.dK (dp l.bx)::.dT (dp l.lg)::tl)
variable{q:Nat}
section
variable{S:HS}{lv:CV}{rf:η (Key×CV)}{tl:CH}{l:LS}{x y z:CO}
def zh:(hb S lv rf (lO l::y::z::tl))[13]?=ς (.ins 1 [I l.pl,I l.dn,I l.he,I l.sy,.ref 14,I l.du,.ref 15]):=rfl
def Ed:(hb S lv rf (x::y::z::tl))[15]?=ς z:=rfl
theorem iz{κ:Type}[DecidableEq κ]{k:κ}:∀b:η (κ×Dt),lkC (dp b) k=(av (b.map (·.1)) (b.map (·.2)) k).map .g
 |[]=>rfl
 |p::b=>by
  have O:=iz (k:=k) b;by_cases h:p.1=k
  .simp[lkC,dp,av,qy5,h]
  .rwa[lkC,dp,qa2,qy5,h,decide_false,av,if_false]at O ⊢;exact O
theorem kQ{κ:Type}[DecidableEq κ]{k:κ}{d:Dt}:∀b:η (κ×Dt),bF (dp b) k (.g d)=dp (bI b k d)
 |[]=>rfl
 |p::b=>by
  have O:=kQ (k:=k) (d:=d) b;rwa[dp,qa2,bF,bI]at O ⊢;split
  .rfl
  .rw[O];rfl
theorem iA{b:η (Key×Dt)}{x:Str}{v:Dt}(h:b.length<qa4):gk (.dK (dp b)) (.str x) (.g v)=ς (.dK (dp (bI b (.inr x) v))):=by show(if(dp b).length<qa4 then ς (CO.dK (bF (dp b) (.inr x) (.g v)))else ψ)=_;rw[if_pos (by rw[nM];exact h),kQ]
omit x in
theorem dB{κ:Type}[DecidableEq κ]{k:κ}{d:Dt}{p:κ×Dt}:∀{b:η (κ×Dt)},p∈bI b k d->p=(k,d)\/p∈b
 |[],h=>by simp[bI]at h;exact .inl h
 |q::b,h=>by
  unfold bI at h;split at h
  .rename_i e;rcases qc4.mp h with rfl|h
   .exact .inl (by rw[e])
   .exact .inr (.tail _ h)
  .rcases qc4.mp h with rfl|h
   .exact .inr (.head _)
   .rcases dB h with h|h
    .exact .inl h
    .exact .inr (.tail _ h)
theorem dC{κ:Type}[DecidableEq κ]{k:κ}{d:Dt}:∀{b:η (κ×Dt)},(bI b k d).length<=b.length+1
 |[]=>by simp[bI]
 |q::b=>by
  unfold bI;split
  .simp
  .have:=dC (k:=k) (d:=d) (b:=b);simp;lia
omit x in
theorem aW{κ:Type}[DecidableEq κ]{k:κ}{d:Dt}:∀{b:η (κ×Dt)},av (b.map (·.1)) (b.map (·.2)) k=ς d->(k,d)∈b
 |[],h=>by cases h
 |p::b,h=>by
  rwa[qa2,av]at h;split at h
  .rename_i e;cases h;rw[<- e];exact .head _
  .exact .tail _ (aW h)
def B7{v:Int}(h:v%(m:Int)=q)(O:0<m):oMod.g (.int v) (.int m)=ς (.f (.int q)):=by
 have:(0:Int)<m:=by lia
 show(if(0:Int)<(m:Int)then ς (T.f (.int (v%m)))else ψ)=_;rw[if_pos this,h]
theorem bV(Z:Vi (.int l.du))(U:∀p∈l.bx,Vi p.2)(a:Key)(W:Vi (aw a)\/∃s,a=.inr s):∃v,Vi (.int v)/\F36 [.ref 13,.g (aw a)] (hl S l rf tl)=ς (I v,hl S l rf tl):=by
 cases a with
 |inl i=>
  have:Vi (.int i):=by rcases W with h|⟨s,h⟩;exact h;cases h
  exact⟨i,this,xR .nil⟩
 |inr s=>
  have O:∃v,Vi (.int v)/\((av (l.bx.map (·.1)) (l.bx.map (·.2)) (.inr s)).map .g).getD (I l.du)=I v:=by
   cases q:av (l.bx.map (·.1)) (l.bx.map (·.2)) (qk9 s)with
   |none=>exact⟨l.du,Z,rfl⟩
   |some d=>have⟨i,h1,h2⟩:=U _ (aW q);cases h1;exact⟨i,⟨i,rfl,h2⟩,rfl⟩
  have⟨v,h1,h2⟩:=O;exact⟨v,h1,xR (.c 0 (show getV (hl S l rf tl) (.ref 14) (.str s) (I l.du)=ς (I v)by show ς ((lkC (dp l.bx) (.inr s)).getD (I l.du))=_;rw[iz,h2]) .nil)⟩
structure Pl(rf:List (Key×CV))(tl:CH)(n:Str)(k:Nat)(L:List Dt):Prop where
 rf:lkC rf (.inr n)=ς (.ref (k+16))
 tl:tl[k]?=ς (.e (L.map .g))
 vi:∀d∈L,Vi d
def dD{p:Nat}(h:p<n):ixN n (p:Int)=ς p:=by unfold ixN;simp;lia
theorem l4{n:Str}(hd:Vi (.int l.du))(U:∀p∈l.bx,Vi p.2)(a:Key)(Z:Vi (aw a)\/∃s,a=.inr s)(hs:av S.x.sk S.x.sv (.inr n)=ς (.int m))(W:0<m):∃p:Nat,p<m/\F38 [.ref 0,.g (.str n),.g (aw a)] (hl S l rf tl)=ς (I p,hl S l rf tl):=by
 have⟨v,hv,h1⟩:=bV (S:=S) (rf:=rf) (tl:=tl) hd U a Z;have O:(0:Int)<m:=by lia
 have h2:=qi1 v (show(m:Int)≠0 by lia);have h3:=qf5 v O;exact⟨(v%m).toNat,Θ,xR (.v 0 h1 (.c 0 (show ixV (hl S l rf tl) (.g (.dct S.x.sk S.x.sv)) (.str n)=ς (I m)by show(ixD _ _).map CV.g=_;simp[ixD,bQ,cO,hs]) (.t 0 (B7 (v:=v) (q:=(v%m).toNat) Θ W) .nil)))⟩
theorem ixL{i p:Nat}{L:η Dt}(h:ch[i]?=ς (.e (L.map .g)))(hp:p<L.length):ixV ch (.ref i) (.int p)=ς (.g L[p]):=by show(ch[i]?).bind _=_;rw[h];show atI (L.map CV.g) (p:Int)=_;unfold atI;rw[qa3,dD hp];show(L.map CV.g)[p]?=_;rw[qa6,gQ hp];rfl
theorem B8{n:Str}{k p:Nat}{L:η Dt}(h:Pl rf tl n k L)(hp:p<L.length):F42 [.ref 1,.g (.str n),I p] (hl S l rf tl)=ς (.g L[p],hl S l rf tl):=xR (.c 0 (show ixV (hl S l rf tl) (.ref 4) (.str n)=ς (.ref (k+16))from h.rf) (.c 0 (ixL (ch:=hl S l rf tl) (i:=k+16) (L:=L) h.tl hp) .nil))
theorem vlg:vw (hl S l rf tl) (.ref 15)=ς (.dcT (l.lg.map (·.1)) (l.lg.map (·.2))):=by show(dats ((dp l.lg).map (·.2))).map (Dt.dcT ((dp l.lg).map (·.1)))=_;rw[cI,cH];rfl
theorem l5{n:Str}{k p:Nat}{L:η Dt}(W:∀q∈l.lg,Vi q.2)(h:Pl rf tl n k L)(hp:p<L.length):∃v,Vi (.int v)/\F43 [.ref 0,.g (.str n),I p] (hl S l rf tl)=ς (I v,hl S l rf tl):=by
 have O:oIn.g (.t [.str n,.int p]) (.dcT (l.lg.map (·.1)) (l.lg.map (·.2)))=ς (.f (.bl (av (l.lg.map (·.1)) (l.lg.map (·.2)) [qk9 n,qn8 (p:Int)]).isSome)):=rfl;cases q:av (l.lg.map (·.1)) (l.lg.map (·.2)) [qk9 n,qn8 (p:Int)]with
 |some d=>have⟨i,h1,h2⟩:=W _ (aW q);cases h1;rw[q]at O;exact⟨i,⟨i,rfl,h2⟩,xR (.d 0 (vlg (S:=S) (l:=l) (rf:=rf) (tl:=tl)) (.t 0 O (.c 0 (show ixV (hl S l rf tl) (.ref 15) (.t [.str n,.int p])=ς (I i)by show lkC (dp l.lg) _=_;rw[iz,q];rfl) .nil)))⟩
 |none=>have⟨i,h1,h2⟩:=h.vi L[p] (ql4 hp);have U:=B8 (S:=S) (l:=l) h hp;rw[h1]at U;rw[q]at O;exact⟨i,⟨i,rfl,h2⟩,xR (.d 0 (vlg (S:=S) (l:=l) (rf:=rf) (tl:=tl)) (.t 0 O (.v 0 U .nil)))⟩
theorem xK{n:Str}{k p:Nat}{v:Dt}{L:η Dt}(h:Pl rf tl n k L)(hp:p<L.length):F27 [.ref 1,.g (.str n),I p,.g v] (hl S l rf tl)=ς (.g .non,hl S l rf (tl.set k (dl (L.set p v)))):=uB (k:=k+3) (l:=L) h.rf ‹h.tl› hp
theorem uH{n:Str}{k p:Nat}{v:Dt}{L:η Dt}(Z:∀d∈S.x.tw,∃s,d=.str s)(h:Pl rf tl n k L)(hp:p<L.length)(U:l.lg.length<qa4):F37 [.ref 0,.g (.str n),I p,.g v] (hl S l rf tl)=ς (.g .non,hl S {l with lg:=bI l.lg [.inr n,.inl p] v} rf tl)\/F37 [.ref 0,.g (.str n),I p,.g v] (hl S l rf tl)=ς (.g .non,hl S l rf (tl.set k (dl (L.set p v)))):=by
 have W:S.x.tw.all b9=θ:=qb9.mpr λd hd=>by have⟨s,rfl⟩:=Z d hd;rfl
 have O:=xK (S:=S) (l:=l) (v:=v) h hp;cases q:S.x.tw.any λy=>eqF y (.str n)with
 |true=>
  left
  have hi:oIn.g (.str n) (.e S.x.tw)=ς (.f (.bl θ)):=by
   have:inD (.str n) (.e S.x.tw)=ς θ:=by show(if(θ&&S.x.tw.all b9)=θ then ς (S.x.tw.any λy=>eqF y (.str n))else ψ)=_;rw[W,q];rfl
   show orO (gIn ξ) (kx ξ) _ _=_;unfold orO gIn;rw[this];rfl
  exact xR (.t 0 hi (.p 0 (show gk (.dT (dp l.lg)) (.t [.str n,.int p]) (.g v)=ς (.dT (dp (bI l.lg [.inr n,.inl p] v)))by show(if(dp l.lg).length<qa4 then ς (CO.dT (bF (dp l.lg) [.inr n,.inl (p:Int)] (.g v)))else ψ)=_;rw[if_pos (by rw[nM];exact U),kQ]) .nil))
 |false=>
  right
  have hi:oIn.g (.str n) (.e S.x.tw)=ς (.f (.bl ξ)):=by
   have:inD (.str n) (.e S.x.tw)=ς ξ:=by show(if(θ&&S.x.tw.all b9)=θ then ς (S.x.tw.any λy=>eqF y (.str n))else ψ)=_;rw[W,q];rfl
   show orO (gIn ξ) (kx ξ) _ _=_;unfold orO gIn;rw[this];rfl
  exact xR (.t 0 hi (.v 0 O .nil))
theorem qM(hi:∀d∈S.x.inc,Vi d)(U:0<=l.he):∃v,Vi (.int v)/\F44 [.ref 0] (hl S l rf tl)=ς (I v,hl S {l with he:=l.he+1} rf tl):=by
 have Z:(hl S l rf tl).set 13 (.ins 1 [I l.pl,I l.dn,I (l.he+1),I l.sy,.ref 14,I l.du,.ref 15])=hl S {l with he:=l.he+1} rf tl:=rfl;by_cases h:l.he<S.x.inc.length
 .have⟨p,hp⟩:=qg1 U;have O:p<S.x.inc.length:=by lia
  have⟨i,h1,h2⟩:=hi S.x.inc[p] (ql4 O);have W:ixV (hl S {l with he:=l.he+1} rf tl) (.g (.e S.x.inc)) (.int l.he)=ς (I i):=by show(ixD _ _).map CV.g=_;rw[hp];simp[ixD,bQ,gIx,atI,dD O,O,h1]
  exact⟨i,⟨i,rfl,h2⟩,xR (.t 1 (show oLt.g (.int l.he) (.int S.x.inc.length)=ς (.f (.bl θ))by show ς (T.f (.bl (decide _)))=_;rw[decide_eq_true h]) (.c 0 W .nil))⟩
 .exact⟨0,⟨0,rfl,Θ⟩,xR (.t 1 (show oLt.g (.int l.he) (.int S.x.inc.length)=ς (.f (.bl ξ))by show ς (T.f (.bl (decide _)))=_;rw[decide_eq_false h]) .nil)⟩
theorem iB{i:Nat}{k s:Str}{g r:Fs}(h:δ[i]?=ς (ς (.g (.str k)))):aj (sIf (aZ (e2 .v oEq.g (eV i) (eK (.str s)))) g ax) r δ ch=if k=s then aj g r δ ch else r δ ch:=by
 have e:aZ (e2 .v oEq.g (eV i) (eK (.str s))) δ ch=ς (decide (k=s),ch):=by rwa[aZ,e2,eV,eK,h];rfl
 unfold aj sIf;rw[e];by_cases h:k=s<;>simp[h,ax]
def l6{sg:Str}{a b:Int}(W:Vi (.int b)):∃v,Vi (.int v)/\F41 [.g (.str sg),I a,I b] ch=ς (I v,ch):=by
 have U:∃v:Int,F40 [.g (.str sg),I a,I b] ch=ς (I v,ch):=by
  have⟨_,h1,h2,h3⟩:=W;cases h1;have Z:b8 a b=θ:=ox Θ Θ;rw[q40];unfold cD;have hz:(([CV.g (.str sg),I a,I b].map ς++qa9 (3-[CV.g (.str sg),I a,I b].length) ψ):Sl)=[ς (.g (.str sg)),ς (I a),ς (I b)]:=rfl;rw[hz];rw[iB (k:=sg) (s:=qd0 "+") rfl];by_cases h:sg=qd0 "+"
  .rw[if_pos h];exact⟨_,rfl⟩
  rw[if_neg h];clear h;rw[iB (k:=sg) (s:=qd0 "-") rfl];by_cases h:sg=qd0 "-"
  .rw[if_pos h];exact⟨_,rfl⟩
  rw[if_neg h];clear h;rw[iB (k:=sg) (s:=qd0 "*") rfl];by_cases h:sg=qd0 "*"
  .rw[if_pos h];refine⟨a*b,?_⟩;simp! only[];simp! [oMul,iQ,Z]
  rw[if_neg h];clear h;rw[iB (k:=sg) (s:=qd0 "<") rfl];by_cases h:sg=qd0 "<"
  .rw[if_pos h];by_cases O:a<b
   .refine⟨1,?_⟩;simp! only[];simp! [O]
   .refine⟨0,?_⟩;simp! only[];simp! [O]
  rw[if_neg h];clear h;rw[iB (k:=sg) (s:=qd0 "=") rfl];by_cases h:sg=qd0 "="
  .rw[if_pos h];by_cases O:a=b
   .refine⟨1,?_⟩;simp! only[];simp! [O]
   .refine⟨0,?_⟩;simp! only[];simp! [O]
  rw[if_neg h];clear h;rw[iB (k:=sg) (s:=qd0 "&") rfl];by_cases h:sg=qd0 "&"
  .rw[if_pos h];exact⟨_,rfl⟩
  rw[if_neg h];clear h;rw[iB (k:=sg) (s:=qd0 "|") rfl];by_cases h:sg=qd0 "|"
  .rw[if_pos h];exact⟨_,rfl⟩
  rw[if_neg h];clear h;exact⟨_,rfl⟩
 have⟨v,h⟩:=U;exact⟨v%1099511627776,⟨_,rfl,Θ,Θ⟩,xR (.v 0 h .nil)⟩
end
variable{y:Str}
def B9(h:x.length+y.length<=qa4):eG (.str x) (.str y)=ς (.f (.str (x++y))):=if_pos h
def Ee{i:Int}(h:x.length<=qa4):gIxA (.str x) (.int i)=(atI x.cps.toList i).map λc=>.f (.str ⟨#[c]⟩):=if_pos h
def o6(h:n<=1000000):n<=qa4:=qd2 h Ω
noncomputable def kTBq(b:Bool):De->ζ T:=λ_=>ς (.f (.bl b))
def nQ(cs:η Nat):zg1 "" (cs.map λc=>(⟨#[c]⟩:Str))=⟨cs.toArray⟩:=by
 have U:("":Str).cps=#[]:=by decide +kernel
 have go:∀(l:η Nat)(O:Array Nat),(l.map λc=>(⟨#[c]⟩:Str)).foldl (λO p=>O++("":Str).cps++p.cps) O=O++l.toArray:=by
  intro l;induction l with
  |nil=>intro O;simp
  |cons c l W=>intro O;rw[qa2,qr7,W,U];simp
 unfold zg1 qj4.Str.glued;cases cs with
 |nil=>rfl
 |cons c r=>show(⟨(r.map λc=>(⟨#[c]⟩:Str)).foldl (λO p=>O++("":Str).cps++p.cps) (#[c]:Array Nat)⟩:Str)=_;rw[go];simp
def kR(cs:η Nat)(h:cs.length<=1000):JoinOk "" (cs.map λc=>(⟨#[c]⟩:Str))=θ:=by
 unfold JoinOk
 have h1:∀y∈cs.map (λc=>(⟨#[c]⟩:Str)),y.length<=1:=λy O=>by have⟨c,_,rfl⟩:=qc8.mp O;exact nL _
 rw[StrLaws.joinFits h1 (by rw[qa3,show("":Str).length=0 by decide +kernel];lia)];rfl
theorem ee:∀ts:η Str,cZ (ts.map .str)=ς ts
 |[]=>rfl
 |t::r=>by show(cZ (r.map .str)).map (t::·)=_;rw[ee r];rfl
noncomputable def sgD(cs:η Nat):η Dt:=cs.map λc=>.str ⟨#[c]⟩
def uI{cs:η Nat}(h:cs.length<=1000):j9 (.str "") [.e (sgD cs)]=ς (.f (.str ⟨cs.toArray⟩)):=by
 have e:sgD cs=(cs.map λc=>(⟨#[c]⟩:Str)).map .str:=by unfold sgD;rw[qd5];rfl
 show(cZ (sgD cs)).bind _=_;rw[e,ee,qa0,if_pos (kR cs h),nQ]
def Ca{α:Type}{xs:η α}{i:Int}(U:0<=i)(h1:i<xs.length):∃v,atI xs i=ς v/\v∈xs:=by
 have⟨n,rfl⟩:=qg1 U;have O:n<xs.length:=by lia
 exact⟨xs[n],v9 (by simp[O]),ql4 O⟩
def xL(x:Str):x.length=x.cps.toList.length:=by show x.cps.size=_;simp
theorem xM{i:Int}(hl:x.length<=1000000)(U:0<=i)(h1:i<x.length):∃c,gIxA (.str x) (.int i)=ς (.f (.str ⟨#[c]⟩))/\c∈x.cps.toList:=by have⟨c,e,O⟩:=Ca (xs:=x.cps.toList) U (by rw[<- xL];exact h1);refine⟨c,?_,O⟩;rw[Ee (o6 hl),e];rfl
inductive Rw where
 |op (x sg:Str) (a b:Key)|load (x n:Str)|store (n:Str) (a:Key)|take (x n:Str) (a:Key)|lay (n:Str) (a b:Key)|copy (x:Str) (a:Key)|hear (x:Str)|say (a:Key)|ife (x:Str) (t:Int)|go (t:Int)|fin (a:Key)
noncomputable def Rw.d:Rw->Dt
 |.op x O a b=>.t [.str "op",.str x,.str O,aw a,aw b]
 |.load x n=>.t [.str "load",.str x,.str n]
 |.store n a=>.t [.str "store",.str n,aw a]
 |.take x n a=>.t [.str "take",.str x,.str n,aw a]
 |.lay n a b=>.t [.str "lay",.str n,aw a,aw b]
 |.copy x a=>.t [.str "copy",.str x,aw a]
 |.hear x=>.t [.str "hear",.str x]
 |.say a=>.t [.str "say",aw a]
 |.ife x t=>.t [.str "if",.str x,.int t]
 |.go t=>.t [.str "go",.int t]
 |.fin a=>.t [.str "end",aw a]
abbrev Sh:=η (Str×Nat)
def Vp(sh:Sh)(n:Str)(p:Nat):Prop:=∃(k m:Nat),sh[k]?=ς (n,m)/\p<m
def bq(a:Key):Prop:=Vi (aw a)\/∃s,a=.inr s
def Cb(x:Fx)(sh:Sh)(n:Str):Prop:=∃(k m:Nat),sh[k]?=ς (n,m)/\0<m/\av x.sk x.sv (.inr n)=ς (.int m)
def xN(x:Fx)(sh:Sh):Rw->Prop
 |.op _ _ a b=>bq a/\bq b
 |.load _ n=>Vp sh n 0
 |.store n a=>Vp sh n 0/\bq a
 |.take _ n a=>Cb x sh n/\bq a
 |.lay n a b=>Cb x sh n/\bq a/\bq b
 |.copy _ a|.say a|.fin a=>bq a
 |.hear _|.ife _ _|.go _=>True
noncomputable def aa:Nat->Sh->η (Key×CV)
 |_,[]=>[]
 |o,p::r=>(.inr p.1,.ref o)::aa (o+1) r
theorem dE{n:Str}:∀{sh:Sh}{o k:Nat},(sh.map (·.1)).Nodup->sh[k]?=ς (n,m)->lkC (aa o sh) (.inr n)=ς (.ref (k+o))
 |[],o,k,_,h=>by cases h
 |p::r,o,0,U,h=>by cases h;simp[aa,lkC,qy5]
 |p::r,o,k+1,U,h=>by
  have O:=qd7.mp U;have Z:n∈r.map (·.1):=qc8.mpr ⟨_,qa5 h,rfl⟩;have:¬ p.1=n:=λe=>O.1 (by show p.1∈_;rw[e];exact Z)
  have W:=dE (o:=o+1) O.2 h;rwa[aa,lkC,qy5,qk9.injEq,this,decide_false]at W ⊢;rw[W];simp;lia
structure TlOk(tl:CH)(sh:Sh):Prop where
 len:tl.length=sh.length
 at_:∀{k:Nat}{n:Str}{m:Nat},sh[k]?=ς (n,m)->∃L,tl[k]?=ς (dl L)/\L.length=m/\∀d∈L,Vi d
theorem TlOk.set{tl:CH}{sh:Sh}(h:TlOk tl sh){k:Nat}{n:Str}{L:η Dt}(U:sh[k]?=ς (n,m))(W:L.length=m)(Z:∀d∈L,Vi d):TlOk (tl.set k (dl L)) sh:=by
 refine⟨by rw[qu8];exact h.len,λ{j a b} O=>?_⟩;by_cases e:k=j
 .subst e;rw[U]at O;cases O;exact⟨L,qe5 (by rw[h.len];exact ak U),W,Z⟩
 .rw[gN e];exact h.at_ O
structure LOk(sh:Sh)(N:Nat)(l:LS):Prop where
 he:0<=l.he
 du:Vi (.int l.du)
 bx:∀p∈l.bx,Vi p.2
 bn:l.bx.length<=N
 lg:∀q∈l.lg,(∃(n:Str)(p:Nat),q.1=[.inr n,.inl (p:Int)]/\Vp sh n p)/\Vi q.2
 ln:l.lg.length<=N
structure FOk(N:Nat)(f:List (Key×Dt)):Prop where
 all:∀p∈f,(∃i,p.1=.inl i)/\Vi p.2
 len:f.length<=N
structure XOk(x:Fx)(sh:Sh):Prop where
 nd:(sh.map (·.1)).Nodup
 tw:∀d∈x.tw,∃s,d=.str s
 inc:∀d∈x.inc,Vi d
section
variable{S:HS}{tl:CH}{l:LS}{sh:Sh}{N:Nat}
theorem TlOk.pl(h:TlOk tl sh)(U:(sh.map (·.1)).Nodup){n:Str}{p:Nat}(hp:Vp sh n p):∃k L m,Pl (aa 16 sh) tl n k L/\p<L.length/\sh[k]?=ς (n,m)/\L.length=m:=by have⟨k,m,h1,h2⟩:=hp;have⟨L,O,h4,W⟩:=h.at_ h1;exact⟨k,L,m,⟨dE U h1,O,W⟩,Θ,h1,h4⟩
noncomputable def zi:Rw->Bool
 |.op _ _ _ _|.load _ _|.take _ _ _|.copy _ _|.hear _=>θ
 |_=>ξ
omit x in
theorem iC(r:Rw)(hs:zi r=θ)(X:XOk S.x sh)(hr:xN S.x sh r)(O:LOk sh N l)(ht:TlOk tl sh):∃v h',Vi (.int v)/\0<=h'/\F45 [.ref 0,.g r.d] (hl S l (aa 16 sh) tl)=ς (I v,hl S {l with he:=h'} (aa 16 sh) tl):=by
 have same:hl S {l with he:=l.he} (aa 16 sh) tl=hl S l (aa 16 sh) tl:=rfl;have wa:∀a,bq a->∃v,Vi (.int v)/\F36 [.ref 13,.g (aw a)] (hl S l (aa 16 sh) tl)=ς (I v,hl S l (aa 16 sh) tl):=λa ha=>bV O.du O.bx a ha
 cases r<;>try(cases hs;done)
 .rename_i x sg a b;have⟨v,hv,h1⟩:=wa a hr.1;have⟨w,hw,h2⟩:=wa b hr.2;have⟨z,Z,W⟩:=l6 (sg:=sg) (a:=v) (b:=w) (ch:=hl S l (aa 16 sh) tl) hw;refine⟨z,l.he,Z,O.he,?_⟩;rw[same];exact xR (.v 0 h1 (.v 0 h2 (.v 0 W .nil)))
 .rename_i x n;have⟨k,L,m,hp,U,_⟩:=ht.pl X.nd hr;have⟨z,Z,W⟩:=l5 (S:=S) (l:=l) (λq hq=>(O.lg q hq).2) hp U;refine⟨z,l.he,Z,O.he,?_⟩;rw[same];exact xR (.v 0 W .nil)
 .rename_i x n a;have⟨⟨k,m,h1,h2,W⟩,ha⟩:=hr;have⟨p,hp,h4⟩:=l4 (S:=S) (l:=l) (rf:=aa 16 sh) (tl:=tl) O.du O.bx a ha W h2;have⟨k,L,m,hp,U,_⟩:=ht.pl X.nd ⟨k,m,h1,hp⟩;have⟨z,Z,h5⟩:=l5 (S:=S) (l:=l) (λq hq=>(O.lg q hq).2) hp U;refine⟨z,l.he,Z,O.he,?_⟩;rw[same];exact xR (.v 0 h4 (.v 0 h5 .nil))
 .rename_i x a;have⟨v,hv,h1⟩:=wa a hr;refine⟨v,l.he,hv,O.he,?_⟩;rw[same];exact xR (.v 0 h1 .nil)
 .have⟨v,hv,h1⟩:=qM (S:=S) (l:=l) (rf:=aa 16 sh) (tl:=tl) X.inc O.he;refine⟨v,l.he+1,hv,by have:=O.he;lia,?_⟩;exact xR (.v 0 h1 .nil)
end
variable{lv:CV}{rf:η (Key×CV)}
section
variable{S:HS}{tl:CH}{l:LS}{sh:Sh}{N:Nat}
theorem vfs:vw (hb S lv rf tl) (.ref 8)=ς (.dct (S.fst.map (·.1)) (S.fst.map (·.2))):=by show(dats ((dp S.fst).map (·.2))).map (Dt.dct ((dp S.fst).map (·.1)))=_;rw[cI,cH];rfl
theorem xO{i:Int}{v:Dt}(W:FOk N S.fst)(hN:N<qa4)(hv:Vi v){lv:CV}{rf:η (Key×CV)}:∃f u,FOk (N+1) f/\F39 [.ref 2,I i,.g v] (hb S lv rf tl)=ς (.g .non,hb {S with fst:=f,unl:=u} lv rf tl):=by
 have O:oNi.g (.int i) (.dct (S.fst.map (·.1)) (S.fst.map (·.2)))=ς (.f (.bl (!(av (S.fst.map (·.1)) (S.fst.map (·.2)) (qn8 i)).isSome))):=rfl;cases q:av (S.fst.map (·.1)) (S.fst.map (·.2)) (qn8 i)with
 |none=>
  rw[q]at O;refine⟨bI S.fst (.inl i) v,S.unl,⟨λp hp=>?_,qd2 dC (qn3 W.len)⟩,?_⟩
  .rcases dB hp with rfl|hp
   .exact⟨⟨i,rfl⟩,hv⟩
   .exact W.all p hp
  exact xR (.d 0 (vfs (S:=S) (tl:=tl) (lv:=lv) (rf:=rf)) (.t 0 O (.p 0 (show gk (.dK (dp S.fst)) (.int i) (.g v)=ς (.dK (dp (bI S.fst (.inl i) v)))by show(if(dp S.fst).length<qa4 then ς (CO.dK (bF (dp S.fst) (.inl i) (.g v)))else ψ)=_;rw[if_pos (by rw[nM];exact qe4 W.len hN),kQ]) .nil)))
 |some d=>
  rw[q]at O;have F':FOk (N+1) S.fst:=⟨W.all,qd6 W.len⟩;have⟨_,a,rfl,ha⟩:=W.all _ (aW q);have⟨b,rfl,hb'⟩:=hv;have hx:ixV (hb S lv rf tl) (.ref 8) (.int i)=ς (I a):=by show lkC (dp S.fst) _=_;rw[iz,q];rfl
  have U:oNe.g (.int a) (.int b)=ς (.f (.bl (!decide (a=b)))):=rfl;by_cases Z:a=b
  .rw[decide_eq_true Z]at U;exact⟨S.fst,S.unl,F',xR (.d 0 (vfs (S:=S) (tl:=tl) (lv:=lv) (rf:=rf)) (.t 0 O (.c 0 hx (.t 0 U .nil))))⟩
  .rw[decide_eq_false Z]at U;exact⟨S.fst,θ,F',xR (.d 0 (vfs (S:=S) (tl:=tl) (lv:=lv) (rf:=rf)) (.t 0 O (.c 0 hx (.t 0 U .nil))))⟩
def Cc(S:HS)(l:LS)(sh:Sh)(N:Nat)(ch':CH):Prop:=∃f u h y b g O,FOk (N+1) f/\LOk sh (N+1) {l with he:=h,sy:=y,bx:=b,lg:=g}/\TlOk O sh/\ch'=hl {S with fst:=f,unl:=u} {l with he:=h,sy:=y,bx:=b,lg:=g} (aa 16 sh) O
def LOk.up(h:LOk sh N l):LOk sh (N+1) l:=⟨h.he,h.du,h.bx,by have:=h.bn;lia,h.lg,by have:=h.ln;lia⟩
def FOk.up{f:η (Key×Dt)}(h:FOk N f):FOk (N+1) f:=⟨h.all,by have:=h.len;lia⟩
theorem l7{n:Str}{p:Nat}{v:Dt}(hv:Vi v)(X:XOk S.x sh)(hF:FOk N S.fst)(O:LOk sh N l)(hT:TlOk tl sh)(hN:N<qa4)(hp:Vp sh n p):∃ch',F37 [.ref 0,.g (.str n),I p,.g v] (hl S l (aa 16 sh) tl)=ς (.g .non,ch')/\Cc S l sh N ch':=by
 have⟨k,L,m,hP,U,hk,hLm⟩:=hT.pl X.nd hp;rcases uH (S:=S) (l:=l) (v:=v) X.tw hP U (qe4 O.ln hN)with h|h
 .refine⟨_,h,S.fst,S.unl,l.he,l.sy,l.bx,bI l.lg [.inr n,.inl p] v,tl,hF.up,⟨O.he,O.du,O.bx,qd6 O.bn,λq W=>?_,qd2 dC (qn3 O.ln)⟩,hT,rfl⟩;rcases dB W with rfl|W
  .exact⟨⟨n,p,rfl,hp⟩,hv⟩
  .exact O.lg q W
 .refine⟨_,h,S.fst,S.unl,l.he,l.sy,l.bx,l.lg,_,hF.up,O.up,hT.set hk (by rw[qu8];exact hLm) λd Z=>?_,rfl⟩;rcases qp6 Z with Z|rfl
  .exact hP.vi d Z
  .exact hv
theorem Cd(r:Rw)(hs:∀a,r≠.fin a)(X:XOk S.x sh)(hr:xN S.x sh r)(hF:FOk N S.fst)(O:LOk sh N l)(hT:TlOk tl sh)(hN:N<qa4):∃ch',F46 [.ref 0,.g r.d] (hl S l (aa 16 sh) tl)=ς (.g .non,ch')/\Cc S l sh N ch':=by
 have wa:∀a,bq a->∃v,Vi (.int v)/\F36 [.ref 13,.g (aw a)] (hl S l (aa 16 sh) tl)=ς (I v,hl S l (aa 16 sh) tl):=λa ha=>bV O.du O.bx a ha
 have Z:l.bx.length<qa4:=qe4 O.bn hN
 have W:∀(v h':Int)(x:Str),Vi (.int v)->0<=h'->Cc S l sh N (hl S {l with he:=h',bx:=bI l.bx (.inr x) (.int v)} (aa 16 sh) tl):=λv h' x U hh=>by
  refine⟨S.fst,S.unl,h',l.sy,bI l.bx (.inr x) (.int v),l.lg,tl,hF.up,⟨hh,O.du,λp hp=>?_,qd2 dC (qn3 O.bn),O.lg,qd6 O.ln⟩,hT,rfl⟩;rcases dB hp with rfl|hp
  .exact U
  .exact O.bx p hp
 have e14:∀(h':Int)(b:η (Key×Dt)),(hl S {l with he:=h'} (aa 16 sh) tl).set 14 (.dK (dp b))=hl S {l with he:=h',bx:=b} (aa 16 sh) tl:=λ_ _=>rfl
 cases r with
 |op x sg a b=>have⟨v,h',U,hh,h1⟩:=iC (.op x sg a b) rfl X hr O hT;exact⟨_,xR (.v 0 h1 (.p 0 (iA (b:=l.bx) (x:=x) (v:=.int v) Z) .nil)),W v h' x U hh⟩
 |load x n=>have⟨v,h',U,hh,h1⟩:=iC (.load x n) rfl X hr O hT;exact⟨_,xR (.v 0 h1 (.p 0 (iA (b:=l.bx) (x:=x) (v:=.int v) Z) .nil)),W v h' x U hh⟩
 |take x n a=>have⟨v,h',U,hh,h1⟩:=iC (.take x n a) rfl X hr O hT;exact⟨_,xR (.v 0 h1 (.p 0 (iA (b:=l.bx) (x:=x) (v:=.int v) Z) .nil)),W v h' x U hh⟩
 |copy x a=>have⟨v,h',U,hh,h1⟩:=iC (.copy x a) rfl X hr O hT;exact⟨_,xR (.v 0 h1 (.p 0 (iA (b:=l.bx) (x:=x) (v:=.int v) Z) .nil)),W v h' x U hh⟩
 |hear x=>have⟨v,h',U,hh,h1⟩:=iC (.hear x) rfl X hr O hT;exact⟨_,xR (.v 0 h1 (.p 0 (iA (b:=l.bx) (x:=x) (v:=.int v) Z) .nil)),W v h' x U hh⟩
 |store n a=>have⟨v,U,h1⟩:=wa a hr.2;have⟨ch',h2,h3⟩:=l7 U X hF O hT hN hr.1;exact⟨ch',xR (.v 0 h1 (.v 0 h2 .nil)),h3⟩
 |lay n a b=>have⟨⟨k,m,g1,g2,g3⟩,ha,hb'⟩:=hr;have⟨p,hp,h4⟩:=l4 (S:=S) (l:=l) (rf:=aa 16 sh) (tl:=tl) O.du O.bx a ha g3 g2;have⟨v,U,h1⟩:=wa b hb';have⟨ch',h2,h3⟩:=l7 U X hF O hT hN ⟨k,m,g1,hp⟩;exact⟨ch',xR (.v 0 h4 (.v 0 h1 (.v 0 h2 .nil))),h3⟩
 |say a=>have⟨v,U,h1⟩:=wa a hr;have⟨f,u,hf,h2⟩:=xO (i:=l.sy) hF hN U (tl:=lO l::.dK (dp l.bx)::.dT (dp l.lg)::tl) (lv:=.ref 13) (rf:=aa 16 sh);refine⟨_,xR (r:=(_,hl {S with fst:=f,unl:=u} {l with sy:=l.sy+1} (aa 16 sh) tl)) (.v 0 h1 (.v 0 h2 .nil)),f,u,l.he,l.sy+1,l.bx,l.lg,tl,hf,⟨O.he,O.du,O.bx,qd6 O.bn,O.lg,qd6 O.ln⟩,hT,rfl⟩
 |ife x t=>exact⟨_,xR (r:=(_,hl S l (aa 16 sh) tl)) .nil,S.fst,S.unl,l.he,l.sy,l.bx,l.lg,tl,hF.up,O.up,hT,rfl⟩
 |go t=>exact⟨_,xR (r:=(_,hl S l (aa 16 sh) tl)) .nil,S.fst,S.unl,l.he,l.sy,l.bx,l.lg,tl,hF.up,O.up,hT,rfl⟩
 |fin a=>exact absurd rfl (hs a)
end
noncomputable def l8(i:Nat):Rw->Dt
 |.go t=>.t [.int t]
 |.ife _ t=>.t [.int t,.int (i+1)]
 |.fin _=>.t []
 |_=>.t [.int (i+1)]
def iD(i:Nat)(r:Rw)(p:Int):Prop:=match r with
 |.go t=>p=t
 |.ife _ t=>p=t\/p=i+1
 |.fin _=>False
 |_=>p=i+1
section
variable{S:HS}{tl:CH}{l:LS}{sh:Sh}{N:Nat}
theorem gF{L:η Dt}{i:Nat}{d:Dt}(h:L[i]?=ς d):ixD (.e L) (.int i)=ς d/\ixD (.t L) (.int i)=ς d:=by have hi:=ak h;constructor<;>simp[ixD,bQ,gIx,atI,dD hi,h]
theorem gG{L:η Dt}{i:Nat}{d:Dt}{z:Int}(hz:z=i)(h:L[i]?=ς d):ixV ch (.g (.e L)) (.int z)=ς (.g d)/\ixV ch (.g (.t L)) (.int z)=ς (.g d):=by
 subst hz;constructor
 .show(ixD _ _).map CV.g=_;rw[(gF h).1];rfl
 .show(ixD _ _).map CV.g=_;rw[(gF h).2];rfl
def eqI{a b:Int}{q:Bool}(h:decide (a=b)=q):oEq.g (.int a) (.int b)=ς (.f (.bl q)):=by rw[<- h];rfl
noncomputable def kd:Rw->Str
 |.op _ _ _ _=>"op"
 |.load _ _=>"load"
 |.store _ _=>"store"
 |.take _ _ _=>"take"
 |.lay _ _ _=>"lay"
 |.copy _ _=>"copy"
 |.hear _=>"hear"
 |.say _=>"say"
 |.ife _ _=>"if"
 |.go _=>"go"
 |.fin _=>"end"
def zj{r:Rw}:ixV ch (.g r.d) (.int 0)=ς (.g (.str (kd r))):=by cases r<;>kernel_rfl
theorem zk{r:Rw}(hs:∀a,r≠.fin a):oEq.g (.str (kd r)) (.str "end")=ς (.f (.bl ξ)):=by cases r<;>first|exact absurd rfl (hs _)|kernel_rfl
theorem behind(r:Rw)(hs:∀a,r≠.fin a){i:Nat}(hi:l.pl=i)(Z:S.x.onw[i]?=ς (l8 i r))(W:LOk sh N l):∃p,iD i r p/\F47 [.ref 0,.g r.d] (hl S l (aa 16 sh) tl)=ς (I p,hl S l (aa 16 sh) tl):=by
 have O:=(gG (ch:=hl S l (aa 16 sh) tl) hi Z).1;cases r with
 |ife x t=>
  have⟨v,hv,h1⟩:=bV (S:=S) (rf:=aa 16 sh) (tl:=tl) W.du W.bx (.inr x) (.inr ⟨x,rfl⟩);by_cases U:v=0
  .exact⟨i+1,.inr rfl,xR (.c 0 O (.v 0 h1 (.t 0 (eqI (decide_eq_true U)) .nil)))⟩
  .exact⟨t,.inl rfl,xR (.c 0 O (.v 0 h1 (.t 0 (eqI (decide_eq_false U)) .nil)))⟩
 |go t=>exact⟨t,rfl,xR (.c 0 O .nil)⟩
 |fin a=>exact absurd rfl (hs a)
 |_=>exact⟨i+1,rfl,xR (.c 0 O .nil)⟩
theorem l9{δ:Sl}(w:∀s,∃v,Vi (.int v)/\F36 [.ref 13,.g (.str s)] ch=ς (I v,ch))(O:∃f,ch[13]?=ς (.ins 1 f)):∀bs:η Str,∃ks:η Bx,ks.map (·.1)=bs/\(∀k∈ks,Vi (.int k.2))/\aE (bnd (.one 0)) tYs (eTu (aCn (eK (.str "box")) (aCn (eV 0) (aCn (eMe 1 2 F36 (eV 1) (aCn (eV 0) aNl)) aNl)))) [ψ,ς (.ref 13)] (bs.map .str) ch=ς (ks.map λk=>.g (Sm.d (.box k.1 k.2)),ch)
 |[]=>⟨[],rfl,Ξ,rfl⟩
 |s::bs=>by have⟨v,hv,h1⟩:=w s;have⟨f,W⟩:=O;have⟨ks,h2,Z,h4⟩:=l9 (δ:=δ) w ⟨f,W⟩ bs;refine⟨(s,v)::ks,by simp[h2],λk U=>by rcases qc4.mp U with rfl|U;exact hv;exact Z k U,?_⟩;simp! only[qa2,aE,bnd,tYs,qa0,h4];simp! [W,h1,Sm.d];rwa[Sm.d]at h4;exact h4
theorem uJ{lg:η (η Key×Dt)}(h:∀q∈lg,(∃(n:Str)(p:Nat),q.1=[.inr n,.inl (p:Int)]/\Vp sh n p)/\Vi q.2):∃ts:η Tn,fM lg=ts.map Tn.d/\ts.length=lg.length/\∀t∈ts,Vp sh t.1.1 t.1.2/\Vi (.int t.2):=by
 induction lg with
 |nil=>exact⟨[],rfl,rfl,Ξ⟩
 |cons q lg ih=>
  have⟨ts,h1,h2,U⟩:=ih λq W=>h q (.tail _ W)
  have⟨⟨n,p,h4,O⟩,i,Z,h7⟩:=h q (.head _);have⟨q1,q2⟩:=q;cases h4;cases Z;refine⟨((n,p),i)::ts,?_,by simp[h2],‹⟨⟨O,⟨i,rfl,h7⟩⟩,λa b c d=>U _ d⟩›⟩;rwa[fM,qa2]at h1 ⊢;rw[h1];rfl
def eR(a b c d:Int)(ks:η Bx)(ts:η Tn):η Sm:=Sm.beg a b c d::(ks.map λk=>.box k.1 k.2)++uC ts++[.trn]++dm ts
theorem xP{bs:η Str}(O:LOk sh N l)(hN:N+bs.length<1000000):∃ks ts,ks.map (·.1)=bs/\(∀k∈ks,Vi (.int k.2))/\(∀t∈ts,Vp sh t.1.1 t.1.2/\Vi (.int t.2))/\ts.length<=N/\F48 [.ref 13,.g (.t (bs.map .str))] (hl S l (aa 16 sh) tl)=ς (.ref (tl.length+16),hl S l (aa 16 sh) (tl++[dl ((eR l.pl l.dn l.he l.sy ks ts).map Sm.d)])):=by
 have⟨ks,k1,k2,k3⟩:=l9 (δ:=[]) (ch:=hl S l (aa 16 sh) tl) (λs=>by have:=bV (S:=S) (rf:=aa 16 sh) (tl:=tl) O.du O.bx (.inr s) (.inr ⟨s,rfl⟩);exact this) ⟨_,zh⟩ bs;have⟨ts,t1,t2,t3⟩:=uJ O.lg;have Z:ts.length<=N:=by rw[t2];exact O.ln
 have hks:ks.length=bs.length:=by rw[<- k1,qa3]
 refine⟨ks,ts,k1,k2,t3,Z,?_⟩;have n1:=λk=>lZ (ch:=hl S l (aa 16 sh) tl) (k:=k) (ts:=ts) (by rw[qb7];lia)
 rw[<- t1]at n1;have hz:((dp l.lg).map (·.1)).zip (l.lg.map (·.2))=l.lg:=nK;have g0:gC [ψ,ς 0] [ς (.ref 13),ς (.g (.t (bs.map .str))),ς (.g (.e [Sm.d (.beg l.pl l.dn l.he l.sy)])),ψ,ψ]=[ψ,ς (.ref 13)]:=rfl
 have W:eCo .v [ψ,ς 0] (iE (eV 1)) (bnd (.one 0)) tYs (eTu (aCn (eK (.str "box")) (aCn (eV 0) (aCn (eMe 1 2 F36 (eV 1) (aCn (eV 0) aNl)) aNl)))) [ς (.ref 13),ς (.g (.t (bs.map .str))),ς (.g (.e [Sm.d (.beg l.pl l.dn l.he l.sy)])),ψ,ψ] (hl S l (aa 16 sh) tl)=ς (.g (.e (ks.map λk=>Sm.d (.box k.1 k.2))),hl S l (aa 16 sh) tl):=by unfold eCo;rw[g0];have:iE (eV 1) [ς (.ref 13),ς (.g (.t (bs.map .str))),ς (.g (.e [Sm.d (.beg l.pl l.dn l.he l.sy)])),ψ,ψ] (hl S l (aa 16 sh) tl)=ς (bs.map .str,hl S l (aa 16 sh) tl):=rfl;rw[this,qa0,k3,qa0];dsimp only;rw[if_pos (by rw[qa3,qb7];lia),bG];rfl
 let H:=hl S l (aa 16 sh) tl;let B:η Dt:=ks.map λk=>Sm.d (.box k.1 k.2)
 let G (k:Str):η Dt:=ts.map λt=>.t [.str k,.str t.1.1,.int t.1.2,.int t.2]
 let δ:Sl:=[ς (.ref 13),ς (.g (.t (bs.map .str))),ς (.g (.e [Sm.d (.beg l.pl l.dn l.he l.sy)])),ς (.g (.e B)),ς (.g (.e (fM l.lg)))];have U:B.length=ks.length:=by simp[B]
 have hG:∀k,(G k).length=ts.length:=λk=>by simp[G]
 have r1:e2 .v oAdd.g (eV 2) (eV 3) δ H=ς (.g (.e ([Sm.d (.beg l.pl l.dn l.he l.sy)]++B)),H):=cL rfl rfl rfl rfl (xC (by rw[qb7];simp[U];lia));have c1:∀k:Str,eCa 2 F16 (aCn (eK (.str k)) (aCn (eV 4) aNl)) δ H=ς (.g (.e (G k)),H):=λk=>by simp! only[];simp! [δ,n1,H,G]
 have r2:e2 .v oAdd.g (e2 .v oAdd.g (eV 2) (eV 3)) (eCa 2 F16 (aCn (eK (.str "log")) (aCn (eV 4) aNl))) δ H=ς (.g (.e ([Sm.d (.beg l.pl l.dn l.he l.sy)]++B++G "log")),H):=cL r1 (c1 _) rfl rfl (xC (by rw[qb7];simp[U,hG];lia));have r3:e2 .v oAdd.g (e2 .v oAdd.g (e2 .v oAdd.g (eV 2) (eV 3)) (eCa 2 F16 (aCn (eK (.str "log")) (aCn (eV 4) aNl)))) (eLs .v (aCn (eTu (aCn (eK (.str "turn")) aNl)) aNl)) δ H=ς (.g (.e ([Sm.d (.beg l.pl l.dn l.he l.sy)]++B++G "log"++[Sm.d .trn])),H):=cL r2 rfl rfl rfl (xC (by rw[qb7];simp[U,hG];lia));have r4:e2 .o oAdd.g (e2 .v oAdd.g (e2 .v oAdd.g (e2 .v oAdd.g (eV 2) (eV 3)) (eCa 2 F16 (aCn (eK (.str "log")) (aCn (eV 4) aNl)))) (eLs .v (aCn (eTu (aCn (eK (.str "turn")) aNl)) aNl))) (eCa 2 F16 (aCn (eK (.str "put")) (aCn (eV 4) aNl))) δ H=ς (.ref (tl.length+16),H++[dl ([Sm.d (.beg l.pl l.dn l.he l.sy)]++B++G "log"++[Sm.d .trn]++G "put")]):=cL r3 (c1 _) rfl rfl (xC (by rw[qb7];simp[U,hG];lia));have s1:bC 2 (eLs .v (aCn (eTu (aCn (eK (.str "begin")) (aCn (eAt 1 0 (eV 0)) (aCn (eAt 1 1 (eV 0)) (aCn (eAt 1 2 (eV 0)) (aCn (eAt 1 3 (eV 0)) aNl)))))) aNl)) [ς (.ref 13),ς (.g (.t (bs.map .str))),ψ,ψ,ψ] H=ς (.nx [ς (.ref 13),ς (.g (.t (bs.map .str))),ς (.g (.e [Sm.d (.beg l.pl l.dn l.he l.sy)])),ψ,ψ] H):=rfl;have s2:=aF (i:=3) W rfl
 have s3:bC 4 (eIl .v (eAt 1 6 (eV 0))) [ς (.ref 13),ς (.g (.t (bs.map .str))),ς (.g (.e [Sm.d (.beg l.pl l.dn l.he l.sy)])),ς (.g (.e B)),ψ] H=ς (.nx δ H):=by simp! only[];simp! [zh,Ed,nv,cI,hz,H,δ]
 have hw:(eR l.pl l.dn l.he l.sy ks ts).map Sm.d=[Sm.d (.beg l.pl l.dn l.he l.sy)]++B++G "log"++[Sm.d .trn]++G "put":=by simp[eR,B,G,uC,dm,Sm.d,qb2]
 rw[hw,q48];exact bm (ah s1 (ah s2 (ah s3 (bU (cj r4 rfl)))))
end
noncomputable def off:ζ LS->Nat
 |none=>13
 |some _=>16
noncomputable def lvO:ζ LS->CV
 |none=>.g .non
 |some _=>.ref 13
def ao:ζ LS->CH->CH
 |none,tl=>tl
 |some l,tl=>lO l::.dK (dp l.bx)::.dT (dp l.lg)::tl
def hc(sh:Sh)(S:HS)(lo:ζ LS)(tl:CH):CH:=hb S (lvO lo) (aa (off lo) sh) (ao lo tl)
section
variable{S:HS}{lo:ζ LS}{tl:CH}{sh:Sh}{σ:Nat->Nat}{l:LS}
def fR:13<=off lo:=by cases lo<;>simp[off]
def ma:(ao lo tl).length+13=tl.length+off lo:=by cases lo<;>simp[ao,off]
def nR:(hc sh S lo tl).length=tl.length+off lo:=by rw[<- ma];rfl
def cM{L:η Dt}:rnO σ (dl L)=dl L:=by simp[rnO,rn,qb2]
def TlOk.all(h:TlOk tl sh){o:CO}(W:o∈tl):∃L,o=dl L:=by
 have⟨k,U,rfl⟩:=List.mem_iff_getElem.mp W;have O:k<sh.length:=by rw[<- h.len];exact U
 have⟨L,h1,_⟩:=h.at_ (k:=k) (n:=sh[k].1) (m:=sh[k].2) (gQ O);rw[gQ U]at h1;exact⟨L,qc9 h1⟩
theorem ck:∀{sh:Sh}{o n:Nat},o+sh.length<=n->(aa o sh).all (λp=>clV n p.2)=θ
 |[],_,_,_=>rfl
 |p::r,o,n,h=>by rwa[qb6]at h;rwa[aa,qc7,clV,qa1,decide_eq_true_eq];exact⟨Θ,ck Θ⟩
def md{L:η Dt}:(L.map CV.g).all (clV n)=θ:=by simp[clV]
def mf{L:η Dt}:clO n (dl L)=θ:=md
def uK{κ:Type}{b:η (κ×Dt)}:(dp b).all (λp=>clV n p.2)=θ:=by simp[dp,clV]
def kU{d:Dt}:clV n (.g d)=θ:=rfl
def fU{i:Nat}:clV n (.ref i)=decide (i<n):=rfl
def uL(h:TlOk tl sh):Cl (hc sh S lo tl):=by
 unfold Cl;rw[nR];have O:=ck (sh:=sh) (o:=off lo) (n:=tl.length+off lo) (by rw[h.len];lia);have U:tl.all (clO (tl.length+off lo))=θ:=qb9.mpr λo ho=>by have⟨L,rfl⟩:=h.all ho;exact mf
 have lt:∀k,k<13->decide (k<tl.length+off lo)=θ:=λk Z=>decide_eq_true (by have:=fR (lo:=lo);lia)
 cases lo with
 |none=>rwa[hc,hb,hO,ao,lvO,qc7,qo7,clO,kU,fU,md,uK,O,U,lt,qj9,zc6]
 |some l=>
  have W:∀k,k<16->decide (k<tl.length+off (ς l))=θ:=λk Z=>decide_eq_true (by show k<tl.length+16;lia)
  rwa[hc,hb,hO,ao,lvO,lO,qc7,qo7,clO,kU,fU,md,uK,O,U,W,qj9,zc6]
theorem bW:∀{sh:Sh}{o o':Nat},(∀k,k<sh.length->σ (k+o)=k+o')->rnP σ (aa o sh)=aa o' sh
 |[],_,_,_=>rfl
 |p::r,o,o',h=>by
  have U:=h 0 Ξ;rwa[qw4]at U;have O:=bW (sh:=r) (o:=o+1) (o':=o'+1) λk W=>by have:=h (k+1) ‹W›;rw[show k+(o+1)=k+1+o by lia,this];lia
  rwa[rnP,aa,qa2,rn,U]at O ⊢;rw[O]
def kW(h:TlOk tl sh)(h4:σ 14=14)(W:σ 15=15){o:CO}(O:o∈ao lo tl):rnO σ o=o:=by
 have U:∀o∈tl,rnO σ o=o:=λo O=>by have⟨L,rfl⟩:=h.all O;exact cM
 cases lo with
 |none=>exact U o O
 |some l=>
  rwa[ao,qc4]at O;rcases O with rfl|rfl|rfl|O
  .simp[lO,rnO,rn,h4,W]
  .rwa[rnO,dZ]
  .rwa[rnO,dZ]
  .exact U o O
def jF{T raw:CH}(inj:∀i j,i<T.length+13->j<T.length+13->σ i=σ j->i=j)
 (h0:raw[σ 0]?=ς (rnO σ (hO S' lv (.ref 3)))) (h1:raw[σ 1]?=ς (rnO σ (.ins 2 [.ref 4,.ref 5,.ref 6,.ref 7,I S'.cnt,.g S'.res]))) (h2:raw[σ 2]?=ς (rnO σ (.ins 0 [.ref 8,.g (.bl S'.unl)]))) (h3:raw[σ 3]?=ς (dl S'.plan)) (h4:raw[σ 4]?=ς (rnO σ (.dK rf))) (h5:raw[σ 5]?=ς (.e [.g (.t S'.h0),.g (.t S'.h1)])) (h6:raw[σ 6]?=ς (.e [.ref (σ 9),.ref (σ 10)])) (h7:raw[σ 7]?=ς (.e [.ref (σ 11),.ref (σ 12)])) (h8:raw[σ 8]?=ς (.dK (dp S'.fst))) (Z:raw[σ 9]?=ς (dl S'.pb0)) (W:raw[σ 10]?=ς (dl S'.pb1)) (O:raw[σ 11]?=ς (dl S'.pt0)) (U:raw[σ 12]?=ς (dl S'.pt1))
 (ht:∀i o,T[i]?=ς o->raw[σ (i+13)]?=ς (rnO σ o)):At σ (hb S' lv rf T) raw:=by
 refine⟨λi j hi hj=>inj i j hi hj,λ{i o} hi=>?_⟩;have e:∀L,rnO σ (dl L)=dl L:=λL=>cM
 rcases i with _|_|_|_|_|_|_|_|_|_|_|_|_|i
 .cases hi;exact h0
 .cases hi;exact h1
 .cases hi;exact h2
 .cases hi;rw[e];exact h3
 .cases hi;exact h4
 .cases hi;exact h5
 .cases hi;exact h6
 .cases hi;exact h7
 .cases hi;rwa[rnO,dZ];exact h8
 .cases hi;rw[e];exact Z
 .cases hi;rw[e];exact W
 .cases hi;rw[e];exact O
 .cases hi;rw[e];exact U
 .exact ht i o hi
noncomputable def sg2(a b n:Nat):Nat->Nat:=λi=>if i=a then n else if i=b then n+1 else i
def uM{a b:Nat}(O:a<13)(hb:b<13):rn (sg2 a b n) (lvO lo)=lvO lo:=by
 cases lo
 .rfl
 .rwa[lvO,rn,sg2];rw[if_neg Θ,if_neg Θ]
def ef{a b k:Nat}(U:a<13)(hb:b<13)(O:13<=k):sg2 a b n k=k:=by unfold sg2;rw[if_neg Θ,if_neg Θ]
theorem o7{a b:Nat}(O:a≠b):∀i j,i<n->j<n->sg2 a b n i=sg2 a b n j->i=j:=λi j hi U e=>by unfold sg2 at e;split at e<;>split at e<;>(try split at e)<;>(try split at e)<;>lia
theorem uN{a b:Nat}(O:a<13)(hb:b<13):rnP (sg2 a b n) (aa (off lo) sh)=aa (off lo) sh:=bW λk U=>ef O hb (by have:=fR (lo:=lo);lia)
theorem nS(h:TlOk tl sh):At (sg2 9 11 ((ao lo tl).length+13)) (hc sh {S with pb0:=[],pt0:=[]} lo tl) (hbN S (lvO lo) (aa (off lo) sh) ((ao lo tl).length+13) 10 ((ao lo tl).length+1+13) 12 (ao lo tl++[.e []]++[.e []])):=by
 have O:=uM (lo:=lo) (a:=9) (b:=11) (n:=(ao lo tl).length+13) Θ Θ;have W:=uN (sh:=sh) (lo:=lo) (a:=9) (b:=11) (n:=(ao lo tl).length+13) Θ Θ;have Z:=λo ho=>kW (σ:=sg2 9 11 ((ao lo tl).length+13)) (lo:=lo) (o:=o) h (ef Θ Θ Θ) (ef Θ Θ Θ) ho
 have hg:=λk hk=>ef (a:=9) (b:=11) (n:=(ao lo tl).length+13) (k:=k) Θ Θ hk
 unfold hc;generalize ao lo tl=T at*
 have U:∀(k:Nat),(hbN S (lvO lo) (aa (off lo) sh) (T.length+13) 10 (T.length+1+13) 12 (T++[.e []]++[.e []]))[k+13]?=(T++[CO.e []]++[.e []])[k]?:=λk=>rfl
 refine jF (o7 (a:=9) (b:=11) Ω) ?_ ?_ ?_ ?_ ?_ ?_ ?_ ?_ ?_ ?_ ?_ ?_ ?_ λi o hi=>?_
 .show ς (hO S (lvO lo) (.ref 3))=_;rwa[hO,rnO,qa2,qe3,bR,iw,O];rfl
 .rfl
 .rfl
 .rfl
 .show ς (CO.dK (aa (off lo) sh))=_;rwa[rnO,W]
 .rfl
 .rfl
 .simp[sg2];show ς _=_;simp
 .rfl
 .show(hbN S (lvO lo) (aa (off lo) sh) (T.length+13) 10 (T.length+1+13) 12 (T++[.e []]++[.e []]))[T.length+13]?=_;rw[U];simp
 .rfl
 .show(hbN S (lvO lo) (aa (off lo) sh) (T.length+13) 10 (T.length+1+13) 12 (T++[.e []]++[.e []]))[T.length+13+1]?=_;rw[show T.length+13+1=T.length+1+13 by lia,U];simp
 .rfl
 .rw[hg _ Θ,U,Z o (qa5 hi),qd9,gL (ak hi)];exact hi
theorem nT(h:TlOk tl sh):At (sg2 10 12 ((ao lo tl).length+13)) (hc sh {S with pb1:=[],pt1:=[]} lo tl) (hbN S (lvO lo) (aa (off lo) sh) 9 ((ao lo tl).length+13) 11 ((ao lo tl).length+1+13) (ao lo tl++[.e []]++[.e []])):=by
 have O:=uM (lo:=lo) (a:=10) (b:=12) (n:=(ao lo tl).length+13) Θ Θ;have W:=uN (sh:=sh) (lo:=lo) (a:=10) (b:=12) (n:=(ao lo tl).length+13) Θ Θ;have Z:=λo ho=>kW (σ:=sg2 10 12 ((ao lo tl).length+13)) (lo:=lo) (o:=o) h (ef Θ Θ Θ) (ef Θ Θ Θ) ho
 have hg:=λk hk=>ef (a:=10) (b:=12) (n:=(ao lo tl).length+13) (k:=k) Θ Θ hk
 unfold hc;generalize ao lo tl=T at*
 have U:∀(k:Nat),(hbN S (lvO lo) (aa (off lo) sh) 9 (T.length+13) 11 (T.length+1+13) (T++[.e []]++[.e []]))[k+13]?=(T++[CO.e []]++[.e []])[k]?:=λk=>rfl
 refine jF (o7 (a:=10) (b:=12) Ω) ?_ ?_ ?_ ?_ ?_ ?_ ?_ ?_ ?_ ?_ ?_ ?_ ?_ λi o hi=>?_
 .show ς (hO S (lvO lo) (.ref 3))=_;rwa[hO,rnO,qa2,qe3,bR,iw,O];rfl
 .rfl
 .rfl
 .rfl
 .show ς (CO.dK (aa (off lo) sh))=_;rwa[rnO,W]
 .rfl
 .rfl
 .simp[sg2];show ς _=_;simp
 .rfl
 .rfl
 .show(hbN S (lvO lo) (aa (off lo) sh) 9 (T.length+13) 11 (T.length+1+13) (T++[.e []]++[.e []]))[T.length+13]?=_;rw[U];simp
 .rfl
 .show(hbN S (lvO lo) (aa (off lo) sh) 9 (T.length+13) 11 (T.length+1+13) (T++[.e []]++[.e []]))[T.length+13+1]?=_;rw[show T.length+13+1=T.length+1+13 by lia,U];simp
 .rw[hg _ Θ,U,Z o (qa5 hi),qd9,gL (ak hi)];exact hi
noncomputable def sgW(n:Nat):Nat->Nat:=λi=>if i<13 then i else if i<16 then n+(i-13)else i-3
theorem xQ(h:TlOk tl sh):At (sgW (tl.length+13)) (hc sh S (ς l) tl) (hb S (.ref (tl.length+13)) (aa 13 sh) (tl++[.ins 1 [I l.pl,I l.dn,I l.he,I l.sy,.ref (tl.length+13+1),I l.du,.ref (tl.length+13+2)],.dK (dp l.bx),.dT (dp l.lg)])):=by
 have U:rnP (sgW (tl.length+13)) (aa 16 sh)=aa 13 sh:=bW λk Z=>by unfold sgW;rw[if_neg Θ,if_neg Θ];lia
 refine jF (λi j hi W e=>?_) ?_ rfl rfl rfl ?_ rfl rfl rfl rfl rfl rfl rfl rfl λi o hi=>?_
 .rwa[ao,qb6]at hi W;unfold sgW at e;split at e<;>split at e<;>(try split at e)<;>(try split at e)<;>lia
 .rfl
 .show ς (CO.dK (aa 13 sh))=_;rwa[rnO];rw[show off (ς l)=16 from rfl,U]
 .have O:∀k,(hb S (.ref (tl.length+13)) (aa 13 sh) (tl++[.ins 1 [I l.pl,I l.dn,I l.he,I l.sy,.ref (tl.length+13+1),I l.du,.ref (tl.length+13+2)],.dK (dp l.bx),.dT (dp l.lg)]))[k+13]?=(tl++[CO.ins 1 [I l.pl,I l.dn,I l.he,I l.sy,.ref (tl.length+13+1),I l.du,.ref (tl.length+13+2)],.dK (dp l.bx),.dT (dp l.lg)])[k]?:=λ_=>rfl
  rcases i with _|_|_|i
  .cases hi;show(hb S _ _ _)[tl.length+13]?=_;rw[O,gR Θ,zg0];rfl
  .cases hi;show(hb S _ _ _)[tl.length+13+1]?=_;rw[show tl.length+13+1=tl.length+1+13 by lia,O,gR Θ,qg0];rwa[rnO,dZ];rfl
  .cases hi;show(hb S _ _ _)[tl.length+13+2]?=_;rw[show tl.length+13+2=tl.length+2+13 by lia,O,gR Θ,qg0];rwa[rnO,dZ];rfl
  .have hi:tl[i]?=ς o:=hi;have:sgW (tl.length+13) (i+1+1+1+13)=i+13:=by unfold sgW;rw[if_neg Θ,if_neg Θ];lia
   rw[this,O,gL (ak hi),hi];have⟨L,rfl⟩:=h.all (qa5 hi);rw[cM]
noncomputable def sg1(n:Nat):Nat->Nat:=λi=>if i=3 then n else i
theorem xU(h:TlOk tl sh):At (sg1 (tl.length+16)) (hc sh {S with plan:=P} (ς l) tl) ((hl S l (aa 16 sh) (tl++[dl P])).set 0 (hO S (.ref 13) (.ref (tl.length+16)))):=by
 have O:rnP (sg1 (tl.length+16)) (aa 16 sh)=aa 16 sh:=bW λk Z=>by unfold sg1;rw[if_neg Θ]
 refine jF (λi j hi U e=>?_) rfl rfl rfl ?_ ?_ rfl rfl rfl rfl rfl rfl rfl rfl λi o hi=>?_
 .rwa[ao,qb6]at hi U;unfold sg1 at e;split at e<;>split at e<;>lia
 .show(tl++[dl P])[tl.length]?=_;simp
 .show ς (CO.dK (aa 16 sh))=_;rwa[rnO];rw[show off (ς l)=16 from rfl,O]
 .have W:=kW (σ:=sg1 (tl.length+16)) (lo:=ς l) (o:=o) h rfl rfl (qa5 hi);rw[W];show((hl S l (aa 16 sh) (tl++[dl P])).set 0 (hO S (.ref 13) (.ref (tl.length+16))))[i+13]?=ς o;show(lO l::CO.dK (dp l.bx)::CO.dT (dp l.lg)::(tl++[dl P]))[i]?=ς o;rcases i with _|_|_|i
  .exact hi
  .exact hi
  .exact hi
  .have hi:tl[i]?=ς o:=hi;show(tl++[dl P])[i]?=ς o;rw[gL (ak hi)];exact hi
noncomputable def sgF(k n:Nat):Nat->Nat:=λi=>if i=3 then n else if i<13 then i else i-13+k
theorem xV{d:Int}(h:TlOk tl sh):At (sgF (off lo) ((ao lo tl).length+13)) (hc sh {S with plan:=P,dust:=d} ψ tl) ((hb S (lvO lo) (aa (off lo) sh) (ao lo tl++[dl P])).set 0 (hO {S with dust:=d} (.g .non) (.ref ((ao lo tl).length+13)))):=by
 have hn:=ma (lo:=lo) (tl:=tl);have Z:=fR (lo:=lo);have U:rnP (sgF (off lo) ((ao lo tl).length+13)) (aa 13 sh)=aa (off lo) sh:=bW λk O=>by unfold sgF;rw[if_neg Θ,if_neg Θ];lia
 have O:∀i,i<tl.length->(ao lo tl)[i+off lo-13]?=tl[i]?:=λi hi=>by
  cases lo
  .show tl[i+13-13]?=_;rw[Nat.add_sub_cancel]
  .show(_::_::_::tl)[i+16-13]?=_;rw[show i+16-13=i+3 by lia];rfl
 generalize ao lo tl=T at*
 refine jF (λi j hi W e=>?_) rfl rfl rfl ?_ ?_ rfl rfl rfl rfl rfl rfl rfl rfl λi o hi=>?_
 .rwa[ao]at hi W;unfold sgF at e;split at e<;>split at e<;>(try split at e)<;>(try split at e)<;>lia
 .show(T++[dl P])[T.length]?=_;simp
 .show ς (CO.dK (aa (off lo) sh))=_;rwa[rnO];rw[show off ψ=13 from rfl,U]
 .have hi:tl[i]?=ς o:=hi;have hl:=ak hi;have e:sgF (off lo) (T.length+13) (i+13)=i+off lo-13+13:=by unfold sgF;rw[if_neg Θ,if_neg Θ];lia
  rw[e];show(T++[dl P])[i+off lo-13]?=_;rw[gL Θ,O i hl,hi];have⟨L,rfl⟩:=h.all (qa5 hi);rw[cM]
end
def dI(sh:Sh)(R:Nat)(lo:Bool):η Str->η Sm->Prop
 |_,[]=>lo=θ
 |ns,.put n p v::P=>Vp sh n p/\Vi (.int v)/\dI sh R lo ns P
 |_,.wake::P=>P=[]/\lo=ξ
 |_,.beg a _ c _::P=>(∃i:Nat,a=i/\i<R)/\0<=c/\P≠[]/\dI sh R lo [] P
 |ns,.box n v::P=>n∉ns/\Vi (.int v)/\dI sh R lo (ns++[n]) P
 |ns,.log n p v::P=>Vp sh n p/\Vi (.int v)/\dI sh R lo ns P
 |_,.trn::P=>∀ns,dI sh R lo ns P
structure PgOk(R:Nat)(sh:Sh)(N:Nat)(h pb pt:List Dt)(bs:List Bx):Prop where
 hd:∃(i:Nat)(b c d:Int),h=[.int i,.int b,.int c,.int d]/\i<R/\0<=c
 pb:pb=bs.map Bx.d
 nd:(bs.map (·.1)).Nodup
 vi:∀b∈bs,Vi (.int b.2)
 bn:bs.length<=N
 pt:∃ts:List Tn,pt=ts.map Tn.d/\(∀t∈ts,Vp sh t.1.1 t.1.2/\Vi (.int t.2))/\ts.length<=N
noncomputable def oth(S:HS)(b0 b1:η Bx):η Str:=if S.cnt=0 then b1.map (·.1)else b0.map (·.1)
structure Ok(x:Fx)(R:List Rw)(sh:Sh)(N:Nat)(S:HS)(lo:Option LS)(tl:CH)(P:List Sm)(b0 b1:List Bx):Prop where
 hx:S.x=x
 pl:S.plan=P.map Sm.d
 ok:dI sh R.length lo.isSome (oth S b0 b1) P
 pn:P.length<=2*N+10
 p0:PgOk R.length sh N S.h0 S.pb0 S.pt0 b0
 p1:PgOk R.length sh N S.h1 S.pb1 S.pt1 b1
 ct:S.cnt=0\/S.cnt=1
 rs:S.res=.non\/∃i,S.res=.int i
 ft:FOk N S.fst
 du:Vi (.int S.dust)
 lo:∀l,lo=ς l->LOk sh N l/\∃i:Nat,l.pl=i/\i<R.length
 tl:TlOk tl sh
structure XR(x:Fx)(R:List Rw)(sh:Sh):Prop where
 X:XOk x sh
 rows:x.rows=R.map Rw.d
 onw:∀(i:Nat) r,R[i]?=ς r->x.onw[i]?=ς (l8 i r)
 rok:∀r∈R,xN x sh r
 lead:∀(i:Nat) r p,R[i]?=ς r->iD i r p->∃j:Nat,p=j/\j<R.length
 kv:∀k d,av x.kk x.kv k=ς d->∃bs:List Str,d=.t (bs.map .str)/\bs.Nodup/\bs.length<=6
section
variable{x:Fx}{R:η Rw}{sh:Sh}{N:Nat}{S:HS}{lo:ζ LS}{tl:CH}{P:η Sm}{b0 b1:η Bx}{h pb pt:η Dt}{bs:η Bx}
theorem PgOk.up(g:PgOk R.length sh N h pb pt bs):PgOk R.length sh (N+1) h pb pt bs:=⟨g.hd,g.pb,g.nd,g.vi,qd6 g.bn,let ⟨ts,h1,h2,h3⟩:=g.pt;⟨ts,h1,h2,qd6 h3⟩⟩
def PgOk.len(g:PgOk R.length sh N h pb pt bs):h.length=4:=by have⟨i,b,c,d,rfl,_⟩:=g.hd;rfl
theorem PgOk.box(g:PgOk R.length sh N h pb pt bs){n:Str}{v:Int}(O:n∉bs.map (·.1))(U:Vi (.int v)):PgOk R.length sh (N+1) h (pb++[.t [.str n,.int v]]) pt (bs++[(n,v)]):=by
 refine⟨g.hd,by rw[g.pb];simp[Bx.d],?_,λb hb=>?_,by have:=g.bn;simp;lia,let ⟨ts,h1,h2,h3⟩:=g.pt;⟨ts,h1,h2,qd6 h3⟩⟩
 .rw[qd1,qe1];exact⟨g.nd,Ξ,λa W b hb e=>O (by simp at hb;rw[<- hb,<- e];exact W)⟩
 .rcases qf7.mp hb with hb|hb
  .exact g.vi b hb
  .simp at hb;subst hb;exact U
theorem PgOk.turn(g:PgOk R.length sh N h pb pt bs){n:Str}{p:Nat}{v:Int}(hp:Vp sh n p)(U:Vi (.int v)):PgOk R.length sh (N+1) h pb (pt++[.t [.t [.str n,.int p],.int v]]) bs:=by
 have⟨ts,h1,h2,W⟩:=g.pt;refine⟨g.hd,g.pb,g.nd,g.vi,qd6 g.bn,ts++[((n,p),v)],by rw[h1];simp[Tn.d],λt O=>?_,by simp;lia⟩;rcases qf7.mp O with O|O
 .exact h2 t O
 .simp at O;subst O;exact⟨hp,U⟩
def kX{k:Nat}:(ao lo tl)[k+(off lo-13)]?=tl[k]?:=by cases lo<;>rfl
def uO{k:Nat}{o:CO}:(ao lo tl).set (k+(off lo-13)) o=ao lo (tl.set k o):=by cases lo<;>rfl
theorem Ce{n:Str}{p:Nat}{v:Int}(hn:(sh.map (·.1)).Nodup)(W:TlOk tl sh)(hp:Vp sh n p)(hv:Vi (.int v)):∃O,TlOk O sh/\F27 [.ref 1,.g (.str n),I p,I v] (hc sh S lo tl)=ς (.g .non,hc sh S lo O):=by
 have⟨k,m,h1,h2⟩:=hp;have⟨L,h3,h4,Z⟩:=W.at_ h1;refine⟨tl.set k (dl (L.set p (.int v))),W.set h1 (by simp[h4]) λd U=>?_,?_⟩
 .rcases qp6 U with U|rfl
  .exact Z d U
  .exact hv
 .have:=uB (S:=S) (lv:=lvO lo) (rf:=aa (off lo) sh) (tl:=ao lo tl) (n:=n) (k:=k+(off lo-13)) (p:=p) (v:=.int v) (l:=L) (by rw[dE hn h1];have:=fR (lo:=lo);congr 2;lia) (by rw[kX];exact h3) Θ;rw[uO]at this;exact this
theorem Ef(hn:(sh.map (·.1)).Nodup){s:Sm}(hs:∀a b c d,s≠.beg a b c d)(hw:s≠.wake)(hN:N<1000000)(o:Ok x R sh N S lo tl (s::P) b0 b1):∃S' tl' c0 c1,F33 [.ref 1,.g s.d] (hc sh {S with plan:=P.map Sm.d} lo tl)=ς (.g .non,hc sh S' lo tl')/\Ok x R sh (N+1) S' lo tl' P c0 c1:=by
 have Z:N<qa4:=by rw[qb7];lia
 have U:∀l,lo=ς l->LOk sh (N+1) l/\∃i:Nat,l.pl=i/\i<R.length:=λl e=>⟨(o.lo l e).1.up,(o.lo l e).2⟩
 have W:P.length<=2*(N+1)+10:=by have:=o.pn;simp at this;lia
 have hp:=o.ok;cases s with
 |put n p v=>have⟨tl',h1,h2⟩:=Ce (S:={S with plan:=P.map Sm.d}) (lo:=lo) hn o.tl hp.1 hp.2.1;exact⟨_,tl',b0,b1,B5 h2,⟨o.hx,rfl,hp.2.2,W,o.p0.up,o.p1.up,o.ct,o.rs,o.ft.up,o.du,U,h1⟩⟩
 |wake=>exact absurd rfl hw
 |beg a b c d=>exact absurd rfl (hs a b c d)
 |box n v=>
  rcases o.ct with O|O
  .have e:oth S b0 b1=b1.map (·.1):=if_pos O;rw[e]at hp;refine⟨_,tl,b0,b1++[(n,v)],uE (B2 (S:={S with plan:=P.map Sm.d}) O (by show S.pb1.length<_;rw[o.p1.pb,qa3];exact qe4 o.p1.bn Z)),⟨o.hx,rfl,?_,W,o.p0.up,o.p1.box hp.1 hp.2.1,o.ct,o.rs,o.ft.up,o.du,U,o.tl⟩⟩;have:oth {S with plan:=P.map Sm.d,pb1:=S.pb1++[.t [.str n,.int v]]} b0 (b1++[(n,v)])=b1.map (·.1)++[n]:=by unfold oth;rw[if_pos O];simp
   rw[this];exact hp.2.2
  .have e:oth S b0 b1=b0.map (·.1):=if_neg (by rw[O];decide);rw[e]at hp;refine⟨_,tl,b0++[(n,v)],b1,uE (B1 (S:={S with plan:=P.map Sm.d}) O (by show S.pb0.length<_;rw[o.p0.pb,qa3];exact qe4 o.p0.bn Z)),⟨o.hx,rfl,?_,W,o.p0.box hp.1 hp.2.1,o.p1.up,o.ct,o.rs,o.ft.up,o.du,U,o.tl⟩⟩;have:oth {S with plan:=P.map Sm.d,pb0:=S.pb0++[.t [.str n,.int v]]} (b0++[(n,v)]) b1=b0.map (·.1)++[n]:=by unfold oth;rw[if_neg (by rw[O];decide)];simp
   rw[this];exact hp.2.2
 |log n p v=>
  rcases o.ct with O|O
  .have⟨ts,h1,_,h3⟩:=o.p1.pt;exact⟨_,tl,b0,b1,uF (B4 (S:={S with plan:=P.map Sm.d}) O (by show S.pt1.length<_;rw[h1,qa3];exact qe4 h3 Z)),⟨o.hx,rfl,hp.2.2,W,o.p0.up,o.p1.turn hp.1 hp.2.1,o.ct,o.rs,o.ft.up,o.du,U,o.tl⟩⟩
  .have⟨ts,h1,_,h3⟩:=o.p0.pt;exact⟨_,tl,b0,b1,uF (B3 (S:={S with plan:=P.map Sm.d}) O (by show S.pt0.length<_;rw[h1,qa3];exact qe4 h3 Z)),⟨o.hx,rfl,hp.2.2,W,o.p0.turn hp.1 hp.2.1,o.p1.up,o.ct,o.rs,o.ft.up,o.du,U,o.tl⟩⟩
 |trn=>exact⟨_,tl,b0,b1,B6,⟨o.hx,rfl,hp _,W,o.p0.up,o.p1.up,by rcases o.ct with h|h<;>simp[h],o.rs,o.ft.up,o.du,U,o.tl⟩⟩
theorem kY{lo:Bool}{r:Nat}:∀{ts:η Tn}{ns:η Str}{Q:η Sm},(∀t∈ts,Vp sh t.1.1 t.1.2/\Vi (.int t.2))->dI sh r lo ns Q->dI sh r lo ns (dm ts++Q)
 |[],_,_,_,h=>h
 |t::ts,ns,Q,h,O=>⟨(h t (.head _)).1,(h t (.head _)).2,kY (λu U=>h u (.tail _ U)) O⟩
theorem o8{lo:Bool}{r:Nat}:∀{ts:η Tn}{ns:η Str}{Q:η Sm},(∀t∈ts,Vp sh t.1.1 t.1.2/\Vi (.int t.2))->dI sh r lo ns Q->dI sh r lo ns (uC ts++Q)
 |[],_,_,_,h=>h
 |t::ts,ns,Q,h,O=>⟨(h t (.head _)).1,(h t (.head _)).2,o8 (λu U=>h u (.tail _ U)) O⟩
theorem mh{lo:Bool}{r:Nat}{Q:η Sm}(U:∀ns,dI sh r lo ns Q):∀{ks:η Bx}{ns:η Str},(∀k∈ks,Vi (.int k.2))->(ns++ks.map (·.1)).Nodup->dI sh r lo ns ((ks.map λk=>.box k.1 k.2)++Q)
 |[],ns,_,_=>U ns
 |k::ks,ns,h,O=>by refine⟨λW=>?_,h k (.head _),mh U (λu Z=>h u (.tail _ Z)) (by simpa[qd9] using O)⟩;have:=(qe1.mp O).2.2 k.1 W k.1 Ξ;exact this rfl
end
def To(x:Fx)(R:η Rw)(sh:Sh)(N:Nat)(F:Fd)(ag:η CV)(cs:CH):Prop:=∃S lo tl P b0 b1 cs' σ,F ag cs=ς (.g .non,cs')/\cs.length<=cs'.length/\At σ (hc sh S lo tl) cs'/\σ 0=0/\Ok x R sh N S lo tl P b0 b1
variable{ag:η CV}
section
variable{x:Fx}{R:η Rw}{sh:Sh}{N:Nat}{S:HS}{lo:ζ LS}{tl:CH}{P:η Sm}{b0 b1:η Bx}
def xW{s:Sm}(h:s≠.wake):∃k r,s.d=.t (.str k::r)/\(k=qd0 "wake")=False:=by
 cases s with
 |put n p v=>exact⟨_,_,rfl,(by simp[ofS])⟩
 |wake=>exact absurd rfl h
 |beg a b c d=>exact⟨_,_,rfl,(by simp[ofS])⟩
 |box n v=>exact⟨_,_,rfl,(by simp[ofS])⟩
 |log n p v=>exact⟨_,_,rfl,(by simp[ofS])⟩
 |trn=>exact⟨_,_,rfl,(by simp[ofS])⟩
theorem To.here{F:Fd}{cs:CH}(h:F ag cs=ς (.g .non,hc sh S lo tl))(hl:cs.length<=(hc sh S lo tl).length)(o:Ok x R sh N S lo tl P b0 b1):To x R sh N F ag cs:=⟨S,lo,tl,P,b0,b1,_,_,h,hl,.same,rfl,o⟩
theorem o9{U:ζ LS}{O:CH}(e:off lo=off U)(h:TlOk tl sh)(h':TlOk O sh):(hc sh S lo tl).length<=(hc sh S' U O).length:=by rw[nR,nR,h.len,h'.len,e];exact nL _
theorem uP(X:XR x R sh){s:Sm}(hN:N<400000)(o:Ok x R sh N S lo tl (s::P) b0 b1):To x R sh (N+1) F34 [.ref 0] (hc sh S lo tl):=by
 have hl:S.plan.length<=1000000:=by have:=o.pn;rw[o.pl,qa3];lia
 have h1:=o.ok;by_cases hw:s=.wake
 .subst hw;have⟨rfl,U⟩:=h1;obtain rfl:lo=ψ:=by cases lo;rfl;cases U
  have key:∃(i:Nat)(b c d:Int)(bs:η Bx)(t:Dt),pgD S=[.int i,.int b,.int c,.int d,.e (bs.map Bx.d),t]/\(bs.map (·.1)).Nodup/\i<R.length/\0<=c/\(∀b∈bs,Vi (.int b.2))/\bs.length<=N:=by
   unfold pgD;split
   .have⟨i,b,c,d,e,g1,g2⟩:=o.p0.hd;exact⟨i,b,c,d,b0,.e S.pt0,by rw[e,o.p0.pb];rfl,o.p0.nd,g1,g2,o.p0.vi,o.p0.bn⟩
   .have⟨i,b,c,d,e,g1,g2⟩:=o.p1.hd;exact⟨i,b,c,d,b1,.e S.pt1,by rw[e,o.p1.pb];rfl,o.p1.nd,g1,g2,o.p1.vi,o.p1.bn⟩
  have⟨i,b,c,d,bs,t,k1,k2,k3,k4,k5,k6⟩:=key;have hk:=nP (S:=S) (lv:=.g .non) (rf:=aa 13 sh) (tl:=tl) (by rw[o.pl];rfl) o.ct o.p0.len o.p1.len k1 k2;refine⟨_,ς ⟨i,b,c,d,S.dust,bxK bs,[]⟩,tl,[],b0,b1,_,_,hk,?_,xQ (l:=⟨i,b,c,d,S.dust,bxK bs,[]⟩) o.tl,rfl,⟨o.hx,rfl,rfl,qh2 _,o.p0.up,o.p1.up,o.ct,o.rs,o.ft.up,o.du,λl e=>?_,o.tl⟩⟩
  .simp[hc,hb,ao]
  .cases e;refine⟨⟨k4,o.du,λp hp=>?_,by simp[bxK];lia,Ξ,Ξ⟩,i,rfl,k3⟩;rwa[bxK,qc8]at hp;have⟨q,hq,rfl⟩:=hp;exact k5 q hq
 .have⟨k,r,hd,hk⟩:=xW hw;by_cases hb:∃a b c d,s=.beg a b c d
  .have⟨a,b,c,d,rfl⟩:=hb;have⟨⟨i,rfl,hi⟩,hc0,hne,hP⟩:=h1;obtain⟨q,P',rfl⟩:∃q P',P=q::P':=by cases P with|nil=>exact absurd rfl hne|cons q P'=>exact⟨q,P',rfl⟩
   have U:∀l,lo=ς l->LOk sh (N+1) l/\∃i:Nat,l.pl=i/\i<R.length:=λl e=>⟨(o.lo l e).1.up,(o.lo l e).2⟩
   have hpn:(q::P').length<=2*(N+1)+10:=by have:=o.pn;simp at this ⊢;lia
   have nw:PgOk R.length sh (N+1) [.int i,.int b,.int c,.int d] [] [] []:=⟨⟨i,b,c,d,rfl,hi,hc0⟩,rfl,Ξ,Ξ,Ξ,[],rfl,Ξ,Ξ⟩;rcases o.ct with O|O
   .have Z:=xI (S:={S with plan:=(q::P').map Sm.d}) (lv:=lvO lo) (rf:=aa (off lo) sh) (tl:=ao lo tl) O (a:=.int i) (b:=.int b) (c:=.int c) (d:=.int d);have W:=dY (S:=S) (lv:=lvO lo) (rf:=aa (off lo) sh) (tl:=ao lo tl) (S':={S with plan:=(q::P').map Sm.d,h1:=[.int i,.int b,.int c,.int d]}) (q:=q.d) (P:=P'.map Sm.d) (by rw[o.pl];rfl) (by simp[ofS]) hl (uD Z) rfl rfl;refine⟨{S with plan:=(q::P').map Sm.d,h1:=[.int i,.int b,.int c,.int d],pb1:=[],pt1:=[]},lo,tl,q::P',b0,[],_,_,W,?_,nT (S:={S with plan:=(q::P').map Sm.d,h1:=[.int i,.int b,.int c,.int d]}) o.tl,rfl,⟨o.hx,rfl,?_,hpn,o.p0.up,nw,o.ct,o.rs,o.ft.up,o.du,U,o.tl⟩⟩
    .simp[hc,hb,hbN]
    .have:oth {S with plan:=(q::P').map Sm.d,h1:=[.int i,.int b,.int c,.int d],pb1:=[],pt1:=[]} b0 []=[]:=by unfold oth;rw[if_pos O];rfl
     rw[this];exact hP
   .have Z:=xH (S:={S with plan:=(q::P').map Sm.d}) (lv:=lvO lo) (rf:=aa (off lo) sh) (tl:=ao lo tl) O (a:=.int i) (b:=.int b) (c:=.int c) (d:=.int d);have W:=dY (S:=S) (lv:=lvO lo) (rf:=aa (off lo) sh) (tl:=ao lo tl) (S':={S with plan:=(q::P').map Sm.d,h0:=[.int i,.int b,.int c,.int d]}) (q:=q.d) (P:=P'.map Sm.d) (by rw[o.pl];rfl) (by simp[ofS]) hl (uD Z) rfl rfl;refine⟨{S with plan:=(q::P').map Sm.d,h0:=[.int i,.int b,.int c,.int d],pb0:=[],pt0:=[]},lo,tl,q::P',[],b1,_,_,W,?_,nS (S:={S with plan:=(q::P').map Sm.d,h0:=[.int i,.int b,.int c,.int d]}) o.tl,rfl,⟨o.hx,rfl,?_,hpn,nw,o.p1.up,o.ct,o.rs,o.ft.up,o.du,U,o.tl⟩⟩
    .simp[hc,hb,hbN]
    .have:oth {S with plan:=(q::P').map Sm.d,h0:=[.int i,.int b,.int c,.int d],pb0:=[],pt0:=[]} [] b1=[]:=by unfold oth;rw[if_neg (by show ¬ S.cnt=0;rw[O];decide)];rfl
     rw[this];exact hP
  .have hb':∀a b c d,s≠.beg a b c d:=λa b c d e=>hb ⟨a,b,c,d,e⟩
   have⟨S',tl',c0,c1,h2,o'⟩:=Ef X.X.nd hb' hw Θ o;rw[hd]at h2;cases P with
   |cons q P'=>have W:=dY (S:=S) (lv:=lvO lo) (rf:=aa (off lo) sh) (tl:=ao lo tl) (S':=S') (ch':=hc sh S' lo tl') (q:=q.d) (P:=P'.map Sm.d) (by rw[o.pl,qa2,hd];rfl) hk hl h2 rfl (by show ς (dl S'.plan)=_;rw[o'.pl];rfl);exact .here W (o9 rfl o.tl o'.tl) o'
   |nil=>have hi:lo.isSome=θ:=o'.ok;have⟨l,rfl⟩:=qe9.mp hi;have W:=nO (S:=S) (rf:=aa 16 sh) (tl:=ao (ς l) tl) (S':=S') (bx:=.dK (dp l.bx)) (lg:=dp l.lg) (ch':=tl') (by rw[o.pl,qa2,hd];rfl) hk h2 o'.pl;refine .here (S:=S') (lo:=ς {l with lg:=[]}) (tl:=tl') W (o9 rfl o.tl o'.tl) ⟨o'.hx,o'.pl,o'.ok,o'.pn,o'.p0,o'.p1,o'.ct,o'.rs,o'.ft,o'.du,λm e=>?_,o'.tl⟩;cases e;have:=o'.lo l rfl;exact⟨⟨this.1.he,this.1.du,this.1.bx,this.1.bn,Ξ,Ξ⟩,this.2⟩
theorem Cf{l:LS}(X:XR x R sh)(hN:N<400000)(o:Ok x R sh N S (ς l) tl [] b0 b1):To x R sh (N+1) F49 [.ref 0] (hc sh S (ς l) tl):=by
 have⟨hL,i,hi,hlt⟩:=o.lo l rfl;have hr:R[i]?=ς R[i]:=gQ hlt;generalize R[i]=r at hr
 have U:ixV (hl S l (aa 16 sh) tl) (.g (.t S.x.rows)) (.int l.pl)=ς (.g r.d):=by rw[o.hx,X.rows];exact(gG hi (by rw[qa6,hr];rfl)).2
 have hro:=X.rok r (qa5 hr);have hL1:LOk sh N {l with dn:=l.dn+1}:=⟨hL.he,hL.du,hL.bx,hL.bn,hL.lg,hL.ln⟩;by_cases hf:∃a,r=.fin a
 .have⟨a,rfl⟩:=hf;have⟨v,hv,h1⟩:=bV (S:=S) (l:={l with dn:=l.dn+1}) (rf:=aa 16 sh) (tl:=tl) hL.du hL.bx a hro;have hg:=xG (S:=S) (lv:=.ref 13) (rf:=aa 16 sh) (tl:=ao (ς {l with dn:=l.dn+1}) tl) (v:=.int v);refine .here (S:={S with res:=.int v}) (lo:=ς {l with dn:=l.dn+1}) (tl:=tl) (P:=[]) (b0:=b0) (b1:=b1) ?_ (o9 rfl o.tl o.tl) ⟨o.hx,o.pl,o.ok,qh2 _,o.p0.up,o.p1.up,o.ct,.inr ⟨v,rfl⟩,o.ft.up,o.du,λm e=>?_,o.tl⟩
  .show F49 [.ref 0] (hl S l (aa 16 sh) tl)=ς (.g .non,hl {S with res:=.int v} {l with dn:=l.dn+1} (aa 16 sh) tl);exact xR (.c 0 U (.v 0 h1 (.v 0 hg .nil)))
  .cases e;exact⟨hL1.up,i,hi,hlt⟩
 .have hf':∀a,r≠.fin a:=λa e=>hf ⟨a,e⟩
  have hxr:xN S.x sh r:=by rw[o.hx];exact hro
  have hXX:XOk S.x sh:=by rw[o.hx];exact X.X
  have⟨ch',d1,f,u,hh,yy,bb,gg,tl',F',L',T',rfl⟩:=Cd r hf' (S:=S) (l:={l with dn:=l.dn+1}) hXX hxr o.ft hL1 o.tl (by rw[qb7];lia);obtain⟨S1,O⟩:∃S1,S1={S with fst:=f,unl:=u}:=⟨_,rfl⟩;obtain⟨l1,hl1⟩:∃l1:LS,l1={l with dn:=l.dn+1,he:=hh,sy:=yy,bx:=bb,lg:=gg}:=⟨_,rfl⟩;have eq1:hl {S with fst:=f,unl:=u} {{l with dn:=l.dn+1} with he:=hh,sy:=yy,bx:=bb,lg:=gg} (aa 16 sh) tl'=hl S1 l1 (aa 16 sh) tl':=by rw[O,hl1]
  rw[eq1]at d1;have Z:LOk sh (N+1) l1:=by rw[hl1];exact L'
  have hx1:S1.x=x:=by rw[O];exact o.hx
  have hpl:l1.pl=i:=by rw[hl1];exact hi
  have⟨p,hp,d2⟩:=behind (S:=S1) (l:=l1) (tl:=tl') r hf' hpl (by rw[hx1];exact X.onw i r hr) Z;have⟨j,rfl,hj⟩:=X.lead i r p hr hp;have L2:LOk sh (N+1) {l1 with pl:=j}:=⟨Z.he,Z.du,Z.bx,Z.bn,Z.lg,Z.ln⟩
  have O1:∀Q W bs1,dI sh R.length θ (oth S1 W bs1) Q->Q.length<=2*(N+1)+10->W=b0->bs1=b1->Ok x R sh (N+1) {S1 with plan:=Q.map Sm.d} (ς {l1 with pl:=j}) tl' Q W bs1:=λQ W bs1 h1 h2 e0 e1=>by subst e0 e1;refine⟨hx1,rfl,h1,h2,by rw[O];exact o.p0.up,by rw[O];exact o.p1.up,by rw[O];exact o.ct,by rw[O];exact o.rs,by rw[O];exact F',by rw[O];exact o.du,λm e=>?_,T'⟩;cases e;exact⟨L2,j,rfl,hj⟩
  have hpe:S1.plan=[]:=by rw[O];exact o.pl
  have hk0:=zj (ch:=hl S {l with dn:=l.dn+1} (aa 16 sh) tl) (r:=r);have ne1:=zk hf';cases q:av S1.x.kk S1.x.kv (qn8 (j:Int))with
  |none=>
   have hin:oIn.g (.int j) (.dct S1.x.kk S1.x.kv)=ς (.f (.bl ξ)):=by simp[oIn,orO,gIn,inD,kx,bQ,cO,q]
   refine .here (S:={S1 with plan:=[]}) (lo:=ς {l1 with pl:=j}) (tl:=tl') (P:=[]) (b0:=b0) (b1:=b1) ?_ (o9 rfl o.tl T') (O1 [] b0 b1 rfl Ξ rfl rfl);have:({S1 with plan:=[]}:HS)=S1:=by rw[<- hpe]
   rw[this];show F49 [.ref 0] (hl S l (aa 16 sh) tl)=ς (.g .non,hl S1 {l1 with pl:=j} (aa 16 sh) tl');exact xR (.c 0 U (.c 0 hk0 (.t 0 ne1 (.v 0 d1 (.v 0 d2 (.t 0 hin .nil))))))
  |some d=>
   have⟨bs,rfl,hnd,h6⟩:=X.kv (.inl j) d (by rw[<- hx1];exact q);have hin:oIn.g (.int j) (.dct S1.x.kk S1.x.kv)=ς (.f (.bl θ)):=by simp[oIn,orO,gIn,inD,kx,bQ,cO,q]
   have hix:ixV (hl S1 {l1 with pl:=j} (aa 16 sh) tl') (.g (.dct S1.x.kk S1.x.kv)) (.int j)=ς (.g (.t (bs.map .str))):=by show(ixD _ _).map CV.g=_;simp[ixD,bQ,cO,q]
   have⟨ks,ts,w1,w2,w3,w4,w5⟩:=xP (S:=S1) (l:={l1 with pl:=j}) (tl:=tl') (bs:=bs) L2 Θ
   have hw:dI sh R.length θ (oth S1 b0 b1) (eR j l1.dn l1.he l1.sy ks ts):=by
    have hb':(ks.map (·.1)).Nodup:=by rw[w1];exact hnd
    have hq:∀ns,dI sh R.length θ ns (dm ts):=λns=>by have:=kY (sh:=sh) (lo:=true) (r:=R.length) (ns:=ns) (Q:=[]) w3 rfl;rw[qh8]at this;exact this
    have ha:eR j l1.dn l1.he l1.sy ks ts=Sm.beg j l1.dn l1.he l1.sy::((ks.map λk=>.box k.1 k.2)++(uC ts++(.trn::dm ts))):=by simp[eR]
    rw[ha];exact⟨⟨j,rfl,hj⟩,Z.he,Ξ,mh (λns=>o8 w3 (show dI sh R.length θ ns (.trn::dm ts)from hq)) w2 ‹hb'›⟩
   refine⟨_,_,tl',eR j l1.dn l1.he l1.sy ks ts,b0,b1,(hl S1 {l1 with pl:=j} (aa 16 sh) (tl'++[dl ((eR j l1.dn l1.he l1.sy ks ts).map Sm.d)])).set 0 (hO S1 (.ref 13) (.ref (tl'.length+16))),_,?_,?_,xU T',rfl,O1 _ b0 b1 hw ?_ rfl rfl⟩
   .show F49 [.ref 0] (hl S l (aa 16 sh) tl)=_;exact xR (.c 0 U (.c 0 hk0 (.t 0 ne1 (.v 0 d1 (.v 0 d2 (.t 0 hin (.c 0 hix (.v 0 w5 .nil))))))))
   .have:=o.tl.len;have:=T'.len;simp[hc,hb,ao];lia
   .simp[eR,uC,dm];have:ks.length=bs.length:=by rw[<- w1,qa3]
    lia
theorem xY(X:XR x R sh)(hN:N<400000)(o:Ok x R sh N S lo tl P b0 b1)(hr:S.res=.non):To x R sh (N+1) F50 [.ref 0] (hc sh S lo tl):=by
 have h1:=gz (S:=S) (lv:=lvO lo) (rf:=aa (off lo) sh) (tl:=ao lo tl) hr;cases P with
 |nil=>have hi:lo.isSome=θ:=o.ok;have⟨l,rfl⟩:=qe9.mp hi;have⟨S',O,U,W,c0,c1,cs',σ,g1,g2,Z,g4,g5⟩:=Cf X hN o;refine⟨S',O,U,W,c0,c1,cs',σ,?_,g2,Z,g4,g5⟩;have hp:S.plan=[]:=o.pl;exact xR (.v 0 h1 (.d 0 (vl (ch:=hc sh S (ς l) tl) (i:=3) (L:=S.plan) rfl) (.t 1 (show oGt.g (.int S.plan.length) (.int 0)=ς (.f (.bl ξ))by rw[hp];rfl) (.v 0 g1 .nil))))
 |cons s P=>have⟨S',O,U,W,c0,c1,cs',σ,g1,g2,Z,g4,g5⟩:=uP X hN o;refine⟨S',O,U,W,c0,c1,cs',σ,?_,g2,Z,g4,g5⟩;obtain⟨d,L,hp⟩:∃d L,S.plan=d::L:=⟨_,_,o.pl⟩;exact xR (.v 0 h1 (.d 0 (vl (ch:=hc sh S lo tl) (i:=3) (L:=S.plan) rfl) (.t 1 (show oGt.g (.int S.plan.length) (.int 0)=ς (.f (.bl θ))by rw[hp];show ς (T.f (.bl (decide _)))=_;rw[decide_eq_true (by first|lia|simp)]) (.v 0 g1 .nil))))
theorem qN{i:Int}(O:S.res=.int i):F50 [.ref 0] (hc sh S lo tl)=ς (.g .non,hc sh S lo tl):=by have h1:=gD (S:=S) (lv:=lvO lo) (rf:=aa (off lo) sh) (tl:=ao lo tl) O;exact xR (.v 0 h1 .nil)
theorem qO{i d:Int}(O:S.res=.int i):F52 [.ref 0,I d] (hc sh S lo tl)=ς (.g .non,hc sh S lo tl):=by have h1:=gD (S:=S) (lv:=lvO lo) (rf:=aa (off lo) sh) (tl:=ao lo tl) O;exact xR (.v 0 h1 .nil)
theorem xZ{d:Int}(hd:Vi (.int d))(hN:N<400000)(o:Ok x R sh N S lo tl P b0 b1)(hr:S.res=.non):To x R sh (N+1) F52 [.ref 0,I d] (hc sh S lo tl):=by
 have h1:=gz (S:=S) (lv:=lvO lo) (rf:=aa (off lo) sh) (tl:=ao lo tl) hr
 have key:∃(a b c e f:Dt)(ts:η Tn),pgD S=[a,b,c,e,f,.e (ts.map Tn.d)]/\(∀t∈ts,Vp sh t.1.1 t.1.2/\Vi (.int t.2))/\ts.length<=N:=by
  unfold pgD;split
  .have⟨i,b,c,d,e,g1,g2⟩:=o.p0.hd;have⟨ts,U,k2,Z⟩:=o.p0.pt;exact⟨_,_,_,_,_,ts,by rw[e,U];rfl,k2,Z⟩
  .have⟨i,b,c,d,e,g1,g2⟩:=o.p1.hd;have⟨ts,U,k2,Z⟩:=o.p1.pt;exact⟨_,_,_,_,_,ts,by rw[e,U];rfl,k2,Z⟩
 have⟨a,b,c,e,f,ts,U,k2,Z⟩:=key;have W:=kM (S:={S with dust:=d}) (lv:=.g .non) (rf:=aa (off lo) sh) (tl:=ao lo tl) o.p0.len o.p1.len o.ct;have k1':pgD {S with dust:=d}=[a,b,c,e,f,.e (ts.map Tn.d)]:=U;rw[k1']at W;have O:=jE (ch:=hb {S with dust:=d} (.g .non) (aa (off lo) sh) (ao lo tl)) (a:=a) (b:=b) (c:=c) (d:=e) (e:=f) (ts:=ts) (by rw[qb7];lia);have eL:(hb {S with dust:=d} (.g .non) (aa (off lo) sh) (ao lo tl)).length=(ao lo tl).length+13:=rfl;have eX:hb {S with dust:=d} (.g .non) (aa (off lo) sh) (ao lo tl)++[dl ((dm ts++[Sm.wake]).map Sm.d)]=hb {S with dust:=d} (.g .non) (aa (off lo) sh) (ao lo tl++[dl ((dm ts++[Sm.wake]).map Sm.d)]):=rfl;rw[eL,eX]at O;refine⟨{S with plan:=(dm ts++[Sm.wake]).map Sm.d,dust:=d},ψ,tl,dm ts++[Sm.wake],b0,b1,(hb S (lvO lo) (aa (off lo) sh) (ao lo tl++[dl ((dm ts++[Sm.wake]).map Sm.d)])).set 0 (hO {S with dust:=d} (.g .non) (.ref ((ao lo tl).length+13))),_,?_,?_,xV o.tl,rfl,⟨o.hx,rfl,kY k2 ⟨rfl,rfl⟩,by simp[dm];lia,o.p0.up,o.p1.up,o.ct,o.rs,o.ft.up,hd,λl e=>(by cases e),o.tl⟩⟩
 .exact xR (ch:=hb S (lvO lo) (aa (off lo) sh) (ao lo tl)) (.v 0 h1 (.v 1 W (.v 0 O .nil)))
 .simp[hc,hb,ao]
end
abbrev St:=HS×ζ LS×CH
def c(sh:Sh)(s:St):CH:=hc sh s.1 s.2.1 s.2.2
abbrev PS:=Nat×St
def G(x:Fx)(R:η Rw)(sh:Sh)(p:PS):Prop:=∃P b0 b1,Ok x R sh p.1 p.2.1 p.2.2.1 p.2.2.2 P b0 b1
section
variable{x:Fx}{R:η Rw}{sh:Sh}{p:PS}{ρ:Nat->Nat}{b:CH}
def G.tl(h:G x R sh p):TlOk p.2.2.2 sh:=let ⟨_,_,_,o⟩:=h;o.tl
def G.cl(h:G x R sh p):Cl (c sh p.2):=uL h.tl
def mi{s:St}:0<(c sh s).length:=by show 0<_+1;lia
theorem To.rn{N:Nat}{F:Fd}(Z:TrD F)(hG:G x R sh p)(O:ag.all (clV (c sh p.2).length)=θ)(t:To x R sh N F ag (c sh p.2)):∃s:St,G x R sh (N,s)/\Rn F ag (c sh p.2) .non (c sh s):=by have⟨S,lo,tl,P,b0,b1,cs',σ,h1,h2,W,h4,U⟩:=t;exact⟨(S,lo,tl),⟨P,b0,b1,U⟩,.of Z hG.cl O h1 h2 W h4 mi⟩
open Classical in
def nx(x:Fx)(R:η Rw)(sh:Sh)(p:PS):PS:=if h:p.2.1.res=.non/\∃s,G x R sh (p.1+1,s)/\Rn F50 [.ref 0] (c sh p.2) .non (c sh s)then(p.1+1,h.2.choose)else p
open Classical in
def fl(x:Fx)(R:η Rw)(sh:Sh)(d:Int)(p:PS):PS:=if h:p.2.1.res=.non/\∃s,G x R sh (p.1+1,s)/\Rn F52 [.ref 0,I d] (c sh p.2) .non (c sh s)then(p.1+1,h.2.choose)else p
noncomputable def rs(p:PS):Bool:=match p.2.1.res with
 |.non=>ξ
 |_=>θ
def qQ{s:St}:(CV.ref 0::l.map .g).all (clV (c sh s).length)=θ:=by have:=mi (sh:=sh) (s:=s);simp[clV];lia
theorem zl(X:XR x R sh)(W:G x R sh p)(U:p.1<400000):G x R sh (nx x R sh p)/\Rn F50 [.ref 0] (c sh p.2) .non (c sh (nx x R sh p).2)/\p.1<=(nx x R sh p).1/\(nx x R sh p).1<=p.1+1:=by
 have⟨P,b0,b1,o⟩:=W;unfold nx;rcases o.rs with O|⟨i,O⟩
 .have h:p.2.1.res=.non/\∃s,G x R sh (p.1+1,s)/\Rn F50 [.ref 0] (c sh p.2) .non (c sh s):=⟨O,(xY X U o O).rn (ay _) ⟨P,b0,b1,o⟩ (qQ (l:=[]))⟩;rw[dif_pos h];exact⟨h.2.choose_spec.1,h.2.choose_spec.2,qi5 _,nL _⟩
 .rw[dif_neg λh=>by rw[O]at h;cases h.1];exact⟨⟨P,b0,b1,o⟩,.here (ay _) (uL o.tl) (qQ (l:=[])) (qN O) (nL _) mi,nL _,qi5 _⟩
theorem zm{d:Int}(W:Vi (.int d))(Z:G x R sh p)(U:p.1<400000):G x R sh (fl x R sh d p)/\Rn F52 [.ref 0,I d] (c sh p.2) .non (c sh (fl x R sh d p).2)/\p.1<=(fl x R sh d p).1/\(fl x R sh d p).1<=p.1+1:=by
 have⟨P,b0,b1,o⟩:=Z;unfold fl;rcases o.rs with O|⟨i,O⟩
 .have h:p.2.1.res=.non/\∃s,G x R sh (p.1+1,s)/\Rn F52 [.ref 0,I d] (c sh p.2) .non (c sh s):=⟨O,(xZ W U o O).rn (ay _) ⟨P,b0,b1,o⟩ (qQ (l:=[.int d]))⟩;rw[dif_pos h];exact⟨h.2.choose_spec.1,h.2.choose_spec.2,qi5 _,nL _⟩
 .rw[dif_neg λh=>by rw[O]at h;cases h.1];exact⟨⟨P,b0,b1,o⟩,.here (ay _) (uL o.tl) (qQ (l:=[.int d])) (qO O) (nL _) mi,nL _,qi5 _⟩
def Eg(h:rs p=θ):nx x R sh p=p:=by unfold nx;rw[dif_neg];rintro⟨e,_⟩;unfold rs at h;rw[e]at h;cases h
def uQ(U:G x R sh p):F25 [.ref 0] (c sh p.2)=ς (.g (.bl (rs p)),c sh p.2):=by
 have⟨P,b0,b1,o⟩:=U;unfold rs;rcases o.rs with O|⟨i,O⟩
 .rw[O];exact gz O
 .rw[O];exact gD O
def dF(h:At ρ (c sh p.2) b):∃l,b[ρ 0]?=ς (.ins 3 l):=⟨_,h.get (i:=0) rfl⟩
theorem jG(O:G x R sh p)(h:At ρ (c sh p.2) b):F25 [.ref (ρ 0)] b=ς (.g (.bl (rs p)),b):=h.pure (args:=[.ref 0]) (ay _) O.cl (qQ (l:=[])) (uQ O)
def wk(x:Fx)(R:η Rw)(sh:Sh):Nat->PS->Nat×PS
 |0,p=>(0,p)
 |n+1,p=>if rs p then(0,p)else((wk x R sh n (nx x R sh p)).1+1,(wk x R sh n (nx x R sh p)).2)
theorem nU(X:XR x R sh):∀{n f:Nat}{p:PS}{ρ:Nat->Nat}{b:CH}{k m:Int},G x R sh p->p.1+n<400000->At ρ (c sh p.2) b->n<f->m=k+n->∃ ρ' b',whZ (tAn (aZ (e2 .v oLt.g (eV 2) (eV 1))) (tNt (bJ (eMe 3 1 F25 (eV 0) aNl)))) (aj (sDr (eMe 3 1 F50 (eV 0) aNl)) (aj (sAu 2 iAdd.f (eK (.int 1))) ax)) f [ς (.ref (ρ 0)),ς (I m),ς (I k)] b=ς (.nx [ς (.ref (ρ 0)),ς (I m),ς (I (k+(wk x R sh n p).1))] b')/\Mv ρ (c sh p.2) b ρ' (c sh (wk x R sh n p).2.2) b'/\G x R sh (wk x R sh n p).2/\(wk x R sh n p).2.1<=p.1+n
 |0,f+1,p,ρ,b,k,m,W,hN,h,hf,U=>by
  have U:m=k:=‹U›
  subst U;refine⟨ρ,b,?_,.refl h,W,nL _⟩;simp[whZ,tAn,aZ,e2,eV,lent,vw,oLt,qe,fin,T.d,dH,wk]
 |n+1,f+1,p,ρ,b,k,m,W,hN,h,hf,U=>by
  have⟨l,hl⟩:=dF h;have hr:=jG W h;have O:k<m:=by lia
  cases q:rs p with
  |true=>
   rw[q]at hr;have hw:wk x R sh (n+1) p=(0,p):=by unfold wk;rw[q];rfl
   rw[hw];refine⟨ρ,b,?_,.refl h,W,Ξ⟩;rwa[whZ];simp! only[];simp! [O,hl,hr]
  |false=>
   rw[q]at hr
   have hw:wk x R sh (n+1) p=((wk x R sh n (nx x R sh p)).1+1,(wk x R sh n (nx x R sh p)).2):=by show(if rs p then _ else _)=_;rw[q];rfl
   have⟨g1,g2,g3,g4⟩:=zl X W Θ;have⟨ρ1,b1,k1,k2⟩:=g2.mv h;have⟨ρ2,b2,Z,j2,j3,j4⟩:=nU X (n:=n) (f:=f) (k:=k+1) (m:=m) g1 Θ k2.at_ Θ (by rw[U];push_cast;lia);rw[hw];refine⟨ρ2,b2,?_,k2.trans j2,j3,by show(wk x R sh n (nx x R sh p)).2.1<=_;lia⟩;have e:k+1+((wk x R sh n (nx x R sh p)).1:Int)=k+(((wk x R sh n (nx x R sh p)).1+1:Nat):Int):=by push_cast;lia
   rw[k2.zero,e]at Z;have k1':F50 [.ref (ρ 0)] b=ς (.g .non,b1):=k1;rwa[whZ];rwa[tAn,aZ,e2,tNt,bJ,eMe,eV,aNl,kCa,aj,sDr,sAu,eK,ax]at Z ⊢;simp[lent,vw,oLt,qe,fin,T.d,dH,bY,iP,CV.old,O,hl,hr,k1',iAdd]at Z ⊢;exact Z
 |_+1,0,_,_,_,_,_,_,_,_,hf,_=>by lia
 |0,0,_,_,_,_,_,_,_,_,hf,_=>by lia
theorem fV(X:XR x R sh){n:Nat}(W:G x R sh p)(O:p.1+n<400000)(U:n<1100):Rn F51 [.ref 0,I n] (c sh p.2) (.int (wk x R sh n p).1) (c sh (wk x R sh n p).2.2)/\G x R sh (wk x R sh n p).2/\(wk x R sh n p).2.1<=p.1+n:=by have⟨Z,b0,_,_,h3,h4⟩:=nU X (n:=n) (f:=1100) (k:=0) (m:=n) W O (ρ:=λi=>i) .same U Θ;refine⟨λρ b h=>?_,h3,h4⟩;have⟨ρ',b',k1,k2,_,_⟩:=nU X (n:=n) (f:=1100) (k:=0) (m:=n) W O h U Θ;refine⟨ρ',b',?_,k2.at_,k2.zero,k2.fr,k2.sb⟩;rw[q51];refine bm (ah (δ':=[ς (.ref (ρ 0)),ς (I n),ς (I 0)]) rfl (ah k1 (bU (cj ?_ rfl))));simp[eV,lent]
end
abbrev Fl:=Nat×Int
noncomputable def Fl.d(f:Fl):Dt:=.t [.int f.1,.int f.2]
def dv(x:Fx)(R:η Rw)(sh:Sh):Nat->η Fl->PS->Nat×PS
 |m,[],p=>wk x R sh m p
 |m,f::r,p=>if m<f.1 then wk x R sh m p else((wk x R sh f.1 p).1+(dv x R sh (m-f.1) r (fl x R sh f.2 (wk x R sh f.1 p).2)).1,(dv x R sh (m-f.1) r (fl x R sh f.2 (wk x R sh f.1 p).2)).2)
variable{most:Nat}{b1:CH}{a7' a0 a3 a4:ζ CV}
section
variable{x:Fx}{R:η Rw}{sh:Sh}
def pc:Fs:=aj (sIf (aZ (e2 .v oGt.g (e2 .v oAdd.g (eV 3) (eV 5)) (eV 2))) (aj (sRt (e2 .v oAdd.g (eV 4) (eCa 2 F51 (aCn (eV 0) (aCn (e2 .v oSub.g (eV 2) (eV 3)) aNl))))) ax) ax) (aj (sAu 4 iAdd.f (eCa 2 F51 (aCn (eV 0) (aCn (eV 5) aNl)))) (aj (sAu 3 iAdd.f (eV 5)) (aj (sDr (eMe 3 2 F52 (eV 0) (aCn (eV 6) aNl))) ax)))
def zn:Fs:=aj (sRt (e2 .v oAdd.g (eV 4) (eCa 2 F51 (aCn (eV 0) (aCn (e2 .v oSub.g (eV 2) (eV 3)) aNl))))) ax
theorem uR(X:XR x R sh)(hm:most<1100)(fs:Dt):∀{r:η Fl}{m:Nat}{p:PS}{ρ:Nat->Nat}{b:CH}{k:Nat}{u v:ζ CV},(∀f∈r,Vi (.int f.2))->G x R sh p->p.1+m+r.length<400000->m<=most->At ρ (c sh p.2) b->∃ ρ' b',aj (λδ ch=>bE (bnd (.many [5,6])) pc (r.map Fl.d) δ ch) zn [ς (.ref (ρ 0)),ς (.g fs),ς (I most),ς (I (most-m:Nat)),ς (I k),u,v] b=ς (.rt (I (k+(dv x R sh m r p).1:Nat)) b')/\Mv ρ (c sh p.2) b ρ' (c sh (dv x R sh m r p).2.2) b'/\G x R sh (dv x R sh m r p).2/\(dv x R sh m r p).2.1<=p.1+m+r.length
 |[],m,p,ρ,b,k,u,v,hd,hG,hN,hmm,h=>by
  have⟨g1,g2,g3⟩:=fV X (n:=m) hG (by simp at hN;lia) Θ;have⟨ρ1,b1,k1,k2⟩:=g1.mv h;refine⟨ρ1,b1,?_,k2,g2,by show(wk x R sh m p).2.1<=_;simpa using g3⟩;have e:((most:Int)-((most-m:Nat):Int))=(m:Int):=by lia
  have O:F51 [.ref (ρ 0),.g (.int m)] b=ς (I (wk x R sh m p).1,b1):=k1;rwa[qe3,aj,bE,qa0,zn];simp! only[];simp! [e,O,dv]
 |f::r,m,p,ρ,b,k,u,v,hd,hG,hN,hmm,h=>by
  have⟨n,d⟩:=f;rwa[qb6]at hN;have⟨l,hl⟩:=dF h;by_cases hn:m<n
  .have⟨g1,g2,g3⟩:=fV X (n:=m) hG Θ Θ;have⟨ρ1,b1,k1,k2⟩:=g1.mv h;have hw:dv x R sh m ((n,d)::r) p=wk x R sh m p:=if_pos hn;rw[hw];refine⟨ρ1,b1,?_,k2,g2,by simp;lia⟩;have e:((most:Int)-((most-m:Nat):Int))=(m:Int):=by lia
   have O:F51 [.ref (ρ 0),.g (.int m)] b=ς (I (wk x R sh m p).1,b1):=k1;have U:(most:Int)<((most-m:Nat):Int)+(n:Int):=by lia
   rwa[qa2,aj,bE,Fl.d,bnd,gj,pc];simp! only[];simp! [e,O,U]
  .have⟨g1,g2,g3⟩:=fV X (n:=n) hG Θ Θ;have⟨ρ1,b1,k1,k2⟩:=g1.mv h;have⟨f1,f2,f3,f4⟩:=zm (d:=d) (hd _ (.head _)) g2 Θ;have⟨ρ2,b2,j1,j2⟩:=f2.mv k2.at_;have hw:dv x R sh m ((n,d)::r) p=((wk x R sh n p).1+(dv x R sh (m-n) r (fl x R sh d (wk x R sh n p).2)).1,(dv x R sh (m-n) r (fl x R sh d (wk x R sh n p).2)).2):=if_neg hn;have⟨ρ3,b3,i1,i2,i3,i4⟩:=uR X hm fs (r:=r) (m:=m-n) (p:=fl x R sh d (wk x R sh n p).2) (ρ:=ρ2) (b:=b2) (k:=k+(wk x R sh n p).1) (u:=ς (I n)) (v:=ς (I d)) (λf hf=>hd f (.tail _ hf)) f1 Θ Θ j2.at_;rw[hw];clear hw g1 g2 f1 f2 f3;dsimp only;generalize dv x R sh (m-n) r (fl x R sh d (wk x R sh n p).2)=B at*
   generalize fl x R sh d (wk x R sh n p).2=C at*
   generalize wk x R sh n p=A at*
   refine⟨ρ3,b3,?_,k2.trans (j2.trans i2),i3,by rwa[qb6];lia⟩;have O:F51 [.ref (ρ 0),.g (.int n)] b=ς (I A.1,b1):=k1;have j1':F52 [.ref (ρ1 0),.g (.int d)] b1=ς (.g .non,b2):=j1;rw[k2.zero]at j1';rw[j2.zero,k2.zero]at i1;have U:¬ (most:Int)<((most-m:Nat):Int)+(n:Int):=by lia
   have e1:((most-m:Nat):Int)+(n:Int)=((most-(m-n):Nat):Int):=by lia
   have⟨l1,Z⟩:=dF k2.at_;rw[k2.zero]at Z;rw[Nat.add_assoc]at i1;rw[<- i1];rwa[qa2,aj,bE,Fl.d,bnd,gj]
   have W:pc [ς (.ref (ρ 0)),ς (.g fs),ς (I most),ς (I (most-m:Nat)),ς (I k),ς (I n),ς (I d)] b=ς (.nx [ς (.ref (ρ 0)),ς (.g fs),ς (I most),ς (I (most-(m-n):Nat)),ς (I (k+A.1:Nat)),ς (I n),ς (I d)] b2):=by simp! only[pc];simp! [O,U,Z,j1',e1,show(most<most-(m-n))=False from eq_false Θ]
   rwa[List.set_cons_succ,qw5,qa0];have hb':=W;rwa[I]at hb';rwa[hb',qa0]
theorem uS(X:XR x R sh)(O:most<1100){r:η Fl}{p:PS}(Z:∀f∈r,Vi (.int f.2))(hG:G x R sh p)(U:p.1+most+r.length<400000):Rn F53 [.ref 0,.g (.e (r.map Fl.d)),I most] (c sh p.2) (.int (dv x R sh most r p).1) (c sh (dv x R sh most r p).2.2)/\G x R sh (dv x R sh most r p).2/\(dv x R sh most r p).2.1<=p.1+most+r.length:=by have⟨_,_,_,_,h3,h4⟩:=uR X O (.e (r.map Fl.d)) (r:=r) (m:=most) (k:=0) (u:=ψ) (v:=ψ) Z hG U (nL _) (ρ:=λi=>i) .same;refine⟨λρ b h=>?_,h3,h4⟩;have⟨ρ',b',W,k2,_,_⟩:=uR X O (.e (r.map Fl.d)) (r:=r) (m:=most) (k:=0) (u:=ψ) (v:=ψ) Z hG U (nL _) h;refine⟨ρ',b',?_,k2.at_,k2.zero,k2.fr,k2.sb⟩;rw[q53];rw[zg0,qw4]at W;refine bm (ah (δ':=[ς (.ref (ρ 0)),ς (.g (.e (r.map Fl.d))),ς (I most),ς (I 0),ψ,ψ,ψ]) rfl (ah (δ':=[ς (.ref (ρ 0)),ς (.g (.e (r.map Fl.d))),ς (I most),ς (I 0),ς (I 0),ψ,ψ]) rfl ?_));exact W
def bh(x:Fx)(R:η Rw)(sh:Sh):Nat->PS->Nat×PS
 |0,p=>(0,p)
 |n+1,p=>((if rs p then 0 else 1)+(bh x R sh n (nx x R sh p)).1,(bh x R sh n (nx x R sh p)).2)
theorem mj:∀{n:Nat}{p:PS},bh x R sh n p=wk x R sh n p
 |0,_=>rfl
 |n+1,p=>by
  unfold bh wk;cases q:rs p with
  |true=>
   rw[Eg q,mj];cases n with
   |zero=>rfl
   |succ n=>unfold wk;rw[q];rfl
  |false=>rw[mj];simp[zb8]
def iF:Fs:=aj (bC 3 (e2 .v oAdd.g (eV 3) (eB .v bInt.g (aCn (eNt (eMe 3 1 F25 (eV 0) aNl)) aNl)))) (aj (sDr (eMe 3 1 F50 (eV 0) aNl)) ax)
theorem pd(X:XR x R sh){a1 a2 a4 a5 a6:ζ CV}:∀{ds:η Dt}{p:PS}{ρ:Nat->Nat}{b:CH}{k:Nat}{a7:ζ CV},G x R sh p->p.1+ds.length<400000->At ρ (c sh p.2) b->∃ ρ' b' a7',bE (bnd (.one 7)) iF ds [ς (.ref (ρ 0)),a1,a2,ς (I k),a4,a5,a6,a7] b=ς (.nx [ς (.ref (ρ 0)),a1,a2,ς (I (k+(bh x R sh ds.length p).1:Nat)),a4,a5,a6,a7'] b')/\Mv ρ (c sh p.2) b ρ' (c sh (bh x R sh ds.length p).2.2) b'/\G x R sh (bh x R sh ds.length p).2/\(bh x R sh ds.length p).2.1<=p.1+ds.length
 |[],p,ρ,b,k,a7,O,Z,h=>⟨ρ,b,a7,rfl,.refl h,O,nL _⟩
 |d::ds,p,ρ,b,k,a7,O,Z,h=>by
  rwa[qb6]at Z;have⟨l,hl⟩:=dF h;have hr:=jG O h;have⟨g1,g2,g3,g4⟩:=zl X O Θ;have⟨ρ1,b1,k1,k2⟩:=g2.mv h;have⟨ρ2,b2,a7',j1,j2,j3,j4⟩:=pd X (a1:=a1) (a2:=a2) (a4:=a4) (a5:=a5) (a6:=a6) (ds:=ds) (k:=k+(if rs p then 0 else 1)) (a7:=ς (.g d)) g1 Θ k2.at_;have hw:bh x R sh (d::ds).length p=((if rs p then 0 else 1)+(bh x R sh ds.length (nx x R sh p)).1,(bh x R sh ds.length (nx x R sh p)).2):=rfl;rw[hw];refine⟨ρ2,b2,a7',?_,k2.trans j2,j3,by show(bh x R sh ds.length (nx x R sh p)).2.1<=_;rwa[qb6];lia⟩;rw[k2.zero]at j1;have e:k+((if rs p then 0 else 1)+(bh x R sh ds.length (nx x R sh p)).1)=k+(if rs p then 0 else 1)+(bh x R sh ds.length (nx x R sh p)).1:=by lia
  rw[e,<- j1];have W:F50 [.ref (ρ 0)] b=ς (.g .non,b1):=k1
  have U:iF [ς (.ref (ρ 0)),a1,a2,ς (I k),a4,a5,a6,ς (.g d)] b=ς (.nx [ς (.ref (ρ 0)),a1,a2,ς (I (k+(if rs p then 0 else 1):Nat)),a4,a5,a6,ς (.g d)] b1):=by simp! only[iF,eNt];cases q:rs p<;>rw[q]at hr<;>simp! [hl,hr,W,bInt,wz]
  rwa[bE,bnd,List.set_cons_succ,qw5,qa0,U]
def ml:Fs:=aj (lH (iR 1 (aCn (eB .v bMin.g (aCn (eV 5) (aCn (eV 4) aNl))) aNl)) (bnd (.one 7)) iF) (aj (sIf (aZ (e2 .v oGt.g (eV 5) (eV 4))) (aj (sRt (eV 3)) ax) ax) (aj (bC 4 (e2 .v oSub.g (eV 4) (eV 5))) (aj (sDr (eMe 3 2 F52 (eV 0) (aCn (eV 6) aNl))) ax)))
def zo:Fs:=aj (lH (iR 1 (aCn (eV 4) aNl)) (bnd (.one 7)) iF) (aj (sRt (eV 3)) ax)
def bv:(aB 0 n).length=n:=by simp[aB]
def aJ(h:n<1100):eI (n:Int)=θ:=by unfold eI;simp;lia
section
variable{a1 a2 a5 a6 a7:ζ CV}{ρ:Nat->Nat}{b:CH}{k m n:Nat}{d:Int}
def rg_4(O:m<1100)(h:δ[4]?=ς (ς (I m))):iR 1 (aCn (eV 4) aNl) δ b=ς (aB 0 m,b):=di (by simp[aCn,eV,aNl,h,lent]) (aJ O)
theorem uT(U:q<1100)(e:(if(m:Int)<(n:Int)then(m:Int)else(n:Int))=(q:Int))(h4:δ[4]?=ς (ς (I m)))(O:δ[5]?=ς (ς (I n))):iR 1 (aCn (eB .v bMin.g (aCn (eV 5) (aCn (eV 4) aNl))) aNl) δ b=ς (aB 0 q,b):=by
 have:eB .v bMin.g (aCn (eV 5) (aCn (eV 4) aNl)) δ b=ς (I q,b):=by rwa[eB,aCn,eV,aNl,h4,O,lent,kB,qa0,qb0,vws,vw];show((tH [.int n,.int m]).bind _)=_;rwa[tH,e];rfl
 refine di ?_ (aJ U);show(eB .v bMin.g (aCn (eV 5) (aCn (eV 4) aNl)) δ b).bind _=_;rw[this];rfl
theorem Eh(O:m<1100)(U:m<n)(h:bE (bnd (.one 7)) iF (aB 0 m) [ς (.ref (ρ 0)),a1,a2,ς (I k),ς (I m),ς (I n),ς (I d),a7] b=ς (.nx [ς (.ref (ρ 0)),a1,a2,ς (I q),ς (I m),ς (I n),ς (I d),a7'] b1)):ml [ς (.ref (ρ 0)),a1,a2,ς (I k),ς (I m),ς (I n),ς (I d),a7] b=ς (.rt (I q) b1):=by unfold ml;refine ah (bz (uT O (by split<;>lia) rfl rfl) h) ?_;clear h;simp! only[];simp! [U]
theorem Ei{b2:CH}{l1:η CV}(O:n<1100)(U:¬ m<n)(h:bE (bnd (.one 7)) iF (aB 0 n) [ς (.ref (ρ 0)),a1,a2,ς (I k),ς (I m),ς (I n),ς (I d),a7] b=ς (.nx [ς (.ref (ρ 0)),a1,a2,ς (I q),ς (I m),ς (I n),ς (I d),a7'] b1))(hl:b1[ρ 0]?=ς (.ins 3 l1))(W:F52 [.ref (ρ 0),.g (.int d)] b1=ς (.g .non,b2)):ml [ς (.ref (ρ 0)),a1,a2,ς (I k),ς (I m),ς (I n),ς (I d),a7] b=ς (.nx [ς (.ref (ρ 0)),a1,a2,ς (I q),ς (I (m-n:Nat)),ς (I n),ς (I d),a7'] b2):=by
 have Z:(m:Int)-(n:Int)=((m-n:Nat):Int):=by lia
 unfold ml;refine ah (bz (uT O (by split<;>lia) rfl rfl) h) ?_;clear h;simp! only[];simp! [U,Z,hl,W]
def uU{f:Fl}:bnd (.many [5,6]) f.d [a0,a1,a2,a3,a4,a5,a6,a7]=ς [a0,a1,a2,a3,a4,ς (I f.1),ς (I f.2),a7]:=rfl
end
theorem Cg(X:XR x R sh){a1 a2:ζ CV}(r:η Fl):∀{m:Nat}{p:PS}{ρ:Nat->Nat}{b:CH}{k:Nat}{a5 a6 a7:ζ CV},m<1100->(∀f∈r,Vi (.int f.2))->G x R sh p->p.1+m+r.length<400000->At ρ (c sh p.2) b->∃ ρ' b',aj (λδ ch=>bE (bnd (.many [5,6])) ml (r.map Fl.d) δ ch) zo [ς (.ref (ρ 0)),a1,a2,ς (I k),ς (I m),a5,a6,a7] b=ς (.rt (I (k+(dv x R sh m r p).1:Nat)) b')/\Mv ρ (c sh p.2) b ρ' (c sh (dv x R sh m r p).2.2) b':=by
 induction r with
 |nil=>intro m p ρ b k a5 a6 a7 hm hd hG hN h;have⟨ρ1,b1,a7',O,k2,g2,g3⟩:=pd X (a1:=a1) (a2:=a2) (a4:=ς (I m)) (a5:=a5) (a6:=a6) (ds:=aB 0 m) (k:=k) (a7:=a7) hG (by rw[bv];simp at hN;lia) h;rw[bv,mj]at O k2;refine⟨ρ1,b1,?_,k2⟩;refine ah (δ':=[ς (.ref (ρ 0)),a1,a2,ς (I k),ς (I m),a5,a6,a7]) (ch1:=b) (qe3 (f:=Fl.d)▸rfl) ?_;unfold zo;exact ah (bz (rg_4 hm rfl) O) (bU (cj rfl rfl))
 |cons f r ih=>
  intro m p ρ b k a5 a6 a7 hm hd hG hN h;have⟨n,d⟩:=f;rwa[qb6]at hN;by_cases Z:m<n
  .have hw:dv x R sh m ((n,d)::r) p=wk x R sh m p:=if_pos Z;have⟨ρ1,b1,a7',O,k2,g2,g3⟩:=pd X (a1:=a1) (a2:=a2) (a4:=ς (I m)) (a5:=ς (I n)) (a6:=ς (I d)) (ds:=aB 0 m) (k:=k) (a7:=a7) hG (by rw[bv];lia) h;rw[bv,mj]at O k2;rw[hw];exact⟨ρ1,b1,bU (BY uU (Eh hm Z O)),k2⟩
  .have⟨ρ1,b1,a7',O,k2,g2,g3⟩:=pd X (a1:=a1) (a2:=a2) (a4:=ς (I m)) (a5:=ς (I n)) (a6:=ς (I d)) (ds:=aB 0 n) (k:=k) (a7:=a7) hG (by rw[bv];lia) h;rw[bv,mj]at O k2 g2 g3;have⟨f1,f2,f3,f4⟩:=zm (d:=d) (hd _ (.head _)) g2 Θ;have⟨ρ2,b2,j1,j2⟩:=f2.mv k2.at_;have hw:dv x R sh m ((n,d)::r) p=((wk x R sh n p).1+(dv x R sh (m-n) r (fl x R sh d (wk x R sh n p).2)).1,(dv x R sh (m-n) r (fl x R sh d (wk x R sh n p).2)).2):=if_neg Z;have⟨ρ3,b3,i1,i2⟩:=ih (m:=m-n) (p:=fl x R sh d (wk x R sh n p).2) (ρ:=ρ2) (b:=b2) (k:=k+(wk x R sh n p).1) (a5:=ς (I n)) (a6:=ς (I d)) (a7:=a7') Θ (λf hf=>hd f (.tail _ hf)) f1 Θ j2.at_;rw[hw];refine⟨ρ3,b3,?_,k2.trans (j2.trans i2)⟩;have W:F52 [.ref (ρ1 0),.g (.int d)] b1=ς (.g .non,b2):=j1;rw[k2.zero]at W;rw[j2.zero,k2.zero]at i1;have⟨l1,U⟩:=dF k2.at_;rw[k2.zero]at U;have e3:k+(wk x R sh n p).1+(dv x R sh (m-n) r (fl x R sh d (wk x R sh n p).2)).1=k+((wk x R sh n p).1+(dv x R sh (m-n) r (fl x R sh d (wk x R sh n p).2)).1):=by lia
   rw[e3]at i1;rw[<- i1];unfold aj;dsimp only;rw[qa2,cG uU (Ei Θ Z O U W)]
theorem x9(X:XR x R sh)(U:most<1100){r:η Fl}{p:PS}(Z:∀f∈r,Vi (.int f.2))(hG:G x R sh p)(W:p.1+most+r.length<400000):Rn F55 [.ref 0,.g (.e (r.map Fl.d)),I most] (c sh p.2) (.int (dv x R sh most r p).1) (c sh (dv x R sh most r p).2.2):=λρ b h=>by have⟨ρ',b',O,k2⟩:=Cg X (a1:=ς (.g (.e (r.map Fl.d)))) (a2:=ς (I most)) r (m:=most) (k:=0) (a5:=ψ) (a6:=ψ) (a7:=ψ) U Z hG W h;refine⟨ρ',b',?_,k2.at_,k2.zero,k2.fr,k2.sb⟩;rw[q55];rw[qw4]at O;exact bm (ah (δ':=[ς (.ref (ρ 0)),ς (.g (.e (r.map Fl.d))),ς (I most),ς (I 0),ψ,ψ,ψ,ψ]) rfl (ah (δ':=[ς (.ref (ρ 0)),ς (.g (.e (r.map Fl.d))),ς (I most),ς (I 0),ς (I most),ψ,ψ,ψ]) rfl O))
end
noncomputable def az:Nat->Dt->Bool
 |_,.non|_,.bl _|_,.int _|_,.str _=>θ
 |k+1,.t l=>l.all (az k)
 |k+1,.e l=>l.all (az k)
 |_,_=>ξ
omit x in
def nV:∀{k:Nat}{d:Dt},az k d=θ->bM d d=θ/\cW d<=k:=by
 have e:∀{k:Nat}{l:η Dt},(∀d∈l,bM d d=θ/\cW d<=k)->cmpbs l l=θ/\deeps l<=k:=λ{k l}=>by
  induction l with
  |nil=>intro _;exact⟨rfl,qh2 _⟩
  |cons d l O=>
   intro h;have h1:=O λe W=>h e (.tail _ W)
   have h2:=h d (.head _);exact⟨by simp[cmpbs,h1.1,h2.1],by simp[deeps];lia⟩
 intro k;induction k with
 |zero=>intro d h;cases d<;>first|(cases h;done)|exact⟨rfl,qh2 _⟩
 |succ k O=>
  intro d h;cases d<;>try(cases h;done)
  case t l=>have:=e λd U=>O (qb9.mp h d U);exact⟨this.1,by simp[cW];lia⟩
  case e l=>have:=e λd U=>O (qb9.mp h d U);exact⟨this.1,by simp[cW];lia⟩
  all_goals exact⟨rfl,qh2 _⟩
def jH:peqs l l=θ:=cV (.e l)
omit x in
def pe{d:Dt}(h:az 20 d=θ):eqD d d=ς θ:=by
 have:=nV h;cases d<;>first|(cases h;done)|rfl|skip
 all_goals first
  |(simp[wx,eqds,eqdb,eqdn];done)
  |skip
 case t l=>
  have h1:cmpbs l l=θ:=this.1;have h2:deeps l<=59:=by have:deeps l+1<=20:=this.2;lia
  simp[eqdt,eqdl,h1,h2,jH]
 case e l=>
  have h1:cmpbs l l=θ:=this.1;have h2:deeps l<=59:=by have:deeps l+1<=20:=this.2;lia
  simp[eqdt,eqdl,h1,h2,jH]
def uV{d:Dt}(h:az 20 d=θ):oNe.g d d=ς (.f (.bl ξ)):=by show gEq θ d d=_;unfold gEq;rw[pe h];rfl
def mn{d:Dt}(h:az 20 d=θ):oEq.g d d=ς (.f (.bl θ)):=by show gEq ξ d d=_;unfold gEq;rw[pe h];rfl
theorem ph:∀{l m:η Nat},l.Nodup->(∀i∈l,i∈m)->l.length<=m.length
 |[],_,_,_=>qh2 _
 |i::l,m,W,h=>by
  have O:=qd7.mp W;have hi:=h i (.head _);have:=ph (m:=m.erase i) O.2 λj U=>(List.mem_erase_of_ne (λe=>O.1 (by rw[<- e];exact U))).mpr (h j (.tail _ U))
  rw[List.length_erase_of_mem hi]at this;have:0<m.length:=List.length_pos_of_mem hi;simp;lia
section
variable{x:Fx}{R:η Rw}{sh:Sh}{N:Nat}{S:HS}{lo:ζ LS}{tl:CH}{P:η Sm}{b0 b1:η Bx}
theorem ya(o:Ok x R sh N S lo tl P b0 b1){w:Int}(W:w=0\/w=1):∃d,az 20 d=θ/\F19 [.ref 0,I w] (hc sh S lo tl)=ς (.g d,hc sh S lo tl):=by
 have bx:∀bs:η Bx,az 10 (.e (bs.map Bx.d))=θ:=λbs=>qb9.mpr λd U=>by have⟨b,_,rfl⟩:=qc8.mp U;rfl
 have tn:∀ts:η Tn,az 10 (.e (ts.map Tn.d))=θ:=λbs=>qb9.mpr λd U=>by have⟨b,_,rfl⟩:=qc8.mp U;rfl
 have up:∀l,az 10 (.e l)=θ->az 19 (.e l)=θ:=λl=>by
  have mono:∀{k:Nat}{d:Dt},az k d=θ->az (k+1) d=θ:=λ{k}=>by
   induction k with
   |zero=>intro d h;cases d<;>first|(cases h;done)|rfl
   |succ k ih=>intro d h;cases d<;>first|(cases h;done)|rfl|exact qb9.mpr λe Z=>ih (qb9.mp h e Z)
  exact λh=>mono (mono (mono (mono (mono (mono (mono (mono (mono h))))))))
 rcases W with rfl|rfl
 .have⟨i,b,c,d,e,_⟩:=o.p0.hd;have⟨ts,O,_⟩:=o.p0.pt;have:=uz (S:=S) (lv:=lvO lo) (rf:=aa (off lo) sh) (tl:=ao lo tl) o.p0.len;refine⟨.t (S.h0++[.e S.pb0,.e S.pt0]),?_,?_⟩
  rotate_left
  .exact xR (.v 0 this .nil)
  .rw[e,o.p0.pb,O];rwa[az,ql3,qh9,qc7,qo7,qj9,qr9];rw[qa1];exact⟨up _ (bx _),up _ (tn _)⟩
 .have⟨i,b,c,d,e,_⟩:=o.p1.hd;have⟨ts,O,_⟩:=o.p1.pt;have:=uA (S:=S) (lv:=lvO lo) (rf:=aa (off lo) sh) (tl:=ao lo tl) o.p1.len;refine⟨.t (S.h1++[.e S.pb1,.e S.pt1]),?_,?_⟩
  rotate_left
  .exact xR (.v 0 this .nil)
  .rw[e,o.p1.pb,O];rwa[az,ql3,qh9,qc7,qo7,qj9,qr9];rw[qa1];exact⟨up _ (bx _),up _ (tn _)⟩
def yb:F21 [.ref 0] (hc sh S lo tl)=ς (I S.cnt,hc sh S lo tl):=rfl
def qR:F24 [.ref 0] (hc sh S lo tl)=ς (.g S.res,hc sh S lo tl):=rfl
def yc:F65 [.ref 0] (hc sh S lo tl)=ς (.g (.bl S.unl),hc sh S lo tl):=rfl
theorem yd(Z:(sh.map (·.1)).Nodup)(o:Ok x R sh N S lo tl P b0 b1){n:Str}(hp:Vp sh n 0):∃d,az 20 d=θ/\F59 [.ref 0,.g (.str n)] (hc sh S lo tl)=ς (.g d,hc sh S lo tl):=by
 have⟨k,m,h1,h2⟩:=hp;have⟨L,W,h4,O⟩:=o.tl.at_ h1;have h6:lkC (aa (off lo) sh) (.inr n)=ς (.ref (k+(off lo-13)+13)):=by rw[dE Z h1];have:=fR (lo:=lo);congr 2;lia
 have h7:(ao lo tl)[k+(off lo-13)]?=ς (dl L):=by rw[kX];exact W
 obtain⟨d,L',rfl⟩:∃d L',L=d::L':=by cases L with|nil=>simp at h4;lia|cons d L'=>exact⟨d,L',rfl⟩
 have⟨i,rfl,_⟩:=O d (.head _)
 have U:F58 [.ref 1,.g (.str n)] (hb S (lvO lo) (aa (off lo) sh) (ao lo tl))=ς (I i,hb S (lvO lo) (aa (off lo) sh) (ao lo tl)):=by exact xR (.c 0 (show ixV (hb S (lvO lo) (aa (off lo) sh) (ao lo tl)) (.ref 4) (.str n)=ς (.ref (k+(off lo-13)+13))from h6) (.c 0 (ixL (ch:=hb S (lvO lo) (aa (off lo) sh) (ao lo tl)) (i:=k+(off lo-13)+13) (p:=0) (L:=.int i::L') (hb_t.trans h7) Ξ) .nil))
 refine⟨.int i,rfl,?_⟩;exact xR (.v 0 U .nil)
theorem uW(Z:(sh.map (·.1)).Nodup)(o:Ok x R sh N S lo tl P b0 b1){n:Str}(hp:Vp sh n 0):∃d,az 20 d=θ/\F61 [.ref 0,.g (.str n)] (hc sh S lo tl)=ς (.g d,hc sh S lo tl):=by
 have⟨k,m,h1,h2⟩:=hp;have⟨L,W,h4,O⟩:=o.tl.at_ h1;have h6:lkC (aa (off lo) sh) (.inr n)=ς (.ref (k+(off lo-13)+13)):=by rw[dE Z h1];have:=fR (lo:=lo);congr 2;lia
 have h7:(ao lo tl)[k+(off lo-13)]?=ς (dl L):=by rw[kX];exact W
 have U:F60 [.ref 1,.g (.str n)] (hb S (lvO lo) (aa (off lo) sh) (ao lo tl))=ς (.g (.e L),hb S (lvO lo) (aa (off lo) sh) (ao lo tl)):=by exact xR (.c 0 (show ixV (hb S (lvO lo) (aa (off lo) sh) (ao lo tl)) (.ref 4) (.str n)=ς (.ref (k+(off lo-13)+13))from h6) (.d 0 (vl (ch:=hb S (lvO lo) (aa (off lo) sh) (ao lo tl)) (i:=k+(off lo-13)+13) (L:=L) (hb_t.trans h7)) .nil))
 refine⟨.e L,qb9.mpr λd hd=>(by have⟨i,rfl,_⟩:=O d hd;rfl),?_⟩;exact xR (.v 0 U .nil)
theorem fW(o:Ok x R sh N S lo tl P b0 b1):F62 [.ref 0] (hc sh S lo tl)=ς (.g .non,hc sh S lo tl)\/∃l,lo=ς l/\F62 [.ref 0] (hc sh S lo tl)=ς (I l.pl,hc sh S lo tl):=by
 rcases o.rs with O|⟨i,O⟩
 .have h1:=gz (S:=S) (lv:=lvO lo) (rf:=aa (off lo) sh) (tl:=ao lo tl) O;cases P with
  |nil=>have hi:lo.isSome=θ:=o.ok;have⟨l,rfl⟩:=qe9.mp hi;have hp:S.plan=[]:=o.pl;refine .inr ⟨l,rfl,?_⟩;show F62 [.ref 0] (hl S l (aa 16 sh) tl)=ς (I l.pl,hl S l (aa 16 sh) tl);have U:F25 [.ref 0] (hl S l (aa 16 sh) tl)=ς (.g (.bl ξ),hl S l (aa 16 sh) tl):=h1;exact xR (.v 0 U (.d 0 (vl (ch:=hl S l (aa 16 sh) tl) (i:=3) (L:=S.plan) rfl) (.t 1 (show oGt.g (.int S.plan.length) (.int 0)=ς (.f (.bl ξ))by rw[hp];rfl) .nil)))
  |cons s P=>obtain⟨d,L,hp⟩:∃d L,S.plan=d::L:=⟨_,_,o.pl⟩;left;exact xR (.v 0 h1 (.d 0 (vl (ch:=hc sh S lo tl) (i:=3) (L:=S.plan) rfl) (.t 1 (show oGt.g (.int S.plan.length) (.int 0)=ς (.f (.bl θ))by rw[hp];show ς (T.f (.bl (decide _)))=_;rw[decide_eq_true (by first|lia|simp)]) .nil)))
 .have h1:=gD (S:=S) (lv:=lvO lo) (rf:=aa (off lo) sh) (tl:=ao lo tl) O;left;exact xR (.v 0 h1 .nil)
def uX(o:Ok x R sh N S lo tl P b0 b1):∃d,az 20 d=θ/\F63 [.ref 0] (hc sh S lo tl)=ς (.g d,hc sh S lo tl):=by
 rcases fW o with h|⟨l,rfl,h⟩
 .have O:=kM (S:=S) (lv:=lvO lo) (rf:=aa (off lo) sh) (tl:=ao lo tl) o.p0.len o.p1.len o.ct
  have:∃(i:Int)(a:Dt)(L:η Dt),pgD S=a::.int i::L:=by
   unfold pgD;split
   .have⟨i,b,c,d,e,_⟩:=o.p0.hd;exact⟨b,_,_,by rw[e];rfl⟩
   .have⟨i,b,c,d,e,_⟩:=o.p1.hd;exact⟨b,_,_,by rw[e];rfl⟩
  have⟨i,a,L,e⟩:=this;rw[e]at O;refine⟨.int i,rfl,?_⟩;exact xR (.v 0 h (.v 1 O (.c 0 (show ixV (hc sh S lo tl) (.g (.t (a::.int i::L))) (.int 1)=ς (I i)by show(ixD _ _).map CV.g=_;simp[ixD,bQ,gIx,atI,ixN,show(1:Int)<(L.length:Int)+1+1 by lia]) .nil)))
 .refine⟨.int l.dn,rfl,?_⟩;have h':F62 [.ref 0] (hl S l (aa 16 sh) tl)=ς (I l.pl,hl S l (aa 16 sh) tl):=h;show F63 [.ref 0] (hl S l (aa 16 sh) tl)=ς (I l.dn,hl S l (aa 16 sh) tl);exact xR (.v 0 h' .nil)
def Ch(o:Ok x R sh N S lo tl P b0 b1)(n:Str):∃i:Int,F66 [.ref 0,.g (.str n)] (hc sh S lo tl)=ς (I i,hc sh S lo tl):=by
 rcases fW o with h|⟨l,rfl,h⟩
 .refine⟨0,?_⟩;exact xR (.v 0 h .nil)
 .have⟨O,_⟩:=o.lo l rfl;have⟨v,_,h1⟩:=bV (S:=S) (rf:=aa 16 sh) (tl:=tl) O.du O.bx (.inr n) (.inr ⟨n,rfl⟩);rwa[aw]at h1;refine⟨v,?_⟩;have h':F62 [.ref 0] (hl S l (aa 16 sh) tl)=ς (I l.pl,hl S l (aa 16 sh) tl):=h;show F66 [.ref 0,.g (.str n)] (hl S l (aa 16 sh) tl)=ς (I v,hl S l (aa 16 sh) tl);exact xR (.v 0 h' (.v 0 h1 .nil))
theorem ye(hf:FOk N S.fst)(h2:ch[2]?=ς (.ins 0 [.ref 8,.g (.bl S.unl)]))(h8:ch[8]?=ς (.dK (dp S.fst))):∀{f:Nat}{l:η Dt},(∀d∈l,Vi d)->(∀i,i<l.length->(av (S.fst.map (·.1)) (S.fst.map (·.2)) (qn8 (i:Int))).isSome=θ)->S.fst.length<l.length+f->S.fst.length<qa4->∃l',(∀d∈l',Vi d)/\whZ (aZ (e2 .v oIn.g (eB .v bLen.g (aCn (eV 1) aNl)) (eAt 0 0 (eV 0)))) (aj (sAs 1 (eIx (eAt 0 0 (eV 0)) (eB .v bLen.g (aCn (eV 1) aNl)))) ax) f [ς (.ref 2),ς (.own θ (.e l))] ch=ς (.nx [ς (.ref 2),ς (.own θ (.e l'))] ch):=by
 have O:∀l:η Dt,(∀i,i<l.length->(av (S.fst.map (·.1)) (S.fst.map (·.2)) (qn8 (i:Int))).isSome=θ)->l.length<=S.fst.length:=λl h=>by
  have:=ph (l:=qd8 l.length) (m:=S.fst.map λp=>match p.1 with|.inl i=>i.toNat|.inr _=>0) qn4 λi hi=>by have⟨d,hd⟩:=qe9.mp (h i (qf0.mp hi));exact qc8.mpr ⟨_,aW hd,Ξ⟩
  simpa using this
 intro f;induction f with
 |zero=>intro l _ h hl;have:=O l h;lia
 |succ f ih=>
  intro l hv h hl hz;cases q:av (S.fst.map (·.1)) (S.fst.map (·.2)) (qn8 (l.length:Int))with
  |none=>
   refine⟨l,hv,?_⟩
   have U:aZ (e2 .v oIn.g (eB .v bLen.g (aCn (eV 1) aNl)) (eAt 0 0 (eV 0))) [ς (.ref 2),ς (.own θ (.e l))] ch=ς (ξ,ch):=by simp! only[];simp! [h2,h8,oIn,gIn,inD,kx,cI,cH,q]
   unfold whZ;rw[U,qa0];rfl
  |some d=>
   have hd:=(hf.all _ (aW q)).2
   have U:aZ (e2 .v oIn.g (eB .v bLen.g (aCn (eV 1) aNl)) (eAt 0 0 (eV 0))) [ς (.ref 2),ς (.own θ (.e l))] ch=ς (θ,ch):=by simp! only[];simp! [h2,h8,oIn,gIn,inD,kx,cI,cH,q]
   have Z:l.length<qa4:=qe4 (O l h) hz
   have hb':aj (sAs 1 (eIx (eAt 0 0 (eV 0)) (eB .v bLen.g (aCn (eV 1) aNl)))) ax [ς (.ref 2),ς (.own θ (.e l))] ch=ς (.nx [ς (.ref 2),ς (.own θ (.e (l++[d])))] ch):=by rw[qb7]at Z;simp! only[sAs];simp! [h2,h8,iz,q,c9,Bn,Z]
   have hl1:(l++[d]).length=l.length+1:=by simp
   have⟨l',h3,h4⟩:=ih (l:=l++[d]) (λe W=>by rcases qf7.mp W with W|W;exact hv e W;simp at W;subst W;exact hd) (λi hi=>by
    rw[hl1]at hi;rcases qk1 i l.length with hi'|hi'
    .exact h i hi'
    .obtain rfl:i=l.length:=by lia
     rw[q];rfl) (by rw[hl1];lia) hz
   refine⟨l',h3,?_⟩;unfold whZ;rw[U,qa0];show((aj _ ax _ ch).bind _)=_;rw[hb',qa0];exact h4
def nW(o:Ok x R sh N S lo tl P b0 b1)(W:N<1100):∃d,az 20 d=θ/\F57 [.ref 0] (hc sh S lo tl)=ς (.g d,hc sh S lo tl):=by
 have⟨l,h1,h2⟩:=ye (S:=S) (ch:=hb S (lvO lo) (aa (off lo) sh) (ao lo tl)) o.ft hb_2 hb_8 (f:=1100) (l:=[]) Ξ Ξ (by have:=o.ft.len;simp;lia) (by have:=o.ft.len;rw[qb7];lia)
 have U:F56 [.ref 2] (hb S (lvO lo) (aa (off lo) sh) (ao lo tl))=ς (.g (.e l),hb S (lvO lo) (aa (off lo) sh) (ao lo tl)):=by rw[q56];refine bm (ah (δ':=[ς (.ref 2),ς (.own θ (.e []))]) rfl (ah h2 ?_));rfl
 refine⟨.e l,qb9.mpr λd O=>(by have⟨i,rfl,_⟩:=h1 d O;rfl),?_⟩;unfold hc;exact xR (.v 0 U .nil)
end
abbrev Hd:=Str×Int×Bool
noncomputable def Hd.d(h:Hd):Dt:=.t [.str h.1,.int h.2.1,.bl h.2.2]
variable{ss:η Hd}
section
variable{x:Fx}{R:η Rw}{sh:Sh}{p:PS}{b:CH}
theorem uY{F:Fd}{i:Nat}{fs:FM (η CV)}{as:η Dt}{d:Dt}(W:TrD F)(Z:G x R sh p)(h:At ρ (c sh p.2) b)(hδ:δ[i]?=ς (ς (.ref (ρ 0))))(hs:fs δ b=ς (as.map .g,b))(O:n=as.length+1)(U:F (.ref 0::as.map .g) (c sh p.2)=ς (.g d,c sh p.2)):eMe 3 n F (eV i) fs δ b=ς (.g d,b):=by
 have⟨l,hl⟩:=dF h;have:=h.pure W Z.cl (qQ (l:=as)) U;have e:rnA ρ (.ref 0::as.map .g)=.ref (ρ 0)::as.map .g:=by simp[rn,qb2]
 rw[e]at this;unfold eMe eV kCa;rw[hδ];rwa[lent,qa0,hl,if_true,hs];rw[if_pos ⟨by simp[O],by simp[CV.old]⟩];exact this
theorem yf{fa fb:Fg}{d:Dt}(O:fa δ b=ς (.g d,b))(hb:fb δ b=ς (.g d,b))(hp:az 20 d=θ):aZ (e2 .v oNe.g fa fb) δ b=ς (ξ,b):=by unfold aZ;rw[cL O hb rfl rfl (uV hp)];rfl
def pi{f g:FM Bool}(h1:f δ b=ς (ξ,b))(h2:g δ b=ς (ξ,b)):iS f g δ b=ς (ξ,b):=by unfold iS;rw[h1,qa0];exact h2
def mo{f:FM Bool}{g:Fs}(h1:f δ b=ς (ξ,b)):sIf f g ax δ b=ς (.nx δ b):=by unfold sIf;rw[h1,qa0];rfl
theorem yg{ρ1 ρ2:Nat->Nat}{cs:η Hd}{rw:Dt}{ns:η Str}(X:XR x R sh)(hG:G x R sh p)(hN:p.1<1100)(h1:At ρ1 (c sh p.2) b)(h2:At ρ2 (c sh p.2) b)(hc1:∀h∈cs,Vp sh h.1 0)(hs1:∀h∈ss,Vp sh h.1 0)(hl:ns.length<1000):F67 [.ref (ρ1 0),.ref (ρ2 0),.g (.t [.t (cs.map Hd.d),.t (ss.map Hd.d),rw]),.g (.e (ns.map .str))] b=ς (.g (.bl θ),b):=by
 have⟨P,b0,b1,o⟩:=id hG;have one:∀{F:Fd}{n:Nat}{fs:FM (η CV)}{as:η Dt}{d:Dt}{δ:Sl},TrD F->fs δ b=ς (as.map .g,b)->n=as.length+1->F (.ref 0::as.map .g) (c sh p.2)=ς (.g d,c sh p.2)->az 20 d=θ->δ[0]?=ς (ς (.ref (ρ1 0)))->δ[1]?=ς (ς (.ref (ρ2 0)))->aZ (e2 .v oNe.g (eMe 3 n F (eV 0) fs) (eMe 3 n F (eV 1) fs)) δ b=ς (ξ,b):=λhF hs hn hr hp e0 e1=>yf (uY hF hG h1 e0 hs hn hr) (uY hF hG h2 e1 hs hn hr) hp
 have hcl:∀{as:η Dt},True:=trivial;rw[q67]
 -- the pages
 have l1:∀{ws:η Int}{a4 a5 a6 a7 a8:ζ CV},(∀w∈ws,w=0\/w=1)->∃U,bE (bnd (.one 4)) (aj (sIf (aZ (e2 .v oNe.g (eMe 3 2 F19 (eV 0) (aCn (eV 4) aNl)) (eMe 3 2 F19 (eV 1) (aCn (eV 4) aNl)))) (aj (sRt (eK (.bl ξ))) ax) ax) ax) (ws.map .int) [ς (.ref (ρ1 0)),ς (.ref (ρ2 0)),ς (.g (.t [.t (cs.map Hd.d),.t (ss.map Hd.d),rw])),ς (.g (.e (ns.map .str))),a4,a5,a6,a7,a8] b=ς (.nx [ς (.ref (ρ1 0)),ς (.ref (ρ2 0)),ς (.g (.t [.t (cs.map Hd.d),.t (ss.map Hd.d),rw])),ς (.g (.e (ns.map .str))),U,a5,a6,a7,a8] b):=λ{ws}=>by
  induction ws with
  |nil=>intro a4 a5 a6 a7 a8 _;exact⟨a4,rfl⟩
  |cons w ws Z=>
   intro a4 a5 a6 a7 a8 hw;have⟨d,hp,hr⟩:=ya o (hw w (.head _));have⟨U,h⟩:=Z (a4:=ς (I w)) (a5:=a5) (a6:=a6) (a7:=a7) (a8:=a8) λv hv=>hw v (.tail _ hv)
   refine⟨U,?_⟩;exact qz2 (cG (δ':=[ς (.ref (ρ1 0)),ς (.ref (ρ2 0)),ς (.g (.t [.t (cs.map Hd.d),.t (ss.map Hd.d),rw])),ς (.g (.e (ns.map .str))),ς (I w),a5,a6,a7,a8]) rfl (ah (mo (one (F:=F19) (as:=[.int w]) (ay _) rfl rfl hr hp rfl rfl)) rfl)) h
 have l2:∀{hs:η Hd}{a4 a5 a6 a7 a8:ζ CV},(∀h∈hs,Vp sh h.1 0)->∃O W a7',bE (bnd (.many [5,6,7])) (aj (sIf (aZ (e2 .v oNe.g (eMe 3 2 F59 (eV 0) (aCn (eV 5) aNl)) (eMe 3 2 F59 (eV 1) (aCn (eV 5) aNl)))) (aj (sRt (eK (.bl ξ))) ax) ax) ax) (hs.map Hd.d) [ς (.ref (ρ1 0)),ς (.ref (ρ2 0)),ς (.g (.t [.t (cs.map Hd.d),.t (ss.map Hd.d),rw])),ς (.g (.e (ns.map .str))),a4,a5,a6,a7,a8] b=ς (.nx [ς (.ref (ρ1 0)),ς (.ref (ρ2 0)),ς (.g (.t [.t (cs.map Hd.d),.t (ss.map Hd.d),rw])),ς (.g (.e (ns.map .str))),a4,O,W,a7',a8] b):=λ{hs}=>by
  induction hs with
  |nil=>intro a4 a5 a6 a7 a8 _;exact⟨a5,a6,a7,rfl⟩
  |cons h hs Z=>
   intro a4 a5 a6 a7 a8 hw;have⟨d,hp,hr⟩:=yd X.X.nd o (hw h (.head _));have⟨O,W,a7',hh⟩:=Z (a4:=a4) (a5:=ς (.g (.str h.1))) (a6:=ς (I h.2.1)) (a7:=ς (.g (.bl h.2.2))) (a8:=a8) λv hv=>hw v (.tail _ hv)
   refine⟨O,W,a7',?_⟩;exact qz2 (cG (δ':=[ς (.ref (ρ1 0)),ς (.ref (ρ2 0)),ς (.g (.t [.t (cs.map Hd.d),.t (ss.map Hd.d),rw])),ς (.g (.e (ns.map .str))),a4,ς (.g (.str h.1)),ς (I h.2.1),ς (.g (.bl h.2.2)),a8]) rfl (ah (mo (one (F:=F59) (as:=[.str h.1]) (ay _) rfl rfl hr hp rfl rfl)) rfl)) hh
 have l3:∀{hs:η Hd}{a4 a5 a6 a7 a8:ζ CV},(∀h∈hs,Vp sh h.1 0)->∃O a7' a8',bE (bnd (.many [5,8,7])) (aj (sIf (aZ (e2 .v oNe.g (eMe 3 2 F61 (eV 0) (aCn (eV 5) aNl)) (eMe 3 2 F61 (eV 1) (aCn (eV 5) aNl)))) (aj (sRt (eK (.bl ξ))) ax) ax) ax) (hs.map Hd.d) [ς (.ref (ρ1 0)),ς (.ref (ρ2 0)),ς (.g (.t [.t (cs.map Hd.d),.t (ss.map Hd.d),rw])),ς (.g (.e (ns.map .str))),a4,a5,a6,a7,a8] b=ς (.nx [ς (.ref (ρ1 0)),ς (.ref (ρ2 0)),ς (.g (.t [.t (cs.map Hd.d),.t (ss.map Hd.d),rw])),ς (.g (.e (ns.map .str))),a4,O,a6,a7',a8'] b):=λ{hs}=>by
  induction hs with
  |nil=>intro a4 a5 a6 a7 a8 _;exact⟨a5,a7,a8,rfl⟩
  |cons h hs Z=>
   intro a4 a5 a6 a7 a8 hw;have⟨d,hp,hr⟩:=uW X.X.nd o (hw h (.head _));have⟨O,W,a7',hh⟩:=Z (a4:=a4) (a5:=ς (.g (.str h.1))) (a6:=a6) (a7:=ς (.g (.bl h.2.2))) (a8:=ς (I h.2.1)) λv hv=>hw v (.tail _ hv)
   refine⟨O,W,a7',?_⟩;exact qz2 (cG (δ':=[ς (.ref (ρ1 0)),ς (.ref (ρ2 0)),ς (.g (.t [.t (cs.map Hd.d),.t (ss.map Hd.d),rw])),ς (.g (.e (ns.map .str))),a4,ς (.g (.str h.1)),a6,ς (.g (.bl h.2.2)),ς (I h.2.1)]) rfl (ah (mo (one (F:=F61) (as:=[.str h.1]) (ay _) rfl rfl hr hp rfl rfl)) rfl)) hh
 have⟨U,g1⟩:=l1 (ws:=[0,1]) (a4:=ψ) (a5:=ψ) (a6:=ψ) (a7:=ψ) (a8:=ψ) Ξ;have⟨c5,c6,c7,g2⟩:=l2 (hs:=cs) (a4:=U) (a5:=ψ) (a6:=ψ) (a7:=ψ) (a8:=ψ) hc1;have⟨e5,e7,e8,g3⟩:=l3 (hs:=ss) (a4:=U) (a5:=c5) (a6:=c6) (a7:=c7) (a8:=ψ) hs1;have⟨dl',hdl,rl⟩:=nW o hN;have⟨dc,hdc,rc⟩:=uX o;have hres:az 20 p.2.1.res=θ:=by rcases o.rs with h|⟨i,h⟩<;>rw[h]<;>rfl
 have hst:∃d,az 20 d=θ/\F62 [.ref 0] (c sh p.2)=ς (.g d,c sh p.2):=by
  rcases fW o with h|⟨l,_,h⟩
  .exact⟨_,rfl,h⟩
  .exact⟨_,rfl,h⟩
 have⟨ds,hds,rst⟩:=hst
 have key:∀{ns:η Str},∃is:η Int,∀{ρ:Nat->Nat},At ρ (c sh p.2) b->aE (bnd (.one 0)) tYs (eMe 3 2 F66 (eV 1) (aCn (eV 0) aNl)) [ψ,ς (.ref (ρ 0))] (ns.map .str) b=ς (is.map λi=>.g (.int i),b)/\is.length=ns.length:=λ{ns}=>by
  induction ns with
  |nil=>exact⟨[],λ_=>⟨rfl,rfl⟩⟩
  |cons n ns Z=>have⟨is,Z⟩:=Z;have⟨i,hi⟩:=Ch o n;refine⟨i::is,λ{ρ} h=>⟨?_,by simp[(Z h).2]⟩⟩;have:=uY (i:=1) (δ:=[ς (.g (.str n)),ς (.ref (ρ 0))]) (fs:=aCn (eV 0) aNl) (as:=[.str n]) (n:=2) (F:=F66) (ay _) hG h rfl rfl rfl hi;rwa[qa2,aE,bnd,qw5,qa0,tYs,if_true,this,CV.sol,(Z h).1,qb0]
 have⟨is,his⟩:=key (ns:=ns)
 have hco:∀{ρ:Nat->Nat}{k:Nat}{δ:Sl},At ρ (c sh p.2) b->δ[3]?=ς (ς (.g (.e (ns.map .str))))->δ[k]?=ς (ς (.ref (ρ 0)))->eCo .v [ψ,ς k] (iE (eV 3)) (bnd (.one 0)) tYs (eMe 3 2 F66 (eV 1) (aCn (eV 0) aNl)) δ b=ς (.g (.e (is.map .int)),b):=λ{ρ k δ} h h3 hk=>by
  have hg:gC [ψ,ς k] δ=[ψ,ς (.ref (ρ 0))]:=by simp[gC,hk,lent]
  have hi:iE (eV 3) δ b=ς (ns.map .str,b):=by simp[iE,eV,h3,lent,itD]
  unfold eCo;rw[hi,qa0,hg];dsimp only;rw[(his h).1,qa0];dsimp only;rw[if_pos (by rw[qa3,(his h).2,qb7];lia),bG];rfl
 have hil:az 20 (.e (is.map .int))=θ:=qb9.mpr λd hd=>by have⟨i,_,rfl⟩:=qc8.mp hd;rfl
 refine bm (ah (bz (ds:=[0,1].map .int) rfl g1) (ah (mo (pi (one (F:=F21) (as:=[]) (ay _) rfl rfl yb rfl rfl rfl) (pi (one (F:=F57) (as:=[]) (ay _) rfl rfl rl hdl rfl rfl) (one (F:=F24) (as:=[]) (ay _) rfl rfl qR hres rfl rfl)))) (ah (bz (ds:=cs.map Hd.d) rfl g2) (ah (bz (ds:=ss.map Hd.d) rfl g3) (ah (mo (pi (one (F:=F62) (as:=[]) (ay _) rfl rfl rst hds rfl rfl) (pi (one (F:=F63) (as:=[]) (ay _) rfl rfl rc hdc rfl rfl) (one (F:=F65) (as:=[]) (ay _) rfl rfl yc rfl rfl rfl)))) (bU (cj (c:=.g (.bl θ)) (ch1:=b) ?_ rfl)))))));rw[cL (hco h1 rfl rfl) (hco h2 rfl rfl) rfl rfl (mn hil)];rfl
end
def Sim(g:Fs)(δ:Sl)(A B:CH):Prop:=∃O σ,g δ A=ς (.nx δ O)/\A.length<=O.length/\At σ B O/\σ 0=0
noncomputable def cl0:Sl->Bool
 |[]=>θ
 |none::l=>cl0 l
 |some (.ref i)::l=>(i==0)&&cl0 l
 |some (.own _ _)::_=>ξ
 |some (.fn _ _)::_=>ξ
 |some (.g _)::l=>cl0 l
theorem iG(O:ρ 0=0):∀{δ:Sl},cl0 δ=θ->rnS ρ δ=δ
 |[],_=>rfl
 |none::l,h=>by rwa[rnS,qa2,Option.map_none];rw[show zg2 (zd0 (rn ρ)) l=l from iG O h]
 |some (.ref i)::l,h=>by rwa[cl0,qa1,beq_iff_eq]at h;have⟨rfl,h⟩:=h;rwa[rnS,qa2,qb0,rn,O];rw[show zg2 (zd0 (rn ρ)) l=l from iG O h]
 |some (.g d)::l,h=>by rwa[rnS,qa2,qb0,rn];rw[show zg2 (zd0 (rn ρ)) l=l from iG O h]
 |some (.own _ _)::_,h=>by cases h
 |some (.fn _ _)::_,h=>by cases h
variable{σ:Nat->Nat}
section
variable{g g1 g2:Fs}{δ:Sl}{A B C:CH}
def Sim.of{B':CH}(h:g δ A=ς (.nx δ B'))(hl:A.length<=B'.length)(k:At σ B B')(O:σ 0=0):Sim g δ A B:=⟨B',σ,h,hl,k,O⟩
def Sim.seq(hT:TrS g2)(W:Cl B)(hn:0<B.length)(hδ:cl0 δ=θ)(h1:Sim g1 δ A B)(h2:Sim g2 δ B C):Sim (aj g1 g2) δ A C:=by
 have⟨O,σ,a1,a2,a3,a4⟩:=h1;have⟨C',τ,Z,c2,c3,c4⟩:=h2;have⟨D,d1,d2,d3⟩:=hT (a3.em W) Z;have U:hat σ B.length O.length 0=0:=by unfold hat;rw[if_pos hn];exact a4
 rw[iG U hδ]at d1;have d1:g2 δ O=ς (.nx (rnS (hat σ B.length O.length) δ) D):=d1;rw[iG U hδ]at d1;refine⟨D,_,ah a1 d1,qd2 a2 (Em.fr a3 W d2 d3 c2).le,At.comp d2 c3,?_⟩;show hat σ B.length O.length (τ 0)=0;rw[c4];exact U
end
noncomputable def blk:Nat->η (Str×η Dt)->CH
 |_,[]=>[]
 |n,p::r=>.e (p.2.map .g)::.t [.g (.str p.1),.ref n]::blk (n+2) r
noncomputable def prs:Nat->η (Str×η Dt)->η (Key×CV)
 |_,[]=>[]
 |n,p::r=>(.inr p.1,.ref n)::prs (n+2) r
noncomputable def rfs:Nat->Nat->η CV
 |_,0=>[]
 |n,k+1=>.ref n::rfs (n+2) k
variable{H:CH}
section
variable{fe:Fg}{α:Type}{f:α->Dt}{nm:α->Str}{vl:α->η Dt}
theorem mq:∀(l:η α)(O:∀a∈l,∀ch,fe [ς (.g (f a))] ch=ς (.ref (ch.length+1),ch++[.e ((vl a).map .g),.t [.g (.str (nm a)),.ref ch.length]])) (ch:CH),aE (bnd (.one 0)) tYs fe [ψ] (l.map f) ch=ς (rfs (ch.length+1) l.length,ch++blk ch.length (l.map λa=>(nm a,vl a)))
 |[],_,ch=>by simp[aE,rfs,blk]
 |a::l,O,ch=>by have U:=mq l (λb hb=>O b (.tail _ hb)) (ch++[.e ((vl a).map .g),.t [.g (.str (nm a)),.ref ch.length]]);have hb:bnd (.one 0) (f a) [ψ]=ς [ς (.g (f a))]:=rfl;rwa[qa2,aE,hb,qa0,tYs,if_true,O a (.head _),CV.sol,U,qb0];simp[rfs,blk]
theorem bo:∀{ps:η (Str×η Dt)}{n:Nat},(blk n ps).length=2*ps.length
 |[],_=>rfl
 |p::r,n=>by simp[blk,bo (ps:=r)];lia
theorem iH:∀{ps:η (Str×η Dt)}{n k:Nat}{p:Str×η Dt},ps[k]?=ς p->(blk n ps)[2*k]?=ς (.e (p.2.map .g))/\(blk n ps)[2*k+1]?=ς (.t [.g (.str p.1),.ref (n+2*k)])
 |[],_,_,_,h=>by simp at h
 |q::r,n,0,p,h=>by cases h;exact⟨rfl,rfl⟩
 |q::r,n,k+1,p,h=>by have:=iH (n:=n+2) (k:=k) (ps:=r) (p:=p) ‹h›;rw[show n+2+2*k=n+2*(k+1)by lia]at this;exact this
theorem jI:∀{ps:η (Str×η Dt)}{n:Nat},(∀k p,ps[k]?=ς p->H[n+2*k+1]?=ς (.t [.g (.str p.1),.ref (n+2*k)]))->aO H (rfs (n+1) ps.length)=ς (prs n ps)
 |[],_,_=>rfl
 |p::r,n,h=>by
  have O:=h 0 p rfl
  have W:=jI (ps:=r) (n:=n+2) λk q U=>by have:=h (k+1) q ‹U›;rw[show n+2*(k+1)=n+2+2*k by lia]at this;exact this
  rwa[qb6,rfs,aO,cg];rw[show n+1+2=n+2+1 by lia,W];rwa[Nat.mul_zero,zf9]at O;simp[O,cO,prs]
theorem kZ:∀{ps:η (Str×η Dt)}{n:Nat},(prs n ps).map (·.1)=ps.map λp=>.inr p.1
 |[],_=>rfl
 |p::r,n=>by simp[prs,kZ (ps:=r)]
theorem pj:∀{ps:η (Str×η Dt)}{n:Nat},(prs n ps).length=ps.length
 |[],_=>rfl
 |p::r,n=>by simp[prs,pj (ps:=r)]
theorem pk:∀{ps:η (Str×η Dt)}{n:Nat},((prs n ps).map (·.2)).all CV.sol=θ
 |[],_=>rfl
 |p::r,n=>by rwa[prs,qa2,qc7,CV.sol,qr9];exact pk
theorem pq:∀{k n:Nat},(rfs n k).all CV.sol=θ
 |0,_=>rfl
 |k+1,n=>by rwa[rfs,qc7,CV.sol,qr9];exact pq
theorem pr:∀{k n:Nat},(rfs n k).length=k
 |0,_=>rfl
 |k+1,n=>by simp[rfs,pr (k:=k)]
theorem iI{l:η α}(hfe:∀a∈l,∀ch,fe [ς (.g (f a))] ch=ς (.ref (ch.length+1),ch++[.e ((vl a).map .g),.t [.g (.str (nm a)),.ref ch.length]]))(hi:fi δ ch=ς (l.map f,ch))(hg:gC src δ=[ψ])(hl:l≠[])(hz:l.length<=qa4)(hn:(l.map nm).Nodup):eDc .o (eCo .v src fi (bnd (.one 0)) tYs fe) δ ch=ς (.ref (ch.length+2*l.length+1),ch++blk ch.length (l.map λa=>(nm a,vl a))++[.e (rfs (ch.length+1) l.length)]++[.dK (prs ch.length (l.map λa=>(nm a,vl a)))]):=by
 obtain⟨a,l',rfl⟩:∃a l',l=a::l':=by cases l with|nil=>exact absurd rfl hl|cons a l'=>exact⟨a,l',rfl⟩
 generalize hL:a::l'=l at*
 have O:eCo .v src fi (bnd (.one 0)) tYs fe δ ch=ς (.ref (ch.length+2*l.length),ch++blk ch.length (l.map λa=>(nm a,vl a))++[.e (rfs (ch.length+1) l.length)]):=by
  unfold eCo;rw[hi,qa0,hg];dsimp only;rw[mq _ hfe,qa0];dsimp only;rw[if_pos (by rw[pr];exact hz)];unfold finL;have hd:dats (rfs (ch.length+1) l.length)=ψ:=by rw[<- hL];rfl
  rw[hd];dsimp only;rw[if_pos pq];simp[bo]
 generalize Z:ch++blk ch.length (l.map λa=>(nm a,vl a))++[.e (rfs (ch.length+1) l.length)]=H at O ⊢;have U:H.length=ch.length+2*l.length+1:=by rw[<- Z];simp[bo];lia
 have hp:aO H (rfs (ch.length+1) l.length)=ς (prs ch.length (l.map λa=>(nm a,vl a))):=by
  have:=jI (H:=H) (ps:=l.map λa=>(nm a,vl a)) (n:=ch.length) λk p hk=>by have hb:=(iH (n:=ch.length) hk).2;rw[<- Z,qd9,gR Θ,show ch.length+2*k+1-ch.length=2*k+1 by lia,gL (ak hb)];exact hb
  rw[qa3]at this;exact this
 have hs:lM H (.ref (ch.length+2*l.length))=ς (rfs (ch.length+1) l.length):=by
  have:H[ch.length+2*l.length]?=ς (.e (rfs (ch.length+1) l.length)):=by rw[<- Z,qe0 (by simp[bo])];simp[bo]
  rwa[lM,this]
 unfold eDc;rw[O,qa0];dsimp only;rw[hs,qa0,hp,qa0]
 have W:((prs ch.length (l.map λa=>(nm a,vl a))).map (·.1)).Nodup:=by
  rw[kZ,qd5];have e:(l.map ((λp:Str×η Dt=>(qk9 p.1:Key)) ∘ λa=>(nm a,vl a)))=(l.map nm).map qk9:=by simp
  rw[e];exact qm8 _ (λa b h q=>h (zd4 q)) hn
 rw[if_pos W];unfold lN;have hd2:dats ((prs ch.length (l.map λa=>(nm a,vl a))).map (·.2))=ψ:=by rw[<- hL];rfl
 rw[hd2];dsimp only;rw[if_pos pk,U]
end
noncomputable def shC(cs:η Hd):Sh:=cs.map λh=>(h.1,1)
noncomputable def shS(ss:η Hd):Sh:=ss.map λh=>(h.1,h.2.1.toNat)
def tlC(cs:η Hd):CH:=cs.map λh=>dl [.int h.2.1]
def tlS(ss:η Hd):CH:=ss.map λh=>dl (qa9 h.2.1.toNat (.int 0))
theorem eS{σ:Nat->Nat}{vl:Hd->η Dt}{sz:Hd->Nat}:∀{hs:η Hd}{n o:Nat},(∀k,k<hs.length->σ (k+o)=n+2*k)->rnP σ (aa o (hs.map λh=>(h.1,sz h)))=prs n (hs.map λh=>(h.1,vl h))
 |[],_,_,_=>rfl
 |h::hs,n,o,O=>by
  have W:=O 0 Ξ;have U:=eS (σ:=σ) (vl:=vl) (sz:=sz) (hs:=hs) (n:=n+2) (o:=o+1) λk hl=>by have:=O (k+1) ‹hl›;rw[show k+(o+1)=k+1+o by lia,this];lia
  rwa[qw4,Nat.mul_zero,zf9]at W;rwa[rnP,qa2,aa,prs,rn,W]at U ⊢;rw[U]
theorem jJ:∀{a b:Sh}{o:Nat},aa o (a++b)=aa o a++aa (o+a.length) b
 |[],b,o=>by simp[aa]
 |p::a,b,o=>by have:=jJ (a:=a) (b:=b) (o:=o+1);rwa[ql3,aa,this,qb6];rw[show o+1+a.length=o+(a.length+1)by lia]
section
variable{cs ss:η Hd}{R:η Rw}{bg:η Str}
abbrev pgm(cs ss:η Hd)(R:η Rw):Dt:=.t [.t (cs.map Hd.d),.t (ss.map Hd.d),.t (R.map Rw.d)]
abbrev slS(cs ss:η Hd)(R:η Rw)(bg:η Str):Sl:=[ς (.ref 0),ς (.g (pgm cs ss R)),ς (.g (.t (bg.map .str)))]
def stA(cs:η Hd):CH:=.ins 2 [.ref 1]::.dK (aa 2 (shC cs))::tlC cs
def stB(cs ss:η Hd):CH:=.ins 2 [.ref 1]::.dK (aa 2 (shC cs++shS ss))::(tlC cs++tlS ss)
theorem yh(O:cs≠[])(hz:cs.length<=100)(Z:(cs.map (·.1)).Nodup):Sim (sFl 2 0 (eV 0) (eDc .o (eCo .v [ψ] (iE (eIx (eV 1) (eK (.int 0)))) (bnd (.one 0)) tYs (eTu (aCn (eIx (eV 0) (eK (.int 0))) (aCn (eLs .o (aCn (eIx (eV 0) (eK (.int 1))) aNl)) aNl)))))) (slS cs ss R bg) [.ins 2 []] (stA cs):=by
 have U:=iI (f:=Hd.d) (nm:=(·.1)) (vl:=λh:Hd=>[.int h.2.1]) (fe:=eTu (aCn (eIx (eV 0) (eK (.int 0))) (aCn (eLs .o (aCn (eIx (eV 0) (eK (.int 1))) aNl)) aNl))) (fi:=iE (eIx (eV 1) (eK (.int 0)))) (src:=[ψ]) (δ:=slS cs ss R bg) (ch:=[.ins 2 []]) (l:=cs) (λh _ ch=>by simp! only[Hd.d];simp! []) rfl rfl O (by rw[qb7];lia) Z
 have W:([CO.ins 2 []]:CH).length=1:=rfl;rw[W]at U;refine .of (B':=.ins 2 [.ref (1+2*cs.length+1)]::(blk 1 (cs.map λh=>(h.1,[.int h.2.1]))++[.e (rfs 2 cs.length)]++[.dK (prs 1 (cs.map λh=>(h.1,[.int h.2.1])))])) (σ:=λi=>if i=0 then 0 else if i=1 then 1+2*cs.length+1 else 1+2*(i-2)) ?_ Ξ ?_ rfl
 .unfold sFl;rw[U,qa0];rfl
 .refine⟨λi j hi hj e=>?_,λ{i o} hi=>?_⟩
  .simp[stA,tlC]at hi hj;split at e<;>split at e<;>(try split at e)<;>(try split at e)<;>lia
  .rcases i with _|_|i
   .cases hi;rfl
   .cases hi;show(CO.ins 2 _::_)[1+2*cs.length+1]?=_;rw[qd3,qe0 (by simp[bo];lia)];simp only[qc5,bo,qa3,qj1,show 1+2*cs.length-(2*cs.length+1)=0 by lia,qi0,rnO];unfold shC;rw[eS (vl:=λh:Hd=>[.int h.2.1]) (n:=1)];intro k hk;rw[if_neg Θ,if_neg Θ,Nat.add_sub_cancel]
   .have hi:(tlC cs)[i]?=ς o:=hi;rwa[tlC,qa6]at hi;have⟨h,h1,rfl⟩:=mS hi;have hb:=(iH (n:=1) (ps:=cs.map λh=>(h.1,[.int h.2.1])) (k:=i) (p:=(h.1,[.int h.2.1])) (by rw[qa6,h1];rfl)).1;rw[if_neg Θ,if_neg Θ,cM,show 1+2*(i+1+1-2)=2*i+1 by lia,qd3,qd9,gL (ak hb)];exact hb
def bK:(stA cs).length=cs.length+2:=by simp[stA,tlC]
def mr{d:Dt}:(qa9 n [d]).flatten=qa9 n d:=by
 induction n with
 |zero=>rfl
 |succ n O=>rw[qf9,qk6,O,qf9];rfl
theorem yi(hne:ss≠[])(hz:cs.length+ss.length<=100)(hn:((cs++ss).map (·.1)).Nodup)(hs:∀h∈ss,0<=h.2.1/\h.2.1<=1000):Sim (sUp (eAt 2 0 (eV 0)) (eDc .o (eCo .v [ψ] (iE (eIx (eV 1) (eK (.int 1)))) (bnd (.one 0)) tYs (eTu (aCn (eIx (eV 0) (eK (.int 0))) (aCn (e2 .o oMul.g (eLs .v (aCn (eK (.int 0)) aNl)) (eIx (eV 0) (eK (.int 1)))) aNl)))))) (slS cs ss R bg) (stA cs) (stB cs ss):=by
 have hn2:(ss.map (·.1)).Nodup:=by rw[qd1,qe1]at hn;exact hn.2.1
 have Z:=iI (f:=Hd.d) (nm:=(·.1)) (vl:=λh:Hd=>qa9 h.2.1.toNat (.int 0)) (fe:=eTu (aCn (eIx (eV 0) (eK (.int 0))) (aCn (e2 .o oMul.g (eLs .v (aCn (eK (.int 0)) aNl)) (eIx (eV 0) (eK (.int 1)))) aNl))) (fi:=iE (eIx (eV 1) (eK (.int 1)))) (src:=[ψ]) (δ:=slS cs ss R bg) (ch:=stA cs) (l:=ss) (λh hh ch=>by have⟨h1,h2⟩:=hs h hh;simp! only[Hd.d];simp! [oMul,iQ,lW,h1,h2,mr]) rfl rfl hne (by rw[qb7];lia) hn2
 rw[bK]at Z;obtain⟨B,O⟩:∃B,B=stA cs++blk (cs.length+2) (ss.map λh=>(h.1,qa9 h.2.1.toNat (.int 0)))++[.e (rfs (cs.length+2+1) ss.length)]++[.dK (prs (cs.length+2) (ss.map λh=>(h.1,qa9 h.2.1.toNat (.int 0))))]:=⟨_,rfl⟩;rw[<- O]at Z;have d1:gm (stA cs) 1=ς (aa 2 (shC cs)):=rfl;have d2:gm B 1=ς (aa 2 (shC cs)):=by rw[O];rfl
 have d3:gm B (cs.length+2+2*ss.length+1)=ς (prs (cs.length+2) (ss.map λh=>(h.1,qa9 h.2.1.toNat (.int 0)))):=by
  have:B[cs.length+2+2*ss.length+1]?=ς (.dK (prs (cs.length+2) (ss.map λh=>(h.1,qa9 h.2.1.toNat (.int 0))))):=by rw[O,qe0 (by simp[bo,bK];lia)];rwa[qc5,bo,bK,qa3,qj1];rw[show cs.length+2+2*ss.length+1-(cs.length+2+2*ss.length+1)=0 by lia];rfl
  rwa[gm,this]
 have hf:∀{o:Nat}{sh:Sh},(aa o sh).map (·.1)=sh.map λp=>(.inr p.1:Key):=λ{o sh}=>by
  induction sh generalizing o with
  |nil=>rfl
  |cons p r ih=>simp[aa,ih]
 have hlr:∀{o:Nat}{sh:Sh},(aa o sh).length=sh.length:=λ{o sh}=>by have:=congrArg qm1 (hf (o:=o) (sh:=sh));simpa using this
 have W:((aa 2 (shC cs)++prs (cs.length+2) (ss.map λh=>(h.1,qa9 h.2.1.toNat (.int 0)))).map (·.1)).Nodup:=by
  rw[qd1,hf,kZ];have e:((shC cs).map λp=>(qk9 p.1:Key))++((ss.map λh=>(h.1,qa9 h.2.1.toNat (.int 0:Dt))).map λp=>(qk9 p.1:Key))=((cs++ss).map (·.1)).map qk9:=by simp[shC,qb2]
  rw[e];exact qm8 _ (λa b h q=>h (zd4 q)) hn
 refine .of (B':=B.set 1 (.dK (aa 2 (shC cs)++prs (cs.length+2) (ss.map λh=>(h.1,qa9 h.2.1.toNat (.int 0)))))) (σ:=λi=>if i<cs.length+2 then i else cs.length+2+2*(i-(cs.length+2))) ?_ (by rw[O];simp) ?_ (if_pos Θ)
 .unfold sUp;have ha:eAt 2 0 (eV 0) (slS cs ss R bg) (stA cs)=ς (.ref 1,stA cs):=rfl;rw[ha,qa0];dsimp only;rw[Z,qa0];dsimp only;rw[d1,qa0,d2,qa0,d3,qa0,if_pos ⟨Θ,W,by rw[hlr,pj,qb7];simp[shC];lia⟩]
 .have g0:∀{k:Nat},k<cs.length->(B.set 1 (.dK (aa 2 (shC cs)++prs (cs.length+2) (ss.map λh=>(h.1,qa9 h.2.1.toNat (.int 0))))))[k+2]?=(tlC cs)[k]?:=λ{k} hk=>by rw[gN Θ,O,qd9,qd9,gL (by rw[bK];lia)];rfl
  refine⟨λi j hi hj e=>?_,λ{i o} hi=>?_⟩
  .split at e<;>split at e<;>lia
  .rcases i with _|_|i
   .cases hi;rw[if_pos Θ,O];rfl
   .cases hi;rw[if_pos Θ,qe5 (by rw[O];simp[bK];lia)];rwa[rnO];rw[jJ];have r1:rnP (λi=>if i<cs.length+2 then i else cs.length+2+2*(i-(cs.length+2))) (aa 2 (shC cs))=aa 2 (shC cs):=bW λk hk=>by simp[shC]at hk;rw[if_pos Θ]
    have r2:rnP (λi=>if i<cs.length+2 then i else cs.length+2+2*(i-(cs.length+2))) (aa (2+(shC cs).length) (shS ss))=prs (cs.length+2) (ss.map λh=>(h.1,qa9 h.2.1.toNat (.int 0))):=eS λk hk=>by
     have:(shC cs).length=cs.length:=by simp[shC]
     rw[this,if_neg Θ];lia
    rwa[rnP,qd1]at r1 r2 ⊢;rw[r1,r2]
   .have hi:(tlC cs++tlS ss)[i]?=ς o:=hi;have U:(tlC cs).length=cs.length:=by simp[tlC]
    rcases qk1 i cs.length with hl|hl
    .rw[gL Θ]at hi;rw[if_pos Θ];show _[i+2]?=_;rw[g0 hl,hi];rwa[tlC,qa6]at hi;have⟨h,_,rfl⟩:=mS hi;rw[cM]
    .rw[gR Θ,U]at hi;rwa[tlS,qa6]at hi;have⟨h,h1,rfl⟩:=mS hi;have hb:=(iH (n:=cs.length+2) (ps:=ss.map λh=>(h.1,qa9 h.2.1.toNat (.int 0))) (k:=i-cs.length) (p:=(h.1,qa9 h.2.1.toNat (.int 0))) (by rw[qa6,h1];rfl)).1;rw[if_neg Θ,cM,gN Θ,O,qd9,qd9,gR (by rw[bK];lia),bK,show cs.length+2+2*(i+1+1-(cs.length+2))-(cs.length+2)=2*(i-cs.length)by lia,gL (ak hb)];exact hb
end
noncomputable def tlR:S->S
 |.sq _ r=>r
 |s=>s
section
variable{cs ss:η Hd}{R:η Rw}{bg:η Str}
abbrev s3:Fs:=sFl 2 1 (eV 0) (eLs .o (aCn (eTu (aCn (eK (.int 0)) (aCn (eK (.int 0)) (aCn (eK (.int 0)) (aCn (eK (.int 0)) aNl))))) (aCn (eTu (aCn (eK (.int 0)) (aCn (eK (.int 0)) (aCn (eK (.int 0)) (aCn (eK (.int 0)) aNl))))) aNl)))
abbrev s4:Fs:=sFl 2 2 (eV 0) (eLs .o (aCn (eCo .o [ψ] (iE (eV 2)) (bnd (.one 0)) tYs (eTu (aCn (eV 0) (aCn (eK (.int 0)) aNl)))) (aCn (eLs .o aNl) aNl)))
abbrev s5:Fs:=sFl 2 3 (eV 0) (eLs .o (aCn (eLs .o aNl) (aCn (eLs .o aNl) aNl)))
abbrev s6:Fs:=sFl 2 4 (eV 0) (eK (.int 0))
abbrev s7:Fs:=sFl 2 5 (eV 0) (eK .non)
noncomputable def h4:η Dt:=[.int 0,.int 0,.int 0,.int 0]
theorem Ej{K:CO}{T:CH}:s3 (slS cs ss R bg) (.ins 2 [.ref 1]::K::T)=ς (.nx (slS cs ss R bg) (.ins 2 [.ref 1,.ref (T.length+2)]::K::(T++[.e [.g (.t h4),.g (.t h4)]]))):=rfl
theorem Ek{K:CO}{T:CH}{a b:CV}(hb:bg.length<=100):s4 (slS cs ss R bg) (.ins 2 [a,b]::K::T)=ς (.nx (slS cs ss R bg) (.ins 2 [a,b,.ref (T.length+4)]::K::(T++[dl (bg.map λs=>Bx.d (s,0)),.e [],.e [.ref (T.length+2),.ref (T.length+3)]]))):=by
 have hc:eCo .o [ψ] (iE (eV 2)) (bnd (.one 0)) tYs (eTu (aCn (eV 0) (aCn (eK (.int 0)) aNl))) (slS cs ss R bg) (.ins 2 [a,b]::K::T)=ς (.ref (T.length+2),.ins 2 [a,b]::K::(T++[dl (bg.map λs=>Bx.d (s,0))])):=by
  have hi:iE (eV 2) (slS cs ss R bg) (.ins 2 [a,b]::K::T)=ς (bg.map .str,.ins 2 [a,b]::K::T):=rfl;unfold eCo;rw[hi,qa0];have:=bT (pt:=.one 0) (ft:=tYs) (fe:=eTu (aCn (eV 0) (aCn (eK (.int 0)) aNl))) (δ:=gC [ψ] (slS cs ss R bg)) (ch:=.ins 2 [a,b]::K::T) (f:=.str) (g:=λs:Str=>Bx.d (s,0)) (l:=bg) λs _=>⟨_,rfl,rfl,rfl⟩
  rw[this,qa0];dsimp only;rw[if_pos (by rw[qa3,qb7];lia),bG];rfl
 rwa[s4,sFl,eLs,aCn,hc,qa0,aNl,qb0];simp[finL,dats,fin,al,eV,lent,CV.sol,cP,qb7]
theorem El{K:CO}{T:CH}{a b c:CV}:s5 (slS cs ss R bg) (.ins 2 [a,b,c]::K::T)=ς (.nx (slS cs ss R bg) (.ins 2 [a,b,c,.ref (T.length+4)]::K::(T++[.e [],.e [],.e [.ref (T.length+2),.ref (T.length+3)]]))):=by rwa[s5,sFl,eLs,aCn,aNl,qa0,qb0];simp[finL,dats,fin,al,eV,lent,CV.sol,cP,qb7]
theorem Ci{K:CO}{T:CH}{a b c d:CV}:aj s6 (aj s7 ax) (slS cs ss R bg) (.ins 2 [a,b,c,d]::K::T)=ς (.nx (slS cs ss R bg) (.ins 2 [a,b,c,d,I 0,.g .non]::K::T)):=rfl
def stC(cs ss:η Hd)(bg:η Str):CH:=.ins 2 [.ref 1,.ref 2,.ref 3,.ref 4,I 0,.g .non]::.dK (aa 9 (shC cs++shS ss))::.e [.g (.t h4),.g (.t h4)]::.e [.ref 5,.ref 6]::.e [.ref 7,.ref 8]::dl (bg.map λs=>Bx.d (s,0))::.e []::.e []::.e []::(tlC cs++tlS ss)
def uZ{o:CO}(h:o∈tlC cs++tlS ss):∃L,o=dl L:=by
 rcases qf7.mp h with h|h
 .rwa[tlC,qc8]at h;have⟨a,_,rfl⟩:=h;exact⟨_,rfl⟩
 .rwa[tlS,qc8]at h;have⟨a,_,rfl⟩:=h;exact⟨_,rfl⟩
def Cj:Cl (stA cs):=by
 unfold Cl;rw[bK];have O:=ck (sh:=shC cs) (o:=2) (n:=cs.length+2) (by simp[shC];lia);have U:(tlC cs).all (clO (cs.length+2))=θ:=qb9.mpr λo W=>by have⟨L,rfl⟩:=uZ (ss:=[]) (cs:=cs) (by simpa[tlS] using W);exact mf
 rwa[stA,qc7,qo7,clO,fU,O,U,qj9];exact decide_eq_true Θ
def pw:(stB cs ss).length=cs.length+ss.length+2:=by simp[stB,tlC,tlS]
def Ck:Cl (stB cs ss):=by
 unfold Cl;rw[pw];have O:=ck (sh:=shC cs++shS ss) (o:=2) (n:=cs.length+ss.length+2) (by simp[shC,shS];lia);have U:(tlC cs++tlS ss).all (clO (cs.length+ss.length+2))=θ:=qb9.mpr λo W=>by have⟨L,rfl⟩:=uZ W;exact mf
 rwa[stB,qc7,qo7,clO,fU,O,U,qj9];exact decide_eq_true Θ
def cJ:(stC cs ss bg).length=cs.length+ss.length+9:=by simp[stC,tlC,tlS]
def vb:Cl (stC cs ss bg):=by
 unfold Cl;rw[cJ];have O:=ck (sh:=shC cs++shS ss) (o:=9) (n:=cs.length+ss.length+9) (by simp[shC,shS];lia);have U:(tlC cs++tlS ss).all (clO (cs.length+ss.length+9))=θ:=qb9.mpr λo Z=>by have⟨L,rfl⟩:=uZ Z;exact mf
 have W:∀k,k<9->decide (k<cs.length+ss.length+9)=θ:=λk hk=>decide_eq_true Θ
 rwa[stC,qc7,qo7,clO,fU,kU,O,U,md,W,qj9,zc6]
noncomputable def sgS(n i:Nat):Nat:=match i with
 |0=>0
 |1=>1
 |2=>n+2
 |3=>n+5
 |4=>n+8
 |5=>n+3
 |6=>n+4
 |7=>n+6
 |8=>n+7
 |i+9=>i+2
noncomputable def sgI(n j:Nat):Nat:=if j<2 then j else if j<n+2 then j+7 else if j=n+2 then 2 else if j=n+5 then 3 else if j=n+8 then 4 else if j=n+3 then 5 else if j=n+4 then 6 else if j=n+6 then 7 else 8
def px{i:Nat}(h:i<n+9):sgI n (sgS n i)=i:=by
 rcases i with _|_|_|_|_|_|_|_|_|i
 .rfl
 .rfl
 all_goals
  rwa[sgS];unfold sgI
  repeat first|rw[if_pos Θ]|rw[if_neg Θ]
def vc{T L:CH}:(T++L)[T.length+j]?=L[j]?:=by rw[gR Θ,qg0]
theorem vd(hc:cs≠[])(hs:ss≠[])(hz:cs.length+ss.length<=100)(hb:bg.length<=100)(hn:((cs++ss).map (·.1)).Nodup)(hv:∀h∈ss,0<=h.2.1/\h.2.1<=1000):∃B σ,F14 [.ref 0,.g (pgm cs ss R),.g (.t (bg.map .str))] [.ins 2 []]=ς (.g .non,B)/\At σ (stC cs ss bg) B/\σ 0=0:=by
 have hnc:(cs.map (·.1)).Nodup:=by rw[qd1,qe1]at hn;exact hn.1
 have rest:Sim (aj s3 (aj s4 (aj s5 (aj s6 (aj s7 ax))))) (slS cs ss R bg) (stB cs ss) (stC cs ss bg):=by
  obtain⟨T,W⟩:∃T,T=tlC cs++tlS ss:=⟨_,rfl⟩;have hTl:T.length=cs.length+ss.length:=by rw[W];simp[tlC,tlS]
  have O:∀o∈T,∃L,o=dl L:=λo ho=>uZ (by rw[<- W];exact ho)
  have hr:rnP (sgS T.length) (aa 9 (shC cs++shS ss))=aa 2 (shC cs++shS ss):=bW λk hk=>rfl
  have U:(stC cs ss bg).length=T.length+9:=by rw[cJ,hTl]
  unfold stB;rw[<- W];have e1:(T++[CO.e [.g (.t h4),.g (.t h4)]]).length=T.length+1:=by simp
  have e2':(T++[CO.e [.g (.t h4),.g (.t h4)]]++[dl (bg.map λs=>Bx.d (s,0)),.e [],.e [.ref (T.length+1+2),.ref (T.length+1+3)]]).length=T.length+4:=by simp
  have r3:=Ek (cs:=cs) (ss:=ss) (R:=R) (bg:=bg) (K:=.dK (aa 2 (shC cs++shS ss))) (T:=T++[CO.e [.g (.t h4),.g (.t h4)]]) (a:=.ref 1) (b:=.ref (T.length+2)) hb;rw[e1]at r3;have r4:=El (cs:=cs) (ss:=ss) (R:=R) (bg:=bg) (K:=.dK (aa 2 (shC cs++shS ss))) (T:=T++[CO.e [.g (.t h4),.g (.t h4)]]++[dl (bg.map λs=>Bx.d (s,0)),.e [],.e [.ref (T.length+1+2),.ref (T.length+1+3)]]) (a:=.ref 1) (b:=.ref (T.length+2)) (c:=.ref (T.length+1+4));rw[e2']at r4;refine .of (σ:=sgS T.length) (ah Ej (ah r3 (ah r4 Ci))) Ξ ?_ rfl;rwa[qd9];refine⟨λi j hi hj e=>?_,λ{i o} hi=>?_⟩
  .rw[U]at hi hj;rw[<- px hi,e,px hj]
  .have hi':i<T.length+9:=by rw[<- U];exact ak hi
   have ap:∀j L,(CO.ins 2 [.ref 1,.ref (T.length+2),.ref (T.length+1+4),.ref (T.length+4+4),I 0,.g .non]::CO.dK (aa 2 (shC cs++shS ss))::(T++L))[T.length+j+2]?=L[j]?:=λj L=>vc
   rcases i with _|_|_|_|_|_|_|_|_|i
   .cases hi;rfl
   .cases hi;rwa[rnO,hr];rfl
   .cases hi;exact ap 0 _
   .cases hi;exact ap 3 _
   .cases hi;exact ap 6 _
   .cases hi;rw[cM];exact ap 1 _
   .cases hi;exact ap 2 _
   .cases hi;exact ap 4 _
   .cases hi;exact ap 5 _
   .have hi:(tlC cs++tlS ss)[i]?=ς o:=hi;rw[<- W]at hi;have⟨L,rfl⟩:=O o (qa5 hi);rw[cM];show(T++_)[i]?=_;rw[gL (ak hi)];exact hi
 have t1:TrS (aj s3 (aj s4 (aj s5 (aj s6 (aj s7 ax))))):=by have w:TrS (evS (aM gc t14) (tlR (tlR d14.b))):=xB (dA t14) _;exact @w
 have t2:TrS (aj (sUp (eAt 2 0 (eV 0)) (eDc .o (eCo .v [ψ] (iE (eIx (eV 1) (eK (.int 1)))) (bnd (.one 0)) tYs (eTu (aCn (eIx (eV 0) (eK (.int 0))) (aCn (e2 .o oMul.g (eLs .v (aCn (eK (.int 0)) aNl)) (eIx (eV 0) (eK (.int 1)))) aNl)))))) (aj s3 (aj s4 (aj s5 (aj s6 (aj s7 ax)))))):=by have w:TrS (evS (aM gc t14) (tlR d14.b)):=xB (dA t14) _;exact @w
 have z:=Sim.seq (δ:=slS cs ss R bg) @t2 Cj (by rw[bK];lia) rfl (yh (ss:=ss) (R:=R) (bg:=bg) hc Θ hnc) (Sim.seq @t1 Ck (by rw[pw];lia) rfl (yi (R:=R) (bg:=bg) hs hz hn hv) rest);have⟨B,σ,h1,h2,h3,Z⟩:=z;exact⟨B,σ,by rw[q14];exact nJ h1,h3,Z⟩
end
def bX:Nat->η Rw->η Dt
 |_,[]=>[]
 |k,r::R=>l8 k r::bX (k+1) R
theorem pz:∀{R:η Rw}{k i:Nat}{r:Rw},R[i]?=ς r->(bX k R)[i]?=ς (l8 (k+i) r)
 |[],_,_,_,h=>by simp at h
 |q::R,k,0,r,h=>by cases h;rfl
 |q::R,k,i+1,r,h=>by have:=pz (R:=R) (k:=k+1) (i:=i) (r:=r) ‹h›;rw[show k+1+i=k+(i+1)by lia]at this;exact this
theorem mt:∀{R:η Rw}{k:Nat},(bX k R).length=R.length
 |[],_=>rfl
 |q::R,k=>by simp[bX,mt (R:=R)]
def Cm(i:Nat)(r:Rw):F12 [I i,.g r.d] ch=ς (.g (l8 i r),ch):=by cases r<;>exact xR .nil
theorem pA:∀{R:η Rw}{k:Nat},aE (bnd (.many [0,1])) tYs (eCa 2 F12 (aCn (eV 0) (aCn (eV 1) aNl))) [ψ,ψ] (cb k (R.map Rw.d)) ch=ς ((bX k R).map .g,ch)
 |[],_=>rfl
 |r::R,k=>by
  have hb:bnd (.many [0,1]) (.t [.int k,r.d]) [ψ,ψ]=ς [ς (I k),ς (.g r.d)]:=rfl
  have hc:eCa 2 F12 (aCn (eV 0) (aCn (eV 1) aNl)) [ς (I k),ς (.g r.d)] ch=ς (.g (l8 k r),ch):=by show kCa 2 F12 [I k,.g r.d] [ς (I k),ς (.g r.d)] ch=_;unfold kCa;rw[if_pos ⟨rfl,rfl⟩];exact Cm k r
  rwa[qa2,cb,aE,hb,qa0,tYs,if_true,hc,CV.sol,pA (R:=R) (k:=k+1),qb0,bX]
variable{e:Fg}
section
variable{cs ss:η Hd}{R:η Rw}{bg:η Str}{ch:CH}
theorem pF(U:R.length<=1000):F13 [.g (pgm cs ss R)] ch=ς (.g (.e (bX 0 R)),ch):=by rw[q13];refine bm (bU (cj ?_ rfl));unfold eCo;have hi:iN (eIx (eV 0) (eK (.int 2))) [ς (.g (pgm cs ss R))] ch=ς (cb 0 (R.map Rw.d),ch):=rfl;show((iN (eIx (eV 0) (eK (.int 2))) [ς (.g (pgm cs ss R))] ch).bind _)=_;rw[hi,qa0];have O:gC [ψ,ψ] [ς (.g (pgm cs ss R))]=[ψ,ψ]:=rfl;dsimp only;show((aE _ _ _ (gC [ψ,ψ] [ς (.g (pgm cs ss R))]) _ _).bind _)=_;rw[O,pA,qa0];dsimp only;rw[if_pos (by rw[qa3,mt,qb7];lia),uv];rfl
abbrev Kp':=Int×η Str
noncomputable def Kp'.d(k:Kp'):Dt:=.t [.int k.1,.t (k.2.map .str)]
abbrev cod(bg:η Str)(ks:η Kp'):Dt:=.t [.t (bg.map .str),.t (ks.map Kp'.d)]
abbrev slH(cs ss:η Hd)(R:η Rw)(bg:η Str)(ks:η Kp')(inc:η Dt):Sl:=[ς (.ref 0),ς (.g (pgm cs ss R)),ς (.g (cod bg ks)),ς (.g (.e inc))]
variable{ks:η Kp'}{inc:η Dt}
def fx(cs ss:η Hd)(R:η Rw)(ks:η Kp')(inc:η Dt):Fx:=⟨R.map Rw.d,bX 0 R,ss.map λh=>.inr h.1,ss.map λh=>.int h.2.1,((cs++ss).filter λh=>h.2.2).map λh=>.str h.1,ks.map λk=>.inl k.1,ks.map λk=>.t (k.2.map .str),inc⟩
theorem fX{k:Nat}{fs:η CV}{d:Dt}(W:δ[0]?=ς (ς (.ref 0)))(h:e δ [.ins 3 fs]=ς (.g d,[.ins 3 fs]))(U:fs.length=k)(O:k<1000):sFl 3 k (eV 0) e δ [.ins 3 fs]=ς (.nx δ [.ins 3 (fs++[.g d])]):=by unfold sFl eV;rw[h,qa0];simp[W,lent,cP,CV.sol,U,O]
theorem ve{l:η (Key×Dt)}:lN .v (dp l) ch=ς (.g (.dct (l.map (·.1)) (l.map (·.2))),ch):=by unfold lN;rw[cI];dsimp only;rw[nK];rfl
theorem vf(U:(ss.map (·.1)).Nodup)(hl:ss.length<=100):eDc .v (eCo .v [ψ] (iE (eIx (eV 1) (eK (.int 1)))) (bnd (.one 0)) tYs (eTu (aCn (eIx (eV 0) (eK (.int 0))) (aCn (eIx (eV 0) (eK (.int 1))) aNl)))) (slH cs ss R bg ks inc) ch=ς (.g (.dct (ss.map λh=>.inr h.1) (ss.map λh=>.int h.2.1)),ch):=by
 have O:eCo .v [ψ] (iE (eIx (eV 1) (eK (.int 1)))) (bnd (.one 0)) tYs (eTu (aCn (eIx (eV 0) (eK (.int 0))) (aCn (eIx (eV 0) (eK (.int 1))) aNl))) (slH cs ss R bg ks inc) ch=ς (.g (.e ((ss.map λh=>(h.1,h.2.1)).map Bx.d)),ch):=by
  have hi:iE (eIx (eV 1) (eK (.int 1))) (slH cs ss R bg ks inc) ch=ς (ss.map Hd.d,ch):=rfl;unfold eCo;rw[hi,qa0];have:=bT (pt:=.one 0) (ft:=tYs) (fe:=eTu (aCn (eIx (eV 0) (eK (.int 0))) (aCn (eIx (eV 0) (eK (.int 1))) aNl))) (δ:=gC [ψ] (slH cs ss R bg ks inc)) (ch:=ch) (f:=Hd.d) (g:=λh:Hd=>Bx.d (h.1,h.2.1)) (l:=ss) λh _=>⟨_,rfl,rfl,rfl⟩
  rw[this,qa0];dsimp only;rw[if_pos (by rw[qa3,qb7];lia),bG,qd5];rfl
 unfold eDc;rw[O,qa0];have e:((ss.map λh=>((h.1,h.2.1):Bx)).map Bx.d).map CV.g=(ss.map λh=>((h.1,h.2.1):Bx)).map (CV.g ∘ Bx.d):=by rw[qd5]
 show((aO ch (((ss.map λh=>((h.1,h.2.1):Bx)).map Bx.d).map CV.g)).bind _)=_;rw[e,eQ,qa0,if_pos (by rw[cH];exact kN (by simpa[qb2] using U)),ve];simp[bxK,qb2]
theorem vg(hc:cs≠[])(hs:ss≠[])(hl:cs.length+ss.length<=100):eCo .v [ψ] (iE (e2 .v oAdd.g (eIx (eV 1) (eK (.int 0))) (eIx (eV 1) (eK (.int 1))))) (bnd (.one 0)) (bJ (eIx (eV 0) (eK (.int 2)))) (eIx (eV 0) (eK (.int 0))) (slH cs ss R bg ks inc) ch=ς (.g (.e (((cs++ss).filter λh=>h.2.2).map λh=>.str h.1)),ch):=by
 have hi:iE (e2 .v oAdd.g (eIx (eV 1) (eK (.int 0))) (eIx (eV 1) (eK (.int 1)))) (slH cs ss R bg ks inc) ch=ς ((cs++ss).map Hd.d,ch):=by
  have O:e2 .v oAdd.g (eIx (eV 1) (eK (.int 0))) (eIx (eV 1) (eK (.int 1))) (slH cs ss R bg ks inc) ch=ς (.g (.t ((cs++ss).map Hd.d)),ch):=by
   have U:oAdd.g (.t (cs.map Hd.d)) (.t (ss.map Hd.d))=ς (.f (.t ((cs++ss).map Hd.d))):=by show orO eG iu _ _=_;unfold orO eG;simp[qb7,hc,hs,show cs.length+ss.length<=16777216 by lia]
   rw[cL (x:=.g (.t (cs.map Hd.d))) (y:=.g (.t (ss.map Hd.d))) (ch1:=ch) (ch2:=ch) rfl rfl rfl rfl U];rfl
  unfold iE;rw[O];rfl
 unfold eCo;rw[hi,qa0];have:=dg (pt:=.one 0) (ft:=bJ (eIx (eV 0) (eK (.int 2)))) (fe:=eIx (eV 0) (eK (.int 0))) (δ:=gC [ψ] (slH cs ss R bg ks inc)) (ch:=ch) (f:=Hd.d) (g:=λh:Hd=>.str h.1) (p:=λh:Hd=>h.2.2) (l:=cs++ss) λh _=>⟨_,rfl,by simp! only[gC,Hd.d];simp! [],λ_=>rfl⟩
 rw[this,qa0];dsimp only;rw[if_pos (by rw[qa3,qb7];have:=zc7 (λh:Hd=>h.2.2) (cs++ss);rw[qc5]at this;lia),bG];rfl
theorem vh(U:(ks.map (·.1)).Nodup):eDc .v (eIx (eV 2) (eK (.int 1))) (slH cs ss R bg ks inc) ch=ς (.g (.dct (ks.map λk=>.inl k.1) (ks.map λk=>.t (k.2.map .str))),ch):=by
 have O:eIx (eV 2) (eK (.int 1)) (slH cs ss R bg ks inc) ch=ς (.g (.t (ks.map Kp'.d)),ch):=rfl
 have hp:∀ks:η Kp',aO ch ((ks.map Kp'.d).map .g)=ς (dp (ks.map λk=>(.inl k.1,.t (k.2.map .str)))):=λks=>by
  induction ks with
  |nil=>rfl
  |cons k ks W=>show(cg ch (.g (Kp'.d k))).bind _=_;have h1:cg ch (.g (Kp'.d k))=ς (.inl k.1,.g (.t (k.2.map .str))):=rfl;rw[h1,qa0];show((aO ch ((ks.map Kp'.d).map .g)).map _)=_;rw[W];rfl
 unfold eDc;rw[O,qa0];show((aO ch ((ks.map Kp'.d).map .g)).bind _)=_
 rw[hp,qa0,if_pos (by
  rw[cH,qd5];have e:(ks.map ((λp:Key×Dt=>p.1) ∘ λk:Kp'=>(.inl k.1,.t (k.2.map .str))))=(ks.map (·.1)).map qn8:=by simp[qb2]
  rw[e];exact qm8 _ (λa b h q=>h (qn8.inj q)) U),ve]
 simp[qb2]
noncomputable def sgH(τ:Nat->Nat)(m i:Nat):Nat:=match i with
 |0=>0
 |1=>1+τ 0
 |2=>m+1
 |3=>m+3
 |4=>1+τ 1
 |5=>1+τ 2
 |6=>1+τ 3
 |7=>1+τ 4
 |8=>m+2
 |9=>1+τ 5
 |10=>1+τ 6
 |11=>1+τ 7
 |12=>1+τ 8
 |i+13=>1+τ (i+9)
noncomputable def sJ(k:Nat):Nat:=match k with
 |0=>1
 |1=>4
 |2=>5
 |3=>6
 |4=>7
 |5=>9
 |6=>10
 |7=>11
 |8=>12
 |k+9=>k+13
theorem vj{τ:Nat->Nat}{i:Nat}(hi:i<n+13):((i=0/\sgH τ m i=0)\/(i=2/\sgH τ m i=m+1)\/(i=3/\sgH τ m i=m+3)\/(i=8/\sgH τ m i=m+2))\/∃k,k<n+9/\i=sJ k/\sgH τ m i=1+τ k:=by
 rcases i with _|_|_|_|_|_|_|_|_|_|_|_|_|i
 .exact .inl (.inl ⟨rfl,rfl⟩)
 .exact .inr ⟨0,Θ,rfl,rfl⟩
 .exact .inl (.inr (.inl ⟨rfl,rfl⟩))
 .exact .inl (.inr (.inr (.inl ⟨rfl,rfl⟩)))
 .exact .inr ⟨1,Θ,rfl,rfl⟩
 .exact .inr ⟨2,Θ,rfl,rfl⟩
 .exact .inr ⟨3,Θ,rfl,rfl⟩
 .exact .inr ⟨4,Θ,rfl,rfl⟩
 .exact .inl (.inr (.inr (.inr ⟨rfl,rfl⟩)))
 .exact .inr ⟨5,Θ,rfl,rfl⟩
 .exact .inr ⟨6,Θ,rfl,rfl⟩
 .exact .inr ⟨7,Θ,rfl,rfl⟩
 .exact .inr ⟨8,Θ,rfl,rfl⟩
 .exact .inr ⟨i+9,Θ,rfl,rfl⟩
theorem yj:F18 [.ref 0,I 0] (stC cs ss bg)=ς (.g (.t (h4++[.e (bg.map λs=>Bx.d (s,0)),.e []])),stC cs ss bg):=by unfold stC;generalize (bg.map λs=>Bx.d (s,0))=L;simp! only[q18,h4];simp! []
def yk:F20 [.ref 0] (stC cs ss bg)=ς (I 0,stC cs ss bg):=rfl
theorem vm (hcn:cs≠[]) (hs:ss≠[]) (hz:cs.length+ss.length<=100) (hb:bg.length<=100) (hR:R.length<=1000) (hn:((cs++ss).map (·.1)).Nodup) (hv:∀ h∈ss,0<=h.2.1/\h.2.1<=1000) (hk:(ks.map (·.1)).Nodup) :
  ∃B σ,F22 [.ref 0,.g (pgm cs ss R),.g (cod bg ks),.g (.e inc)] [.ins 3 []]=ς (.g .non,B)/\At σ (hc (shC cs++shS ss) ⟨fx cs ss R ks inc,[Sm.d .wake],h4,h4,bg.map λs=>Bx.d (s,0),[],[],[],0,.non,[],ξ,0⟩ ψ (tlC cs++tlS ss)) B/\σ 0=0:=by
 have hns:(ss.map (·.1)).Nodup:=by rw[qd1,qe1]at hn;exact hn.2.1
 have⟨O,τ,k1,k2,k3⟩:=vd (R:=R) (bg:=bg) hcn hs hz hb hn hv;have hSR:0<O.length:=by have:=k2.lt (i:=0) (by rw[cJ];lia);lia
 obtain⟨U,Z⟩:∃U:η CV,U=[.g (.t (R.map Rw.d)),.g (.e (bX 0 R)),.g (.dct (ss.map λh=>.inr h.1) (ss.map λh=>.int h.2.1)),.g (.e (((cs++ss).filter λh=>h.2.2).map λh=>.str h.1)),.g (.dct (ks.map λk=>.inl k.1) (ks.map λk=>.t (k.2.map .str))),.g (.e inc)]:=⟨_,rfl⟩;obtain⟨S',hS'⟩:∃S':CH,S'=O.map (rnO (1 + ·)):=⟨_,rfl⟩;have W:U.length=6:=by rw[Z];rfl
 have hSl:S'.length=O.length:=by rw[hS',qa3]
 -- the six fixed parts
 have a1:=fX (k:=0) (fs:=[]) (e:=eIx (eV 1) (eK (.int 2))) (d:=.t (R.map Rw.d)) (δ:=slH cs ss R bg ks inc) rfl rfl rfl Ω;have a2:=fX (k:=1) (fs:=[.g (.t (R.map Rw.d))]) (e:=eCa 1 F13 (aCn (eV 1) aNl)) (d:=.e (bX 0 R)) (δ:=slH cs ss R bg ks inc) rfl (by show kCa 1 F13 [.g (pgm cs ss R)] (slH cs ss R bg ks inc) _=_;unfold kCa;rw[if_pos ⟨rfl,rfl⟩];exact pF hR) rfl Ω;have a3:=fX (k:=2) (fs:=[.g (.t (R.map Rw.d)),.g (.e (bX 0 R))]) (δ:=slH cs ss R bg ks inc) rfl (vf (R:=R) (bg:=bg) (ks:=ks) (inc:=inc) (cs:=cs) hns Θ) rfl Ω;have a4:=fX (k:=3) (fs:=[.g (.t (R.map Rw.d)),.g (.e (bX 0 R)),.g (.dct (ss.map λh=>.inr h.1) (ss.map λh=>.int h.2.1))]) (δ:=slH cs ss R bg ks inc) rfl (vg (R:=R) (bg:=bg) (ks:=ks) (inc:=inc) hcn hs hz) rfl Ω;have a5:=fX (k:=4) (fs:=[.g (.t (R.map Rw.d)),.g (.e (bX 0 R)),.g (.dct (ss.map λh=>.inr h.1) (ss.map λh=>.int h.2.1)),.g (.e (((cs++ss).filter λh=>h.2.2).map λh=>.str h.1))]) (δ:=slH cs ss R bg ks inc) rfl (vh (R:=R) (bg:=bg) (inc:=inc) (cs:=cs) (ss:=ss) hk) rfl Ω;have a6:=fX (k:=5) (fs:=[.g (.t (R.map Rw.d)),.g (.e (bX 0 R)),.g (.dct (ss.map λh=>.inr h.1) (ss.map λh=>.int h.2.1)),.g (.e (((cs++ss).filter λh=>h.2.2).map λh=>.str h.1)),.g (.dct (ks.map λk=>.inl k.1) (ks.map λk=>.t (k.2.map .str)))]) (e:=eB .v bList.g (aCn (eV 3) aNl)) (d:=.e inc) (δ:=slH cs ss R bg ks inc) rfl rfl rfl Ω;rwa[qh9,ql3]at a1 a2 a3 a4 a5 a6;rw[<- Z]at a6
 -- the store
 have m7:=eO (F:=F14) (c:=2) (n:=3) (ch:=[.ins 3 U]) (δ:=slH cs ss R bg ks inc) (fs:=aCn (eV 1) (aCn (eIx (eV 2) (eK (.int 0))) aNl)) (ds:=[pgm cs ss R,.t (bg.map .str)]) (ay _) rfl rfl k1 hSR
 have a7:sFl 3 6 (eV 0) (eMk 2 3 F14 (aCn (eV 1) (aCn (eIx (eV 2) (eK (.int 0))) aNl))) (slH cs ss R bg ks inc) [.ins 3 U]=ς (.nx (slH cs ss R bg ks inc) (.ins 3 (U++[.ref 1])::S')):=by unfold sFl;rw[m7,qa0,hS'];simp[eV,lent,cP,CV.sol,W]
 -- the hand
 have m8:=eO (F:=F15) (c:=0) (n:=1) (ch:=.ins 3 (U++[.ref 1])::S') (δ:=slH cs ss R bg ks inc) (fs:=aNl) (ds:=[]) (a':=[.ins 0 [.ref 1,.g (.bl ξ)],.dK []]) (ay _) rfl rfl rfl Ξ
 have a8:sFl 3 7 (eV 0) (eMk 0 1 F15 aNl) (slH cs ss R bg ks inc) (.ins 3 (U++[.ref 1])::S')=ς (.nx (slH cs ss R bg ks inc) (.ins 3 (U++[.ref 1,.ref (S'.length+1)])::(S'++[.ins 0 [.ref (S'.length+2),.g (.bl ξ)],.dK []]))):=by unfold sFl;rw[m8,qa0];simp[eV,lent,cP,CV.sol,W,rnO,rn,rnP]
 obtain⟨H,hH⟩:∃H:CH,H=S'++[.ins 0 [.ref (S'.length+2),.g (.bl ξ)],.dK []]:=⟨_,rfl⟩;rw[<- hH]at a8;have hHl:H.length=S'.length+2:=by rw[hH];simp
 have a9:sFl 3 8 (eV 0) (eK (.int 0)) (slH cs ss R bg ks inc) (.ins 3 (U++[.ref 1,.ref (S'.length+1)])::H)=ς (.nx (slH cs ss R bg ks inc) (.ins 3 (U++[.ref 1,.ref (S'.length+1),I 0])::H)):=by simp[sFl,eK,eV,lent,cP,CV.sol,W]
 have a10:sFl 3 9 (eV 0) (eK .non) (slH cs ss R bg ks inc) (.ins 3 (U++[.ref 1,.ref (S'.length+1),I 0])::H)=ς (.nx (slH cs ss R bg ks inc) (.ins 3 (U++[.ref 1,.ref (S'.length+1),I 0,.g .non])::H)):=by simp[sFl,eK,eV,lent,cP,CV.sol,W]
 -- the plan
 have emb:∀X L,Em (1 + ·) O (X::(S'++L))->True:=λ_ _ _=>trivial
 have atS:∀(X:CO)(L:CH),At (λi=>1+τ i) (stC cs ss bg) (X::(S'++L)):=λX L=>⟨λi j hi hj e=>k2.inj i j hi hj (by have e:1+τ i=1+τ j:=e;lia),λ{i o} hi=>by have h1:=k2.get hi;show(X::(S'++L))[1+τ i]?=_;rw[zb8,qd3,gL (by rw[hSl];exact ak h1),hS',qa6,h1,qb0,o0]⟩
 obtain⟨X,hX⟩:∃X:CO,X=.ins 3 (U++[.ref 1,.ref (S'.length+1),I 0,.g .non]):=⟨_,rfl⟩;have atH:At (λi=>1+τ i) (stC cs ss bg) (X::H):=by rw[hH];exact atS _ _
 have cl0':∀as:η Dt,(CV.ref 0::as.map .g).all (clV (stC cs ss bg).length)=θ:=λas=>by simp[clV,cJ]
 have pf:F20 [.ref 1] (X::H)=ς (I 0,X::H):=by have:=atH.pure (F:=F20) (args:=[.ref 0]) (ay _) vb (cl0' []) yk;rwa[rnA,qa2,qe3,rn,k3]at this;exact this
 have pp:F18 [.ref 1,I 0] (X::H)=ς (.g (.t (h4++[.e (bg.map λs=>Bx.d (s,0)),.e []])),X::H):=by have:=atH.pure (F:=F18) (args:=[.ref 0,I 0]) (ay _) vb (cl0' [.int 0]) yj;rwa[rnA,qa2,qe3,rn,k3]at this;exact this
 have h1:∃f,(X::H)[1]?=ς (.ins 2 f):=by have:=atH.get (i:=0) rfl;rw[k3]at this;exact⟨_,this⟩
 have⟨fst,h1⟩:=h1;have h0:(X::H)[0]?=ς (.ins 3 (U++[.ref 1,.ref (S'.length+1),I 0,.g .non])):=by rw[hX];rfl
 have h06:(U++[.ref 1,.ref (S'.length+1),I 0,.g .non])[6]?=ς (.ref 1):=by rw[Z];rfl
 obtain⟨Q,hQ⟩:∃Q:CH,Q=X::H:=⟨_,rfl⟩;rw[<- hQ]at h0 h1 pf pp
 have m21':F21 [.ref 0] Q=ς (I 0,Q):=by simp! only[q21];simp[lent,h0,h06,h1,CV.old,pf,CV.sol]
 have m19':F19 [.ref 0,I 0] Q=ς (.g (.t (h4++[.e (bg.map λs=>Bx.d (s,0)),.e []])),Q):=by simp! only[q19];simp[lent,h0,h06,h1,CV.old,pp,CV.sol]
 have m17:=jE (ch:=X::H) (a:=.int 0) (b:=.int 0) (c:=.int 0) (d:=.int 0) (e:=.e (bg.map λs=>Bx.d (s,0))) (ts:=[]) (by rw[qb7];decide);have hXl:(X::H).length=S'.length+3:=by simp[hHl]
 rw[hXl]at m17;have m17':F17 [.g (.t (h4++[.e (bg.map λs=>Bx.d (s,0)),.e []]))] (X::H)=ς (.ref (S'.length+3),X::H++[dl [Sm.d .wake]]):=m17
 have a11:sFl 3 10 (eV 0) (eCa 1 F17 (aCn (eMe 3 2 F19 (eV 0) (aCn (eMe 3 1 F21 (eV 0) aNl) aNl)) aNl)) (slH cs ss R bg ks inc) (X::H)=ς (.nx (slH cs ss R bg ks inc) (.ins 3 (U++[.ref 1,.ref (S'.length+1),I 0,.g .non,.ref (S'.length+3)])::(H++[dl [Sm.d .wake]]))):=by
  have he:eCa 1 F17 (aCn (eMe 3 2 F19 (eV 0) (aCn (eMe 3 1 F21 (eV 0) aNl) aNl)) aNl) (slH cs ss R bg ks inc) (X::H)=ς (.ref (S'.length+3),X::H++[dl [Sm.d .wake]]):=by rw[<- hQ]at m17' ⊢;rwa[eCa,kCa,aCn,eMe,aNl,eV];simp[lent,h0,CV.old,m21',m19',m17']
  unfold sFl;rw[he,qa0,hX];simp[eV,lent,cP,CV.sol,W]
 refine⟨_,sgH τ O.length,by rw[q22];rw[hX]at a11;exact nJ (ah a1 (ah a2 (ah a3 (ah a4 (ah a5 (ah a6 (ah a7 (ah a8 (ah a9 (ah a10 (ah a11 rfl))))))))))),?_,rfl⟩;have hBH:H++[dl [Sm.d .wake]]=S'++[.ins 0 [.ref (O.length+2),.g (.bl ξ)],.dK [],dl [Sm.d .wake]]:=by rw[hH,hSl];simp
 rw[hBH,hSl];have A:=atS (.ins 3 (U++[.ref 1,.ref (O.length+1),I 0,.g .non,.ref (O.length+3)])) [.ins 0 [.ref (O.length+2),.g (.bl ξ)],.dK [],dl [Sm.d .wake]];obtain⟨B,hB⟩:∃B:CH,B=.ins 3 (U++[.ref 1,.ref (O.length+1),I 0,.g .non,.ref (O.length+3)])::(S'++[.ins 0 [.ref (O.length+2),.g (.bl ξ)],.dK [],dl [Sm.d .wake]]):=⟨_,rfl⟩;rw[<- hB]at A ⊢
 have tlB:∀j,B[O.length+1+j]?=([.ins 0 [.ref (O.length+2),.g (.bl ξ)],.dK [],dl [Sm.d .wake]]:CH)[j]?:=λj=>by rw[hB,show O.length+1+j=O.length+j+1 by lia,qd3,<- hSl];exact vc
 have hr:rnP (sgH τ O.length) (aa 13 (shC cs++shS ss))=rnP (λi=>1+τ i) (aa 9 (shC cs++shS ss)):=by
  have:∀{sh:Sh}{a b:Nat},(∀k,sgH τ O.length (a+13+k)=1+τ (a+9+k))->True:=λ_=>trivial
  have g:∀(sh:Sh)(a:Nat),rnP (sgH τ O.length) (aa (a+13) sh)=rnP (λi=>1+τ i) (aa (a+9) sh):=λsh=>by
   induction sh with
   |nil=>intro a;rfl
   |cons p r ih=>intro a;have:=ih (a+1);rw[show a+1+13=a+13+1 by lia,show a+1+9=a+9+1 by lia]at this;rwa[rnP,aa,qa2,rn]at this ⊢;rw[this];rfl
  exact g _ 0
 have gt:=λk o h=>A.get (i:=k) (o:=o) h
 refine jF (λi j hi hj e=>?_) ?_ (gt 0 _ rfl) ?_ ?_ ?_ (gt 2 _ rfl) (gt 3 _ rfl) (gt 4 _ rfl) ?_ ?_ (gt 6 _ rfl) (gt 7 _ rfl) (gt 8 _ rfl) λi o hi=>?_
 .have hN:(ao ψ (tlC cs++tlS ss)).length=cs.length+ss.length:=by simp[ao,tlC,tlS]
  rw[hN]at hi hj;have lt:∀k,k<cs.length+ss.length+9->τ k<O.length:=λk hk=>k2.lt (by rw[cJ];exact hk)
  rcases vj (τ:=τ) (m:=O.length) hi with hi'|⟨a,ha,rfl,ea⟩<;>rcases vj (τ:=τ) (m:=O.length) hj with hj'|⟨b,hb',rfl,eb⟩
  .rcases hi' with ⟨rfl,x⟩|⟨rfl,x⟩|⟨rfl,x⟩|⟨rfl,x⟩<;>rcases hj' with ⟨rfl,y⟩|⟨rfl,y⟩|⟨rfl,y⟩|⟨rfl,y⟩<;>first|rfl|(rw[x,y]at e;lia)
  .have:=lt b hb';rw[eb]at e;rcases hi' with ⟨rfl,x⟩|⟨rfl,x⟩|⟨rfl,x⟩|⟨rfl,x⟩<;>(rw[x]at e;lia)
  .have:=lt a ha;rw[ea]at e;rcases hj' with ⟨rfl,x⟩|⟨rfl,x⟩|⟨rfl,x⟩|⟨rfl,x⟩<;>(rw[x]at e;lia)
  .rw[ea,eb]at e;rw[k2.inj a b (by rw[cJ];exact ha) (by rw[cJ];exact hb') Θ]
 .rw[hB,Z];rwa[sgH,qi0,hO,rnO,fx,qa2,qe3,rn,lvO,k3,ql3,qh9]
 .exact tlB 0
 .exact tlB 2
 .have:=gt 1 _ rfl;rwa[rnO]at this ⊢;rw[show off ψ=13 from rfl,hr];exact this
 .exact tlB 1
 .have:=gt 5 _ rfl;rw[cM]at this;exact this
 .have hi:(tlC cs++tlS ss)[i]?=ς o:=hi;have:=gt (i+9) o hi;have⟨L,rfl⟩:=uZ (qa5 hi);rw[cM]at this ⊢;exact this
end
def RwP(cs ss:η Hd):Rw->Prop
 |.op _ _ a b=>bq a/\bq b
 |.load _ n=>n∈cs.map (·.1)
 |.store n a=>n∈cs.map (·.1)/\bq a
 |.take _ n a=>n∈ss.map (·.1)/\bq a
 |.lay n a b=>n∈ss.map (·.1)/\bq a/\bq b
 |.copy _ a|.say a|.fin a=>bq a
 |.hear _|.ife _ _|.go _=>True
structure Pr(cs ss:List Hd)(R:List Rw)(bg:List Str)(ks:List Kp')(inc:List Dt):Prop where
 c0:cs≠[]
 s0:ss≠[]
 len:cs.length+ss.length<=100
 nd:((cs++ss).map (·.1)).Nodup
 cv:∀h∈cs,Vi (.int h.2.1)
 sv:∀h∈ss,0<h.2.1/\h.2.1<=1000
 rl:0<R.length/\R.length<=1000
 row:∀r∈R,RwP cs ss r
 lead:∀(i:Nat) r p,R[i]?=ς r->iD i r p->∃j:Nat,p=j/\j<R.length
 bn:bg.Nodup/\bg.length<=6
 kn:(ks.map (·.1)).Nodup
 kb:∀k∈ks,k.2.Nodup/\k.2.length<=6
 inc:∀d∈inc,Vi d
section
variable{cs ss:η Hd}{R:η Rw}{bg:η Str}{ks:η Kp'}{inc:η Dt}
def nX{α:Type}{l:η α}{a:α}(h:a∈l):∃k:Nat,l[k]?=ς a:=qt1.mp h
def Co{n:Str}(h:n∈cs.map (·.1)):Vp (shC cs++shS ss) n 0:=by
 have⟨a,U,rfl⟩:=qc8.mp h;have⟨k,O⟩:=nX U;refine⟨k,1,?_,Θ⟩;have:(shC cs)[k]?=ς (a.1,1):=by simp[shC,O]
 rw[gL (ak this)];exact this
theorem vp_s(hs:∀h∈ss,0<h.2.1/\h.2.1<=1000){n:Str}(h:n∈ss.map (·.1)):Vp (shC cs++shS ss) n 0:=by have⟨a,O,rfl⟩:=qc8.mp h;have⟨k,U⟩:=nX O;have:=hs a O;refine⟨(shC cs).length+k,a.2.1.toNat,?_,Θ⟩;rw[gR Θ,qg0];simp[shS,U]
theorem vn:∀{ss:η Hd}{k:Nat}{a:Hd},(ss.map (·.1)).Nodup->ss[k]?=ς a->av (ss.map λh=>(qk9 h.1:Key)) (ss.map λh=>.int h.2.1) (qk9 a.1)=ς (.int a.2.1)
 |[],_,_,_,h=>by simp at h
 |b::ss,0,a,_,h=>by cases h;simp[av]
 |b::ss,k+1,a,W,h=>by
  have O:=qd7.mp W;have U:a.1∈ss.map (·.1):=qc8.mpr ⟨a,qa5 h,rfl⟩;have:¬ b.1=a.1:=λe=>O.1 (by show b.1∈_;rw[e];exact U)
  have Z:=vn (ss:=ss) (k:=k) O.2 ‹h›;rwa[qa2,av,qk9.injEq,this,if_false];exact Z
def sh_s(P:Pr cs ss R bg ks inc){n:Str}(h:n∈ss.map (·.1)):Cb (fx cs ss R ks inc) (shC cs++shS ss) n:=by
 have⟨a,O,rfl⟩:=qc8.mp h;have⟨k,U⟩:=nX O;have W:=P.sv a O;refine⟨(shC cs).length+k,a.2.1.toNat,?_,Θ,?_⟩
 .rw[gR Θ,qg0];simp[shS,U]
 .have:=vn (by have:=P.nd;rw[qd1,qe1]at this;exact this.2.1) U;rw[show((a.2.1.toNat:Nat):Int)=a.2.1 by lia];exact this
def Pr.xr(P:Pr cs ss R bg ks inc):XR (fx cs ss R ks inc) R (shC cs++shS ss):=by
 refine⟨⟨?_,λd O=>?_,P.inc⟩,rfl,λi r h=>?_,λr hr=>?_,P.lead,λk d h=>?_⟩
 .have:(shC cs++shS ss).map (·.1)=(cs++ss).map (·.1):=by simp[shC,shS,qb2]
  rw[this];exact P.nd
 .rwa[fx,qc8]at O;have⟨h,_,rfl⟩:=O;exact⟨_,rfl⟩
 .have:=pz (k:=0) h;rw[qw4]at this;exact this
 .have:=P.row r hr;cases r with
  |op x sg a b=>exact this
  |load x n=>exact Co this
  |store n a=>exact⟨Co this.1,this.2⟩
  |take x n a=>exact⟨sh_s P this.1,this.2⟩
  |lay n a b=>exact⟨sh_s P this.1,this.2⟩
  |copy x a=>exact this
  |say a=>exact this
  |fin a=>exact this
  |hear x=>trivial
  |ife x t=>trivial
  |go t=>trivial
 .have:∀{ks:η Kp'},av (ks.map λk=>(qn8 k.1:Key)) (ks.map λk=>.t (k.2.map .str)) k=ς d->∃q∈ks,d=.t (q.2.map .str):=λ{ks}=>by
   induction ks with
   |nil=>intro h;cases h
   |cons q ks Z=>
    intro h;rwa[qa2,av]at h;split at h
    .cases h;exact⟨q,.head _,rfl⟩
    .have⟨W,h1,h2⟩:=Z h;exact⟨W,.tail _ h1,h2⟩
  have⟨q,U,rfl⟩:=this h;exact⟨q.2,rfl,(P.kb q U).1,(P.kb q U).2⟩
def st0(cs ss:η Hd)(R:η Rw)(bg:η Str)(ks:η Kp')(inc:η Dt):St:=(⟨fx cs ss R ks inc,[Sm.d .wake],h4,h4,bg.map λs=>Bx.d (s,0),[],[],[],0,.non,[],ξ,0⟩,ψ,tlC cs++tlS ss)
def Pr.g0(P:Pr cs ss R bg ks inc):G (fx cs ss R ks inc) R (shC cs++shS ss) (10,st0 cs ss R bg ks inc):=by
 have z:Vi (.int 0):=⟨0,rfl,Θ,Θ⟩;have U:∃(i:Nat)(b c d:Int),h4=[.int i,.int b,.int c,.int d]/\i<R.length/\0<=c:=⟨0,0,0,0,rfl,P.rl.1,Θ⟩;refine⟨[.wake],bg.map λs=>(s,0),[],⟨rfl,rfl,⟨rfl,rfl⟩,Ξ,⟨U,?_,?_,λb hb=>?_,?_,[],rfl,Ξ,Ξ⟩,⟨U,rfl,Ξ,Ξ,Ξ,[],rfl,Ξ,Ξ⟩,.inl rfl,.inl rfl,⟨by simp[st0],by simp[st0]⟩,z,λl e=>(by cases e),?_⟩⟩
 .simp[st0,qb2]
 .simpa[qb2] using P.bn.1
 .have⟨s,_,rfl⟩:=qc8.mp hb;exact z
 .simp;have:=P.bn.2;lia
 .refine⟨by simp[st0,tlC,tlS,shC,shS],λ{k n m} O=>?_⟩;rcases qk1 k (shC cs).length with hl|hl
  .rw[gL hl]at O;rwa[shC,qa6]at O;have⟨a,h1,h2⟩:=mS O;cases h2;have:(tlC cs)[k]?=ς (dl [.int a.2.1]):=by simp[tlC,h1]
   exact⟨[.int a.2.1],by show(tlC cs++tlS ss)[k]?=_;rw[qg5 (ak this)];exact this,rfl,‹P.cv a (qa5 h1)›⟩
  .rw[gR hl]at O;rwa[shS,qa6]at O;have⟨a,h1,h2⟩:=mS O;cases h2;have W:(shC cs).length=(tlC cs).length:=by simp[shC,tlC]
   refine⟨qa9 a.2.1.toNat (.int 0),?_,Ξ,λd U=>?_⟩
   .show(tlC cs++tlS ss)[k]?=_;rw[gR Θ,<- W];simp[tlS,h1]
   .rw[qw2]at U;rw[U.2];exact z
theorem Pr.house(P:Pr cs ss R bg ks inc):∃B σ,F22 [.ref 0,.g (pgm cs ss R),.g (cod bg ks),.g (.e inc)] [.ins 3 []]=ς (.g .non,B)/\At σ (c (shC cs++shS ss) (st0 cs ss R bg ks inc)) B/\σ 0=0:=vm P.c0 P.s0 P.len (by have:=P.bn.2;lia) P.rl.2 P.nd (λh O=>by have:=P.sv h O;lia) P.kn
end
structure PN where
 x:Fx
 out:List Dt
 bx:List (Key×Dt)
 ce:List (Key×Dt)
 pl:Int
 he:Int
 dn:Int
 res:Dt
def pn(sh:Sh)(S:PN)(tl:CH):CH:=.ins 4 [.g (.t S.x.rows),.g (.e S.x.onw),.g (.e S.x.inc),.ref 1,.ref 2,.ref 3,.ref 4,I S.pl,I S.he,I S.dn,.g S.res]::dl S.out::.dK (dp S.bx)::.dK (dp S.ce)::.dK (aa 5 sh)::tl
section
variable{sh:Sh}{S:PN}{tl:CH}
theorem yl:(pn sh S tl)[0]?=ς (.ins 4 [.g (.t S.x.rows),.g (.e S.x.onw),.g (.e S.x.inc),.ref 1,.ref 2,.ref 3,.ref 4,I S.pl,I S.he,I S.dn,.g S.res]):=rfl
def pn_2:(pn sh S tl)[2]?=ς (.dK (dp S.bx)):=rfl
def pn_t{k:Nat}:(pn sh S tl)[k+5]?=tl[k]?:=rfl
structure PO(x:Fx)(R:List Rw)(cn:List Str)(sh:Sh)(N:Nat)(S:PN)(tl:CH):Prop where
 hx:S.x=x
 on:S.out.length<=N
 bx:∀p∈S.bx,Vi p.2
 bn:S.bx.length<=N
 ce:∀p∈S.ce,Vi p.2
 cl:S.ce.length<=N
 ci:∀n∈cn,(av (S.ce.map (·.1)) (S.ce.map (·.2)) (qk9 n)).isSome=θ
 pl:∃i:Nat,S.pl=i/\i<R.length
 he:0<=S.he
 rs:S.res=.non\/∃i,S.res=.int i
 tl:TlOk tl sh
def RwQ(cn:η Str)(sh:Sh):Rw->Prop
 |.op _ _ a b=>bq a/\bq b
 |.load _ n=>n∈cn
 |.store n a=>n∈cn/\bq a
 |.take _ n a=>Vp sh n 0/\bq a
 |.lay n a b=>Vp sh n 0/\bq a/\bq b
 |.copy _ a|.say a|.fin a=>bq a
 |.hear _|.ife _ _|.go _=>True
structure XQ(x:Fx)(R:List Rw)(cn:List Str)(sh:Sh):Prop where
 nd:(sh.map (·.1)).Nodup
 inc:∀d∈x.inc,Vi d
 rows:x.rows=R.map Rw.d
 onw:∀(i:Nat) r,R[i]?=ς r->x.onw[i]?=ς (l8 i r)
 rok:∀r∈R,RwQ cn sh r
 lead:∀(i:Nat) r p,R[i]?=ς r->iD i r p->∃j:Nat,p=j/\j<R.length
omit x in
theorem mw{κ:Type}[DecidableEq κ]{k k':κ}{d:Dt}:∀{b:η (κ×Dt)},(av (b.map (·.1)) (b.map (·.2)) k').isSome=θ->(av ((bI b k d).map (·.1)) ((bI b k d).map (·.2)) k').isSome=θ
 |[],h=>by cases h
 |p::b,h=>by
  unfold bI;rwa[qa2,av]at h;split
  .rwa[qa2,av];split at h
   .rename_i e;rw[if_pos e];rfl
   .rename_i e;rw[if_neg e];exact h
  .rwa[qa2,av];split at h
   .rename_i e;rw[if_pos e];rfl
   .rename_i e;rw[if_neg e];exact mw h
variable{x:Fx}{R:η Rw}{cn:η Str}{N:Nat}
def k7(hb:∀p∈S.bx,Vi p.2)(a:Key)(U:bq a):∃v,Vi (.int v)/\F71 [.ref 0,.g (aw a)] (pn sh S tl)=ς (I v,pn sh S tl):=by
 cases a with
 |inl i=>
  have:Vi (.int i):=by rcases U with h|⟨s,h⟩;exact h;cases h
  refine⟨i,this,?_⟩;simp! only[q71];simp! [aw]
 |inr s=>
  have O:∃v,Vi (.int v)/\((av (S.bx.map (·.1)) (S.bx.map (·.2)) (.inr s)).map .g).getD (I 0)=I v:=by
   cases q:av (S.bx.map (·.1)) (S.bx.map (·.2)) (qk9 s)with
   |none=>exact⟨0,⟨0,rfl,Θ,Θ⟩,rfl⟩
   |some d=>have⟨i,h1,h2⟩:=hb _ (aW q);cases h1;exact⟨i,⟨i,rfl,h2⟩,rfl⟩
  have⟨v,h1,h2⟩:=O
  have W:F70 [.ref 0,.g (.str s)] (pn sh S tl)=ς (I v,pn sh S tl):=by simp! only[q70];simp! [yl,pn_2,iz,h2]
  refine⟨v,h1,?_⟩;simp! only[q71];simp! [aw,yl,W]
theorem ym(hi:∀d∈S.x.inc,Vi d)(W:0<=S.he):∃v,Vi (.int v)/\F72 [.ref 0] (pn sh S tl)=ς (I v,pn sh {S with he:=S.he+1} tl):=by
 have U:(pn sh S tl).set 0 (.ins 4 [.g (.t S.x.rows),.g (.e S.x.onw),.g (.e S.x.inc),.ref 1,.ref 2,.ref 3,.ref 4,I S.pl,I (S.he+1),I S.dn,.g S.res])=pn sh {S with he:=S.he+1} tl:=rfl;by_cases h:S.he<S.x.inc.length
 .have⟨p,hp⟩:=qg1 W;have O:p<S.x.inc.length:=by lia
  have⟨i,h1,h2⟩:=hi S.x.inc[p] (ql4 O);refine⟨i,⟨i,rfl,h2⟩,?_⟩;have Z:ixD (.e S.x.inc) (.int S.he)=ς (.int i):=by rw[hp];simp[ixD,bQ,gIx,atI,dD O,O,h1]
  simp! only[q72];dsimp! [yl,U,h,Z]
 .refine⟨0,⟨0,rfl,Θ,Θ⟩,?_⟩;simp! only[q72];simp! [yl,U,h]
theorem vo(Z:(sh.map (·.1)).Nodup)(hT:TlOk tl sh){n:Str}(hp:Vp sh n 0)(v:Int):∃(k:Nat)(L:η Dt)(q m:Nat),sh[k]?=ς (n,m)/\lkC (aa 5 sh) (.inr n)=ς (.ref (k+5))/\tl[k]?=ς (dl L)/\L.length=m/\(∀d∈L,Vi d)/\q<L.length/\v%(L.length:Int)=q/\0<L.length:=by
 have⟨k,m,h1,h2⟩:=hp;have⟨L,W,h4,U⟩:=hT.at_ h1;have O:(0:Int)<L.length:=by lia
 have e1:=qi1 v (show(L.length:Int)≠0 by lia);have e2:=qf5 v O;exact⟨k,L,(v%(L.length:Int)).toNat,m,h1,dE Z h1,W,h4,U,Θ,Θ,Θ⟩
omit x in
theorem vq(r:Rw)(hs:zi r=θ)(X:XQ x R cn sh)(O:RwQ cn sh r)(o:PO x R cn sh N S tl):∃v h',Vi (.int v)/\0<=h'/\F73 [.ref 0,.g r.d] (pn sh S tl)=ς (I v,pn sh {S with he:=h'} tl):=by
 have same:pn sh {S with he:=S.he} tl=pn sh S tl:=rfl;have W:∀a,bq a->∃v,Vi (.int v)/\F71 [.ref 0,.g (aw a)] (pn sh S tl)=ς (I v,pn sh S tl):=λa ha=>k7 o.bx a ha
 cases r<;>try(cases hs;done)
 .rename_i x sg a b;have⟨v,U,h1⟩:=W a O.1;have⟨w,hw,h2⟩:=W b O.2;have⟨z,hz,h3⟩:=l6 (sg:=sg) (a:=v) (b:=w) (ch:=pn sh S tl) hw;exact⟨z,S.he,hz,o.he,xR (.v 0 h1 (.v 0 h2 (.v 0 h3 .nil)))⟩
 .rename_i y n;have⟨d,hd⟩:=qe9.mp (o.ci n O);have⟨i,h1,h2⟩:=o.ce _ (aW hd);cases h1;have g:ixV (pn sh S tl) (.ref 3) (.str n)=ς (I i):=by show(lkC (dp S.ce) (.inr n))=_;rw[iz,hd];rfl
  exact⟨i,S.he,⟨i,rfl,h2⟩,o.he,xR (.c 4 g .nil)⟩
 .rename_i y n a;have⟨v,U,h1⟩:=W a O.2;have⟨k,L,q,m,g1,g2,g3,g4,g5,Z,g7,g8⟩:=vo X.nd o.tl O.1 v;have⟨i,e1,e2'⟩:=g5 L[q] (ql4 Z)
  exact⟨i,S.he,⟨i,rfl,e2'⟩,o.he,xR (.c 5 (show ixV (pn sh S tl) (.ref 4) (.str n)=ς (.ref (k+5))from g2) (.v 0 h1 (.d 0 (vl (ch:=pn sh S tl) (i:=k+5) (L:=L) g3) (.t 1 (B7 g7 g8) (.c 0 (show ixV (pn sh S tl) (.ref (k+5)) (.int q)=ς (I i)by show((pn sh S tl)[k+5]?).bind _=_;rw[pn_t,g3];show atI (L.map CV.g) (q:Int)=_;unfold atI;rw[qa3,dD Z];show(L.map CV.g)[q]?=_;rw[qa6,gQ Z,e1];rfl) .nil)))))⟩
 .rename_i y a;have⟨v,U,h1⟩:=W a O;exact⟨v,S.he,U,o.he,xR (.v 0 h1 .nil)⟩
 .have⟨v,U,h1⟩:=ym (sh:=sh) (S:=S) (tl:=tl) (by rw[o.hx];exact X.inc) o.he;exact⟨v,S.he+1,U,by have:=o.he;lia,xR (.v 0 h1 .nil)⟩
theorem prow(r:Rw)(hs:∀a,r≠.fin a)(X:XQ x R cn sh)(hr:RwQ cn sh r)(o:PO x R cn sh N S tl)(hN:N<qa4):∃S' tl',F74 [.ref 0,.g r.d] (pn sh S tl)=ς (.g .non,pn sh S' tl')/\PO x R cn sh (N+1) S' tl'/\S'.pl=S.pl/\S'.res=S.res:=by
 have up:PO x R cn sh (N+1) S tl:=⟨o.hx,qd6 o.on,o.bx,qd6 o.bn,o.ce,qd6 o.cl,o.ci,o.pl,o.he,o.rs,o.tl⟩;have wa:∀a,bq a->∃v,Vi (.int v)/\F71 [.ref 0,.g (aw a)] (pn sh S tl)=ς (I v,pn sh S tl):=λa ha=>k7 o.bx a ha
 have W:S.bx.length<qa4:=qe4 o.bn hN;have hcl:S.ce.length<qa4:=qe4 o.cl hN;have hol:S.out.length<qa4:=qe4 o.on hN;have O:∀(v h':Int)(y:Str),Vi (.int v)->0<=h'->PO x R cn sh (N+1) {S with he:=h',bx:=bI S.bx (.inr y) (.int v)} tl:=λv h' y U Z=>⟨up.hx,up.on,λp hp=>by rcases dB hp with rfl|hp;exact U;exact o.bx p hp,qd2 dC (qn3 o.bn),up.ce,up.cl,up.ci,up.pl,Z,up.rs,up.tl⟩
 cases r with
 |op y sg a b=>have⟨v,h',U,Z,h1⟩:=vq (.op y sg a b) rfl X hr o;exact⟨_,tl,xR (.v 0 h1 (.p 0 (iA (b:=S.bx) (x:=y) (v:=.int v) W) .nil)),O v h' y U Z,rfl,rfl⟩
 |load y n=>have⟨v,h',U,Z,h1⟩:=vq (.load y n) rfl X hr o;exact⟨_,tl,xR (.v 0 h1 (.p 0 (iA (b:=S.bx) (x:=y) (v:=.int v) W) .nil)),O v h' y U Z,rfl,rfl⟩
 |take y n a=>have⟨v,h',U,Z,h1⟩:=vq (.take y n a) rfl X hr o;exact⟨_,tl,xR (.v 0 h1 (.p 0 (iA (b:=S.bx) (x:=y) (v:=.int v) W) .nil)),O v h' y U Z,rfl,rfl⟩
 |copy y a=>have⟨v,h',U,Z,h1⟩:=vq (.copy y a) rfl X hr o;exact⟨_,tl,xR (.v 0 h1 (.p 0 (iA (b:=S.bx) (x:=y) (v:=.int v) W) .nil)),O v h' y U Z,rfl,rfl⟩
 |hear y=>have⟨v,h',U,Z,h1⟩:=vq (.hear y) rfl X hr o;exact⟨_,tl,xR (.v 0 h1 (.p 0 (iA (b:=S.bx) (x:=y) (v:=.int v) W) .nil)),O v h' y U Z,rfl,rfl⟩
 |store n a=>
  have⟨v,U,h1⟩:=wa a hr.2;refine⟨{S with ce:=bI S.ce (.inr n) (.int v)},tl,?_,⟨up.hx,up.on,up.bx,up.bn,λp hp=>?_,qd2 dC (qn3 o.cl),λm hm=>mw (o.ci m hm),up.pl,up.he,up.rs,up.tl⟩,rfl,rfl⟩
  .exact xR (.v 0 h1 (.p 0 (iA (b:=S.ce) (x:=n) (v:=.int v) hcl) .nil))
  .rcases dB hp with rfl|hp
   .exact U
   .exact o.ce p hp
 |lay n a b=>
  have⟨w,hw,h2⟩:=wa b hr.2.2;have⟨v,U,h1⟩:=wa a hr.2.1;have⟨k,L,q,m,g1,g2,g3,g4,g5,g6,g7,g8⟩:=vo X.nd o.tl hr.1 v;refine⟨S,tl.set k (dl (L.set q (.int w))),?_,⟨up.hx,up.on,up.bx,up.bn,up.ce,up.cl,up.ci,up.pl,up.he,up.rs,o.tl.set g1 (by simp[g4]) λd hd=>?_⟩,rfl,rfl⟩
  .exact xR (.c 3 (show ixV (pn sh S tl) (.ref 4) (.str n)=ς (.ref (k+5))from g2) (.v 0 h2 (.v 0 h1 (.d 0 (vl (ch:=pn sh S tl) (i:=k+5) (L:=L) g3) (.t 1 (B7 g7 g8) (.h 0 (show(pn sh S tl)[k+5]?=ς (dl L)from g3) (.p 0 (show gk (dl L) (.int q) (I w)=ς (dl (L.set q (.int w)))by show(ixN (L.map CV.g).length (q:Int)).map _=_;rw[qa3,dD g6,dl,qr2];rfl) .nil)))))))
  .rcases qp6 hd with hd|rfl
   .exact g5 d hd
   .exact hw
 |say a=>have⟨v,U,h1⟩:=wa a hr;refine⟨{S with out:=S.out++[.int v]},tl,?_,⟨up.hx,by have:=o.on;simp;lia,up.bx,up.bn,up.ce,up.cl,up.ci,up.pl,up.he,up.rs,up.tl⟩,rfl,rfl⟩;exact xR (.v 0 h1 (.p 0 (lY (d:=.int v) hol) .nil))
 |ife y t=>exact⟨S,tl,xR .nil,up,rfl,rfl⟩
 |go t=>exact⟨S,tl,xR .nil,up,rfl,rfl⟩
 |fin a=>exact absurd rfl (hs a)
end
section
variable{sh:Sh}{S:PN}{tl:CH}{x:Fx}{R:η Rw}{cn:η Str}{N:Nat}
theorem yn(r:Rw)(hs:∀a,r≠.fin a){i:Nat}(hi:S.pl=i)(W:S.x.onw[i]?=ς (l8 i r))(hb:∀p∈S.bx,Vi p.2):∃p,iD i r p/\F75 [.ref 0,.g r.d] (pn sh S tl)=ς (I p,pn sh S tl):=by
 have O:=(gG (ch:=pn sh S tl) hi W).1;cases r with
 |ife y t=>
  have⟨v,Z,h1⟩:=k7 (sh:=sh) (tl:=tl) hb (.inr y) (.inr ⟨y,rfl⟩);by_cases U:v=0
  .exact⟨i+1,.inr rfl,xR (.c 0 O (.v 0 h1 (.t 0 (eqI (decide_eq_true U)) .nil)))⟩
  .exact⟨t,.inl rfl,xR (.c 0 O (.v 0 h1 (.t 0 (eqI (decide_eq_false U)) .nil)))⟩
 |go t=>exact⟨t,rfl,xR (.c 0 O .nil)⟩
 |fin a=>exact absurd rfl (hs a)
 |_=>exact⟨i+1,rfl,xR (.c 0 O .nil)⟩
def Cp(o:PO x R cn sh N S tl):∃e,F69 [.ref 0] (pn sh S tl)=ς (.g (.bl e),pn sh S tl):=by
 rcases o.rs with O|⟨i,O⟩
 .exact⟨ξ,xR (.t 0 (show oIsN.g S.res .non=ς (.f (.bl ξ))by rw[O];rfl) .nil)⟩
 .exact⟨θ,xR (.t 0 (show oIsN.g S.res .non=ς (.f (.bl θ))by rw[O];rfl) .nil)⟩
theorem Eo(X:XQ x R cn sh)(o:PO x R cn sh N S tl)(hN:N<1000000):∃S' tl',F76 [.ref 0] (pn sh S tl)=ς (.g .non,pn sh S' tl')/\PO x R cn sh (N+1) S' tl':=by
 have up:PO x R cn sh (N+1) S tl:=⟨o.hx,qd6 o.on,o.bx,qd6 o.bn,o.ce,qd6 o.cl,o.ci,o.pl,o.he,o.rs,o.tl⟩;rcases o.rs with hr|⟨i,hr⟩
 .have he:F69 [.ref 0] (pn sh S tl)=ς (.g (.bl ξ),pn sh S tl):=xR (.t 0 (show oIsN.g S.res .non=ς (.f (.bl ξ))by rw[hr];rfl) .nil);have⟨i,hi,hlt⟩:=o.pl;have U:R[i]?=ς R[i]:=gQ hlt;generalize R[i]=r at U
  have W:ixV (pn sh S tl) (.g (.t S.x.rows)) (.int S.pl)=ς (.g r.d):=by rw[o.hx,X.rows];exact(gG hi (by rw[qa6,U];rfl)).2
  have hro:=X.rok r (qa5 U);have o1:PO x R cn sh N {S with dn:=S.dn+1} tl:=⟨o.hx,o.on,o.bx,o.bn,o.ce,o.cl,o.ci,o.pl,o.he,o.rs,o.tl⟩;by_cases hf:∃a,r=.fin a
  .have⟨a,rfl⟩:=hf;have⟨v,hv,h1⟩:=k7 (sh:=sh) (S:={S with dn:=S.dn+1}) (tl:=tl) o.bx a hro;refine⟨{S with dn:=S.dn+1,res:=.int v},tl,?_,⟨up.hx,up.on,up.bx,up.bn,up.ce,up.cl,up.ci,up.pl,up.he,.inr ⟨v,rfl⟩,up.tl⟩⟩;exact xR (.v 0 he (.c 0 W (.v 0 h1 .nil)))
  .have Z:∀a,r≠.fin a:=λa e=>hf ⟨a,e⟩
   have⟨S1,tl1,d1,O,p1,p2⟩:=prow (S:={S with dn:=S.dn+1}) r Z X hro o1 (by rw[qb7];lia);have⟨p,hp,d2⟩:=yn (sh:=sh) (S:=S1) (tl:=tl1) r Z (p1.trans hi) (by rw[O.hx];exact X.onw i r U) O.bx;have⟨j,rfl,hj⟩:=X.lead i r p U hp;refine⟨{S1 with pl:=j},tl1,?_,⟨O.hx,O.on,O.bx,O.bn,O.ce,O.cl,O.ci,⟨j,rfl,hj⟩,O.he,O.rs,O.tl⟩⟩;exact xR (.v 0 he (.c 0 W (.c 0 (zj (ch:=pn sh {S with dn:=S.dn+1} tl) (r:=r)) (.t 0 (zk Z) (.v 0 d1 (.v 0 d2 .nil))))))
 .have he:F69 [.ref 0] (pn sh S tl)=ς (.g (.bl θ),pn sh S tl):=xR (.t 0 (show oIsN.g S.res .non=ς (.f (.bl θ))by rw[hr];rfl) .nil);refine⟨S,tl,?_,up⟩;exact xR (.v 0 he .nil)
def eg:(pn sh S tl).length=tl.length+5:=rfl
def zp(h:TlOk tl sh):Cl (pn sh S tl):=by
 unfold Cl;rw[eg];have O:=ck (sh:=sh) (o:=5) (n:=tl.length+5) (by rw[h.len];lia);have U:tl.all (clO (tl.length+5))=θ:=qb9.mpr λo W=>by have⟨L,rfl⟩:=h.all W;exact mf
 have lt:∀k,k<5->decide (k<tl.length+5)=θ:=λk Z=>decide_eq_true Θ
 rwa[pn,qc7,qo7,clO,kU,fU,md,uK,O,U,lt,qj9,zc6]
def zq:(CV.ref 0::l.map .g).all (clV (pn sh S tl).length)=θ:=by simp[clV,eg]
theorem pgo(X:XQ x R cn sh){a0 a1:ζ CV}:∀{ds:η Dt}{N:Nat}{S:PN}{tl:CH}{ρ:Nat->Nat}{b:CH}{a3:ζ CV},PO x R cn sh N S tl->N+ds.length<1000000->At ρ (pn sh S tl) b->∃S' U N' ρ' b' O,bE (bnd (.one 3)) (aj (sDr (eMe 4 1 F76 (eV 2) aNl)) ax) ds [a0,a1,ς (.ref (ρ 0)),a3] b=ς (.nx [a0,a1,ς (.ref (ρ 0)),O] b')/\PO x R cn sh N' S' U/\Mv ρ (pn sh S tl) b ρ' (pn sh S' U) b'
 |[],N,S,tl,ρ,b,a3,o,_,h=>⟨S,tl,N,ρ,b,a3,rfl,o,.refl h⟩
 |d::ds,N,S,tl,ρ,b,a3,o,hN,h=>by rwa[qb6]at hN;have⟨S1,tl1,d1,o1⟩:=Eo X o Θ;have r:=Rn.here (F:=F76) (args:=[.ref 0]) (ay _) (zp o.tl) (zq (l:=[])) d1 (by rw[eg,eg,o.tl.len,o1.tl.len];exact nL _) (by rw[eg];lia);have⟨ρ1,b1,k1,k2⟩:=r.mv h;have⟨S2,W,N2,ρ2,b2,O,j1,j2,j3⟩:=pgo X (a0:=a0) (a1:=a1) (ds:=ds) (a3:=ς (.g d)) o1 Θ k2.at_;refine⟨S2,W,N2,ρ2,b2,O,?_,j2,k2.trans j3⟩;rw[k2.zero]at j1;have Z:F76 [.ref (ρ 0)] b=ς (.g .non,b1):=k1;have hl:∃l,b[ρ 0]?=ς (.ins 4 l):=⟨_,h.get (i:=0) rfl⟩;have⟨l,hl⟩:=hl;refine qz2 (cG (δ':=[a0,a1,ς (.ref (ρ 0)),ς (.g d)]) (δ2:=[a0,a1,ς (.ref (ρ 0)),ς (.g d)]) (ch1:=b1) rfl (ah ?_ rfl)) j1;simp[sDr,eMe,eV,lent,hl,aNl,kCa,CV.old,Z]
end
section
variable{cs ss:η Hd}{R:η Rw}{bg:η Str}{ks:η Kp'}{inc:η Dt}
abbrev slP(cs ss:η Hd)(R:η Rw)(inc:η Dt):Sl:=[ς (.ref 0),ς (.g (pgm cs ss R)),ς (.g (.e inc))]
theorem pfl{fs:η CV}{k:Nat}{c:CV}{H':CH}(W:δ[0]?=ς (ς (.ref 0)))(h:e δ (.ins 4 fs::H)=ς (c,.ins 4 fs::H'))(hc:c.sol=θ)(U:fs.length=k)(O:k<1000):sFl 4 k (eV 0) e δ (.ins 4 fs::H)=ς (.nx δ (.ins 4 (fs++[c])::H')):=by unfold sFl eV;rw[h,qa0];simp[W,lent,cP,hc,U,O]
theorem Ep(P:Pr cs ss R bg ks inc):∃B σ,F68 [.ref 0,.g (pgm cs ss R),.g (.e inc)] [.ins 4 []]=ς (.g .non,B)/\At σ (pn (shS ss) ⟨fx cs ss R ks inc,[],[],bxK (cs.map λh=>(h.1,h.2.1)),0,0,0,.non⟩ (tlS ss)) B/\σ 0=0:=by
 have hnc:(cs.map (·.1)).Nodup:=by have:=P.nd;rw[qd1,qe1]at this;exact this.1
 have hns:(ss.map (·.1)).Nodup:=by have:=P.nd;rw[qd1,qe1]at this;exact this.2.1
 have hl:=P.len;have a1:=pfl (k:=0) (fs:=[]) (H:=[]) (H':=[]) (e:=eIx (eV 1) (eK (.int 2))) (c:=.g (.t (R.map Rw.d))) (δ:=slP cs ss R inc) rfl rfl rfl rfl Ω;have a2:=pfl (k:=1) (fs:=[.g (.t (R.map Rw.d))]) (H:=[]) (H':=[]) (e:=eCa 1 F13 (aCn (eV 1) aNl)) (c:=.g (.e (bX 0 R))) (δ:=slP cs ss R inc) rfl (by show kCa 1 F13 [.g (pgm cs ss R)] (slP cs ss R inc) _=_;unfold kCa;rw[if_pos ⟨rfl,rfl⟩];exact pF P.rl.2) rfl rfl Ω;have a3:=pfl (k:=2) (fs:=[.g (.t (R.map Rw.d)),.g (.e (bX 0 R))]) (H:=[]) (H':=[]) (e:=eB .v bList.g (aCn (eV 2) aNl)) (c:=.g (.e inc)) (δ:=slP cs ss R inc) rfl rfl rfl rfl Ω;have a4:=pfl (k:=3) (fs:=[.g (.t (R.map Rw.d)),.g (.e (bX 0 R)),.g (.e inc)]) (H:=[]) (H':=[.e []]) (e:=eLs .o aNl) (c:=.ref 1) (δ:=slP cs ss R inc) rfl rfl rfl rfl Ω;have a5:=pfl (k:=4) (fs:=[.g (.t (R.map Rw.d)),.g (.e (bX 0 R)),.g (.e inc),.ref 1]) (H:=[.e []]) (H':=[.e [],.dK []]) (e:=eDn .o ξ) (c:=.ref 2) (δ:=slP cs ss R inc) rfl rfl rfl rfl Ω
 have W:∀ch:CH,eDc .o (eCo .v [ψ] (iE (eIx (eV 1) (eK (.int 0)))) (bnd (.one 0)) tYs (eTu (aCn (eIx (eV 0) (eK (.int 0))) (aCn (eIx (eV 0) (eK (.int 1))) aNl)))) (slP cs ss R inc) ch=ς (.ref ch.length,ch++[.dK (dp (bxK (cs.map λh=>(h.1,h.2.1))))]):=λch=>by
  have U:eCo .v [ψ] (iE (eIx (eV 1) (eK (.int 0)))) (bnd (.one 0)) tYs (eTu (aCn (eIx (eV 0) (eK (.int 0))) (aCn (eIx (eV 0) (eK (.int 1))) aNl))) (slP cs ss R inc) ch=ς (.g (.e ((cs.map λh=>(h.1,h.2.1)).map Bx.d)),ch):=by
   have hi:iE (eIx (eV 1) (eK (.int 0))) (slP cs ss R inc) ch=ς (cs.map Hd.d,ch):=rfl;unfold eCo;rw[hi,qa0];have:=bT (pt:=.one 0) (ft:=tYs) (fe:=eTu (aCn (eIx (eV 0) (eK (.int 0))) (aCn (eIx (eV 0) (eK (.int 1))) aNl))) (δ:=gC [ψ] (slP cs ss R inc)) (ch:=ch) (f:=Hd.d) (g:=λh:Hd=>Bx.d (h.1,h.2.1)) (l:=cs) λh _=>⟨_,rfl,rfl,rfl⟩
   rw[this,qa0];dsimp only;rw[if_pos (by rw[qa3,qb7];lia),bG,qd5];rfl
  have O:((bxK (cs.map λh=>((h.1,h.2.1):Bx))).map (·.1)).Nodup:=kN (by simpa[qb2] using hnc);unfold eDc;rw[U,qa0];have e:((cs.map λh=>((h.1,h.2.1):Bx)).map Bx.d).map CV.g=(cs.map λh=>((h.1,h.2.1):Bx)).map (CV.g ∘ Bx.d):=by rw[qd5]
  show((aO ch (((cs.map λh=>((h.1,h.2.1):Bx)).map Bx.d).map CV.g)).bind _)=_;rw[e,eQ,qa0,if_pos (by rw[cH];exact O),uG O]
 obtain⟨K,hK⟩:∃K:CO,K=.dK (dp (bxK (cs.map λh=>(h.1,h.2.1)))):=⟨_,rfl⟩;have a6:=pfl (k:=5) (fs:=[.g (.t (R.map Rw.d)),.g (.e (bX 0 R)),.g (.e inc),.ref 1,.ref 2]) (H:=[.e [],.dK []]) (H':=[.e [],.dK [],K]) (c:=.ref 3) (δ:=slP cs ss R inc) rfl (by rw[hK];exact W _) rfl rfl Ω
 have hd:=iI (f:=Hd.d) (nm:=(·.1)) (vl:=λh:Hd=>qa9 h.2.1.toNat (.int 0)) (fe:=eTu (aCn (eIx (eV 0) (eK (.int 0))) (aCn (e2 .o oMul.g (eLs .v (aCn (eK (.int 0)) aNl)) (eIx (eV 0) (eK (.int 1)))) aNl))) (fi:=iE (eIx (eV 1) (eK (.int 1)))) (src:=[ψ]) (δ:=slP cs ss R inc) (ch:=[.ins 4 [.g (.t (R.map Rw.d)),.g (.e (bX 0 R)),.g (.e inc),.ref 1,.ref 2,.ref 3],.e [],.dK [],K]) (l:=ss) (λh hh ch=>by
  have⟨h1,h2⟩:=P.sv h hh;have h1':0<=h.2.1:=by lia
  simp! only[Hd.d];simp! [oMul,iQ,lW,h1',h2,mr]) rfl rfl P.s0 (by rw[qb7];lia) hns
 have a7:=pfl (k:=6) (fs:=[.g (.t (R.map Rw.d)),.g (.e (bX 0 R)),.g (.e inc),.ref 1,.ref 2,.ref 3]) (H:=[.e [],.dK [],K]) (H':=.e []::.dK []::K::(blk 4 (ss.map λh=>(h.1,qa9 h.2.1.toNat (.int 0)))++[.e (rfs 5 ss.length)]++[.dK (prs 4 (ss.map λh=>(h.1,qa9 h.2.1.toNat (.int 0))))])) (c:=.ref (4+2*ss.length+1)) (δ:=slP cs ss R inc) rfl hd rfl rfl Ω;obtain⟨H,Z⟩:∃H:CH,H=blk 4 (ss.map λh=>(h.1,qa9 h.2.1.toNat (.int 0)))++[.e (rfs 5 ss.length)]++[.dK (prs 4 (ss.map λh=>(h.1,qa9 h.2.1.toNat (.int 0))))]:=⟨_,rfl⟩;rw[<- Z]at a7;rwa[qh9,ql3]at a1 a2 a3 a4 a5 a6 a7;have a8:aj (sFl 4 7 (eV 0) (eK (.int 0))) (aj (sFl 4 8 (eV 0) (eK (.int 0))) (aj (sFl 4 9 (eV 0) (eK (.int 0))) (aj (sFl 4 10 (eV 0) (eK .non)) ax))) (slP cs ss R inc) (.ins 4 [.g (.t (R.map Rw.d)),.g (.e (bX 0 R)),.g (.e inc),.ref 1,.ref 2,.ref 3,.ref (4+2*ss.length+1)]::.e []::.dK []::K::H)=ς (.nx (slP cs ss R inc) (.ins 4 [.g (.t (R.map Rw.d)),.g (.e (bX 0 R)),.g (.e inc),.ref 1,.ref 2,.ref 3,.ref (4+2*ss.length+1),I 0,I 0,I 0,.g .non]::.e []::.dK []::K::H)):=rfl;refine⟨_,λi=>if i<4 then i else if i=4 then 4+2*ss.length+1 else 4+2*(i-5),by rw[q68];exact nJ (ah a1 (ah a2 (ah a3 (ah a4 (ah a5 (ah a6 (ah a7 a8))))))),?_,rfl⟩;refine⟨λi j hi hj e=>?_,λ{i o} hi=>?_⟩
 .rw[eg]at hi hj;have:(tlS ss).length=ss.length:=by simp[tlS]
  split at e<;>split at e<;>(try split at e)<;>(try split at e)<;>lia
 .rcases i with _|_|_|_|_|i
  .cases hi;rfl
  .cases hi;rfl
  .cases hi;rfl
  .cases hi;show ς K=_;rw[hK];rwa[rnO,dZ]
  .cases hi;show(_::_::_::_::H)[4+2*ss.length+1]?=_;rw[show 4+2*ss.length+1=2*ss.length+1+1+1+1+1 by lia];rwa[qd3];rw[Z,qe0 (by simp[bo])];rwa[qc5,bo,qa3,qj1,zg0,qi0,rnO];unfold shS;rw[eS (vl:=λh:Hd=>qa9 h.2.1.toNat (.int 0)) (n:=4)];intro k hk;rw[if_neg Θ,if_neg Θ];lia
  .have hi:(tlS ss)[i]?=ς o:=hi;rwa[tlS,qa6]at hi;have⟨h,h1,rfl⟩:=mS hi;have hb:=(iH (n:=4) (ps:=ss.map λh=>(h.1,qa9 h.2.1.toNat (.int 0))) (k:=i) (p:=(h.1,qa9 h.2.1.toNat (.int 0))) (by rw[qa6,h1];rfl)).1;rw[if_neg Θ,if_neg Θ,cM,show 4+2*(i+1+1+1+1+1-5)=2*i+1+1+1+1 by lia];rwa[qd3];rw[Z,qd9,gL (ak hb)];exact hb
def Pr.xq(P:Pr cs ss R bg ks inc):XQ (fx cs ss R ks inc) R (cs.map (·.1)) (shS ss):=by
 have X:=P.xr
 have O:∀{n:Str},n∈ss.map (·.1)->Vp (shS ss) n 0:=λ{n} h=>by have:=vp_s (cs:=[]) P.sv h;simpa[shC] using this
 refine⟨?_,P.inc,rfl,X.onw,λr U=>?_,P.lead⟩
 .have:(shS ss).map (·.1)=ss.map (·.1):=by simp[shS,qb2]
  rw[this];have:=P.nd;rw[qd1,qe1]at this;exact this.2.1
 .have:=P.row r U;cases r with
  |op x W a b=>exact this
  |load x n=>exact this
  |store n a=>exact this
  |take x n a=>exact⟨O this.1,this.2⟩
  |lay n a b=>exact⟨O this.1,this.2⟩
  |copy x a=>exact this
  |say a=>exact this
  |fin a=>exact this
  |hear x=>trivial
  |ife x t=>trivial
  |go t=>trivial
omit x in
theorem Pr.po(P:Pr cs ss R bg ks inc):PO (fx cs ss R ks inc) R (cs.map (·.1)) (shS ss) 200 ⟨fx cs ss R ks inc,[],[],bxK (cs.map λh=>(h.1,h.2.1)),0,0,0,.non⟩ (tlS ss):=by
 refine⟨rfl,Ξ,Ξ,Ξ,λp hp=>?_,by have:=P.len;simp[bxK];lia,λn hn=>?_,⟨0,rfl,P.rl.1⟩,by show(0:Int)<=0;lia,.inl rfl,⟨by simp[tlS,shS],λ{k n m} U=>?_⟩⟩
 .rwa[bxK,qc8]at hp;have⟨q,⟨h,hh,rfl⟩,rfl⟩:=hp;exact P.cv h hh
 .have⟨a,ha,rfl⟩:=qc8.mp hn
  have:∀{l:η Hd},a∈l->(av ((bxK (l.map λh=>((h.1,h.2.1):Bx))).map (·.1)) ((bxK (l.map λh=>((h.1,h.2.1):Bx))).map (·.2)) (qk9 a.1)).isSome=θ:=λ{l}=>by
   induction l with
   |nil=>intro h;cases h
   |cons b l Z=>
    intro h;rwa[bxK,qa2,av]at Z ⊢;split
    .rfl
    .rename_i O;rcases qc4.mp h with rfl|h
     .exact absurd rfl O
     .exact Z h
  exact this ha
 .rwa[shS,qa6]at U;have⟨a,h1,h2⟩:=mS U;cases h2;refine⟨qa9 a.2.1.toNat (.int 0),by simp[tlS,h1],Ξ,λd W=>?_⟩;rw[qw2]at W;rw[W.2];exact⟨0,rfl,Θ,Θ⟩
def yo(P:Pr cs ss R bg ks inc):∃e a',F77 [.g (pgm cs ss R),.g (.e inc)] []=ς (.g (.bl e),a'):=by
 have⟨B,σ,k1,k2,U⟩:=Ep P;have hB:0<B.length:=by have:=k2.lt (i:=0) (by rw[eg];lia);lia
 have m:=eO (F:=F68) (c:=4) (n:=3) (ch:=[]) (δ:=[ς (.g (pgm cs ss R)),ς (.g (.e inc)),ψ,ψ]) (fs:=aCn (eV 0) (aCn (eV 1) aNl)) (ds:=[pgm cs ss R,.e inc]) (ay _) rfl rfl k1 hB
 have e0:([]:CH)++B.map (rnO (([]:CH).length + ·))=B:=by
  have:(λx=>([]:CH).length+x)=λi=>i:=by funext x;simp
  rw[this,qh9];have:(rnO λi=>i)=id:=by funext o;exact uu
  rw[this,List.map_id]
 rw[e0]at m;have s1:=aF (i:=2) m rfl;have⟨S',tl',N',ρ',b',a3',W,j2,O⟩:=pgo P.xq (a0:=ς (.g (pgm cs ss R))) (a1:=ς (.g (.e inc))) (ds:=aB 0 60) (a3:=ψ) P.po (by rw[bv];lia) k2;rw[U]at W;have⟨e,he⟩:=Cp j2;have hp:=O.at_.pure (F:=F69) (args:=[.ref 0]) (ay _) (zp j2.tl) (zq (l:=[])) he;have Z:ρ' 0=0:=O.zero.trans U;rwa[rnA,qa2,qe3,rn,Z]at hp;have hl:∃l,b'[0]?=ς (.ins 4 l):=by have:=O.at_.get (i:=0) rfl;rw[Z]at this;exact⟨_,this⟩
 have⟨l,hl⟩:=hl;refine⟨e,b',?_⟩;rw[q77];refine bm (ah s1 (ah (bz (di (j:=60) rfl (aJ Θ)) W) (bU (cj ?_ rfl))));simp[eMe,eV,lent,hl,aNl,kCa,CV.old,hp]
end
variable{xs:η Str}
section
variable{ch:CH}
theorem eT{α:Type}{f:α->Dt}{l:η α}{k:Nat}(h:k<l.length):ixD (.e (l.map f)) (.int k)=ς (f l[k]):=(gF (by rw[qa6,gQ h];rfl)).1
theorem mdI{v m q:Int}(h:v%m=q)(O:0<m):oMod.g (.int v) (.int m)=ς (.f (.int q)):=by show(if 0<m then ς (T.f (.int (v%m)))else ψ)=_;rw[if_pos O,h]
def ltI{a b:Int}{q:Bool}(h:decide (a<b)=q):oLt.g (.int a) (.int b)=ς (.f (.bl q)):=by rw[<- h];rfl
def dG(ns:η Int)(k:Nat):∃v:Int,F1 [.g (.e (ns.map .int)),I k] ch=ς (I v,ch):=by
 have hl:bLen.g [.e (ns.map .int)]=ς (.f (.int ns.length)):=by simp[bLen,hZ]
 by_cases h:k<ns.length
 .have O:ixV ch (.g (.e (ns.map .int))) (.int k)=ς (I ns[k]):=by show(ixD _ _).map CV.g=_;rw[eT (f:=Dt.int) h];rfl
  exact⟨ns[k],xR (.t 0 hl (.t 0 (ltI (decide_eq_true (show(k:Int)<(ns.length:Int)by lia))) (.c 0 O .nil)))⟩
 .exact⟨0,xR (.t 0 hl (.t 0 (ltI (decide_eq_false (show ¬ (k:Int)<(ns.length:Int)by lia))) .nil))⟩
def Sm'(v:Int):Prop:=0<=v/\v<2147483629
theorem jK{c m:CV}:∀{ds l:η Int}{n:Int}{a4:ζ CV},(∀d∈ds,0<=d)->0<=n->n<2147553251->(∀v∈l,Sm' v)->l.length+ds.length<=1000->∃(W:η Int)(n':Int)(U:ζ CV),bE (bnd (.one 4)) (aj (bC 3 (e2 .v oMod.g (e2 .v oAdd.g (e2 .v oAdd.g (e2 .v oMul.g (eV 3) (eV 3)) (e2 .v oMul.g (eK (.int 16807)) (eV 3))) (eV 4)) (eK (.int 2147483629)))) (aj (sAs 2 (eV 3)) ax)) (ds.map .int) [ς c,ς m,ς (.own θ (.e (l.map .int))),ς (I n),a4] ch=ς (.nx [ς c,ς m,ς (.own θ (.e (W.map .int))),ς (I n'),U] ch)/\W.length=l.length+ds.length/\∀v∈W,Sm' v
 |[],l,n,a4,_,_,_,hl,_=>⟨l,n,a4,rfl,rfl,hl⟩
 |d::ds,l,n,a4,hd,h0,h1,hl,hz=>by
  rwa[qb6]at hz;have m1:b8 n n=θ:=eF Θ Θ;have m2:b8 16807 n=θ:=eF Θ Θ;have b0:=qi1 (n*n+16807*n+d) (show(2147483629:Int)≠0 by decide);have b1:=qf5 (n*n+16807*n+d) (show(0:Int)<2147483629 by decide);obtain⟨v,hv⟩:∃v,v=(n*n+16807*n+d)%2147483629:=⟨_,rfl⟩;rw[<- hv]at b0 b1;have⟨W,n',U,e1,e2',e3⟩:=jK (c:=c) (m:=m) (ds:=ds) (l:=l++[v]) (n:=v) (a4:=ς (I d)) (λx O=>hd x (.tail _ O)) b0 Θ (λx O=>by rcases qf7.mp O with O|O;exact hl x O;simp at O;subst O;exact⟨b0,b1⟩) (by simp;lia);refine⟨W,n',U,?_,by rw[e2'];simp;lia,e3⟩;have Z:l.length<16777216:=by lia
  refine qz2 (cG (δ':=[ς c,ς m,ς (.own θ (.e (l.map .int))),ς (I n),ς (I d)]) (δ2:=[ς c,ς m,ς (.own θ (.e ((l++[v]).map .int))),ς (I v),ς (I d)]) (ch1:=ch) rfl ?_) e1;simp! only[sAs];simp! [oMul,iQ,m1,m2,oMod,cN,<- hv,c9,Bn,Z]
def Er{l:η Int}:gSl (.e (l.map .int)) (ς 1) ψ=ς (.e ((l.drop 1).map .int)):=by
 show ς (T.e (fF (l.map .int) (ς 1) ψ))=_;unfold fF;cases l with
 |nil=>rfl
 |cons a l=>
  have h1:HT.sIx ((a::l).map Dt.int).length 0 (ς 1)=1:=by simp[HT.sIx]
  have h2:HT.sIx ((a::l).map Dt.int).length ((a::l).map Dt.int).length ψ=(a::l).length:=by simp[HT.sIx]
  rw[h1,h2];simp;rw[za5 Ξ]
def bL(c:Int)(m:Nat)(hm:m<=100):∃vs:η Int,F2 [I c,I m] ch=ς (.g (.e (vs.map .int)),ch)/\vs.length=m/\∀v∈vs,Sm' v:=by
 have b0:=qi1 c (show(2147483629:Int)≠0 by decide);have b1:=qf5 c (show(0:Int)<2147483629 by decide);have hr:aB 0 (m+1)=((qd8 (m+1)).map λi:Nat=>(i:Int)).map .int:=by unfold aB;rw[qd5];apply qn2;intro i _;simp
 have⟨l,n,a4,U,O,W⟩:=jK (ch:=ch) (c:=I c) (m:=I m) (ds:=(qd8 (m+1)).map λi:Nat=>(i:Int)) (l:=[]) (n:=c%2147483629+69621) (a4:=ψ) Ξ Θ Θ Ξ (by simp;lia);rw[<- hr]at U;refine⟨l.drop 1,?_,by rw[qt4,O];simp,λv Z=>W v (List.mem_of_mem_drop Z)⟩;rw[q2];refine bm (ah (δ':=[ς (I c),ς (I m),ς (.own θ (.e [])),ψ,ψ]) (ch1:=ch) rfl (ah (δ':=[ς (I c),ς (I m),ς (.own θ (.e [])),ς (I (c%2147483629+69621)),ψ]) (ch1:=ch) ?_ (ah (bz (ds:=aB 0 (m+1)) (di (j:=m+1) ?_ (aJ Θ)) U) (bU (cj (c:=.g (.e ((l.drop 1).map .int))) (ch1:=ch) ?_ rfl)))))
 .simp! only[];simp! [oMod,cN]
 .simp! only[];simp! []
 .have:=Er (l:=l);rwa[eSl,fOp,eV,eK,lent,qa0,qd3,qi0,bY,qb0,vw,T.d,this,fin]
def eU(n:Int):∃v,Vi (.int v)/\F3 [I n] ch=ς (I v,ch):=by
 have O:oPow.g (.int 2) (.int 40)=ς (.f (.int 1099511627776)):=by simp[oPow,wv,oy]
 have Z:oMul.g (.int (n/3)) (.int 1664525)=ς (.f (.int (n/3*1664525))):=by simp[oMul,orO,iQ,ox (i:=n/3) (j:=1664525) Θ Θ]
 by_cases W:n%3=0
 .exact⟨n/3%4,⟨_,rfl,Θ,Θ⟩,xR (.t 1 (eqI (decide_eq_true W)) .nil)⟩
 .have U:=eqI (decide_eq_false W);by_cases h1:n%3=1
  .exact⟨1099511627776-1-n/3%4,⟨_,rfl,Θ,Θ⟩,xR (.t 1 U (.t 1 (eqI (decide_eq_true h1)) (.t 0 O .nil)))⟩
  .exact⟨n/3*1664525%1099511627776,⟨_,rfl,Θ,Θ⟩,xR (.t 1 U (.t 1 (eqI (decide_eq_false h1)) (.t 1 Z (.t 0 O .nil))))⟩
def k8(n:Int)(hx:xs≠[]):∃a,bq a/\F5 [I n,.g (.e (xs.map .str))] ch=ς (.g (aw a),ch):=by
 by_cases W:n%3=0
 .have⟨v,Z,h1⟩:=eU (ch:=ch) (n/3);exact⟨.inl v,.inl Z,xR (.t 1 (eqI (decide_eq_true W)) (.v 0 h1 .nil))⟩
 .have hp:(0:Int)<xs.length:=by have:=List.length_pos_iff.mpr hx;lia
  have b0:=qi1 (n/3) (show(xs.length:Int)≠0 by lia);have b1:=qf5 (n/3) hp;have⟨k,hk⟩:=qg1 b0;have O:k<xs.length:=by lia
  have hl:bLen.g [.e (xs.map .str)]=ς (.f (.int xs.length)):=by simp[bLen,hZ]
  have U:ixV ch (.g (.e (xs.map .str))) (.int (n/3%(xs.length:Int)))=ς (.g (.str xs[k])):=by show(ixD _ _).map CV.g=_;rw[hk,eT (f:=Dt.str) O];rfl
  exact⟨.inr xs[k],.inr ⟨_,rfl⟩,xR (.t 1 (eqI (decide_eq_false W)) (.t 1 hl (.t 0 (mdI (v:=n/3) rfl hp) (.c 0 U .nil))))⟩
end
noncomputable def ltt:Str:="abcdefghijklmnopqrstuvwxyz"
def yp:ltt.length=26:=χ
noncomputable def sgn(i:Int):Nat:=ltt.cps.toList.getD i.toNat 0
def yq:∀i<26,∀j<26,ltt.cps.toList.getD i 0=ltt.cps.toList.getD j 0->i=j:=χ
def vt{i:Int}(W:0<=i)(h1:i<26):ixD (.str ltt) (.int i)=ς (.str ⟨#[sgn i]⟩):=by
 have hl:ltt.cps.toList.length=26:=by decide +kernel
 have:gIx (.str ltt) (.int i)=ς (.f (.str ⟨#[sgn i]⟩)):=by
  have e:gIx (.str ltt) (.int i)=(atI ltt.cps.toList i).map λc=>.f (.str ⟨#[c]⟩):=by have U:ltt.length<=qa4:=o6 (by rw[yp];decide);rwa[gIx,U,if_true]
  have O:atI ltt.cps.toList i=ς (sgn i):=by unfold atI ixN;rw[if_pos W,hl,if_pos Θ];rwa[qa0];unfold sgn;rw[qc3,gQ Θ];rfl
  rw[e,O];rfl
 show(match (ψ:ζ (ζ Dt))with|some r=>r|none=>match gIx (.str ltt) (.int i)with|some (.f y)=>ς y|_=>ψ)=_;rw[this]
def yr(x y:Str):(x++y).length=x.length+y.length:=by show(x.cps++y.cps).size=_;rw[Array.size_append];rfl
def yt(x y:Str):(x++y).cps.toList=x.cps.toList++y.cps.toList:=by show(x.cps++y.cps).toList=_;simp
theorem addS(h:x.length+y.length<=1000000):oAdd.g (.str x) (.str y)=ς (.f (.str (x++y))):=by show orO eG iu _ _=_;unfold orO;rw[B9 (o6 h)]
theorem mx{lo hi:ζ Int}(h:x.length<=1000):∃y,gSl (.str x) lo hi=ς (.f (.str y))/\y.length<=x.length:=⟨_,if_pos (o6 Θ),Txt.slice_le x lo hi⟩
section
variable{ch:CH}
theorem nm_0(c x:Int)(Z:0<=x)(h1:x<10):∃g:Nat,eIx (eV 2) (e2 .v oMod.g (e2 .v oAdd.g (e2 .v oDiv.g (eV 1) (eK (.int 37))) (e2 .v oMul.g (e2 .v oMul.g (eK (.int 11)) (eV 0)) (e2 .v oMod.g (eV 1) (eK (.int 2))))) (eK (.int 26))) [ς (I x),ς (I c),ς (.g (.str ltt))] ch=ς (.g (.str ⟨#[g]⟩),ch):=by have U:b8 11 x=θ:=eF Θ Θ;have O:b8 (11*x) (c%2)=θ:=eF Θ Θ;have W:=vt (i:=(c/37+11*x*(c%2))%26) (qi1 _ Ω) (qf5 _ Ω);refine⟨sgn ((c/37+11*x*(c%2))%26),?_⟩;simp! only[];dsimp! [oMod,cN,oDiv,gd,oMul,iQ,U,O,W]
abbrev nE0:Fg:=eIx (eV 2) (e2 .v oMod.g (e2 .v oAdd.g (e2 .v oDiv.g (eV 1) (eK (.int 37))) (e2 .v oMul.g (e2 .v oMul.g (eK (.int 11)) (eV 0)) (e2 .v oMod.g (eV 1) (eK (.int 2))))) (eK (.int 26)))
abbrev nE1:Fg:=e2 .v oAdd.g (e2 .v oAdd.g (eSl .v (eV 3) ψ (ς (eV 1))) (eIx (eV 4) (e2 .v oMod.g (e2 .v oAdd.g (e2 .v oDiv.g (eV 2) (eK (.int 42))) (e2 .v oMul.g (eK (.int 5)) (eV 0))) (eK (.int 26))))) (eSl .v (eV 3) (ς (eV 1)) ψ)
theorem nm_c(c:Int)(n:Nat)(hn6:n<6):∃gs:η Nat,gs.length=n/\aE (bnd (.one 0)) tYs nE0 [ψ,ς (I c),ς (.g (.str ltt))] (aB 0 n) ch=ς ((sgD gs).map .g,ch):=by
 have⟨ds,W,O,Z⟩:=o3 (pt:=.one 0) (ft:=tYs) (fe:=nE0) (δ:=[ψ,ς (I c),ς (.g (.str ltt))]) (ch:=ch) (f:=λi:Nat=>.int (0+(i:Int))) (P:=λd=>∃g:Nat,d=.str ⟨#[g]⟩) (l:=qd8 n) λi hi=>by have⟨g,hg⟩:=nm_0 (ch:=ch) c (0+(i:Int)) Θ (by have:=qf0.mp hi;lia);exact⟨_,_,rfl,rfl,hg,g,rfl⟩
 obtain⟨gs,rfl,U⟩:∃gs:η Nat,ds=sgD gs/\gs.length=ds.length:=by
  clear W Z;induction ds with
  |nil=>exact⟨[],rfl,rfl⟩
  |cons d ds ih=>
   have⟨g,rfl⟩:=O d (.head _);have⟨gs,rfl,h⟩:=ih λd hd=>O d (.tail _ hd)
   exact⟨g::gs,rfl,by simp[h]⟩
 exact⟨gs,by rw[U,Z];simp,W⟩
theorem nm_1(c p:Int){m y:Str}(hy:y.length<=6)(hz:z.length<=6)(ey:gSl (.str m) ψ (ς p)=ς (.f (.str y)))(ez:gSl (.str m) (ς p) ψ=ς (.f (.str z)))(x:Int)(h0:0<=x)(h1:x<12):nE1 [ς (I x),ς (I p),ς (I c),ς (.g (.str m)),ς (.g (.str ltt))] ch=ς (.g (.str (y++⟨#[sgn ((c/42+5*x)%26)]⟩++z)),ch):=by
 have m1:b8 5 x=θ:=eF Θ Θ;have U:=vt (i:=(c/42+5*x)%26) Θ Θ;obtain⟨g,O⟩:∃g:Str,g=⟨#[sgn ((c/42+5*x)%26)]⟩:=⟨_,rfl⟩;have W:g.length=1:=by rw[O];rfl
 rw[<- O]at U ⊢;have a1:=addS (x:=y) (y:=g) Θ;have a2:=addS (x:=y++g) (y:=z) (by rw[yr];lia);have x1:eSl .v (eV 3) ψ (ς (eV 1)) [ς (I x),ς (I p),ς (I c),ς (.g (.str m)),ς (.g (.str ltt))] ch=ς (.g (.str y),ch):=by simp[eSl,fOp,eV,lent,bY,vw,ey,fin,T.d]
 have Z:eSl .v (eV 3) (ς (eV 1)) ψ [ς (I x),ς (I p),ς (I c),ς (.g (.str m)),ς (.g (.str ltt))] ch=ς (.g (.str z),ch):=by simp[eSl,fOp,eV,lent,bY,vw,ez,fin,T.d]
 have x2:eIx (eV 4) (e2 .v oMod.g (e2 .v oAdd.g (e2 .v oDiv.g (eV 2) (eK (.int 42))) (e2 .v oMul.g (eK (.int 5)) (eV 0))) (eK (.int 26))) [ς (I x),ς (I p),ς (I c),ς (.g (.str m)),ς (.g (.str ltt))] ch=ς (.g (.str g),ch):=by simp! only[];dsimp! [oMod,cN,oDiv,gd,oMul,iQ,m1,U]
 exact cL (cL x1 x2 rfl rfl a1) Z rfl rfl a2
def Es{c:Int}:((qd8 12).map λi:Nat=>y++⟨#[sgn ((c/42+5*(i:Int))%26)]⟩++z).Nodup:=by
 rw[List.nodup_iff_pairwise_ne,List.pairwise_map];refine List.Pairwise.imp_of_mem ?_ qn4;intro i j hi O U h;have hi:=qf0.mp hi;have O:=qf0.mp O;have e:=congrArg (λs:Str=>s.cps.toList) h;rwa[yt]at e;have e:=List.append_cancel_left (List.append_cancel_right e);have e:sgn ((c/42+5*(i:Int))%26)=sgn ((c/42+5*(j:Int))%26):=‹e›
 have:=yq _ Θ _ Θ e;omega
theorem nm_l{g:Nat->Dt}(hi:fi δ ch=ς (aB 0 n,ch))(O:gC src δ=δ0)(U:n<=1000)(h:aE (bnd (.one 0)) tYs fe δ0 (aB 0 n) ch=ς ((qd8 n).map λi=>.g (g i),ch)):eCo .v src fi (bnd (.one 0)) tYs fe δ ch=ς (.g (.e ((qd8 n).map g)),ch):=by unfold eCo;rw[hi,qa0,O];dsimp only;rw[h,qa0];dsimp only;rw[if_pos (by rw[qa3,qy0,qb7];lia),bG];rfl
theorem Et{c N:Int}(O:c%6=N):bC 3 (e2 .v oMod.g (eV 0) (eK (.int 6))) [ς (I c),ς (I 12),ς (.g (.str ltt)),ψ,ψ,ψ] ch=ς (.nx [ς (I c),ς (I 12),ς (.g (.str ltt)),ς (I N),ψ,ψ] ch):=by simp! only[];simp! [oMod,cN,O]
theorem Eu{c N p:Int}(O:0<=N)(hp:p=c/6%(N+1)):bC 4 (e2 .v oMod.g (e2 .v oDiv.g (eV 0) (eK (.int 6))) (e2 .v oAdd.g (eV 3) (eK (.int 1)))) [ς (I c),ς (I 12),ς (.g (.str ltt)),ς (I N),ψ,ψ] ch=ς (.nx [ς (I c),ς (I 12),ς (.g (.str ltt)),ς (I N),ς (I p),ψ] ch):=by simp! only[];simp! [oMod,cN,oDiv,gd,hp,show 0<N+1 by lia]
theorem Ev{c p:Int}{gs:η Nat}{m:Str}(hn6:n<6)(U:gs.length=n)(O:m=⟨gs.toArray⟩)(W:aE (bnd (.one 0)) tYs nE0 [ψ,ς (I c),ς (.g (.str ltt))] (aB 0 n) ch=ς ((sgD gs).map .g,ch)):eMt .v mJoin.g (eK (.str "")) (aCn (eCo .v [ψ,ς 0,ς 2] (iR 1 (aCn (eV 3) aNl)) (bnd (.one 0)) tYs nE0) aNl) [ς (I c),ς (I 12),ς (.g (.str ltt)),ς (I n),ς (I p),ψ] ch=ς (.g (.str m),ch):=by
 have Z:mJoin.g (.str "") [.e (sgD gs)]=ς (.f (.str m)):=by rw[O];exact uI (cs:=gs) Θ
 exact BZ rfl (aV (dX (di rfl (aJ Θ)) rfl W (by rw[sgD,qa3,qb7];lia))) Z
def my(c:Int):∃xs:η Str,F0 [I c,I 12] ch=ς (.g (.e (xs.map .str)),ch)/\xs.length=12/\xs.Nodup:=by
 have b0:=qi1 c (show(6:Int)≠0 by decide);have b1:=qf5 c (show(0:Int)<6 by decide);have⟨n,hn⟩:=qg1 b0;have O:n<6:=by lia
 obtain⟨p,hp⟩:∃p,p=c/6%((n:Int)+1):=⟨_,rfl⟩;have⟨gs,U,Z⟩:=nm_c (ch:=ch) c n O;obtain⟨m,W⟩:∃m:Str,m=⟨gs.toArray⟩:=⟨_,rfl⟩;have hml:m.length<=6:=by rw[W];show gs.toArray.size<=6;simp;lia
 have⟨y,ey,hy⟩:=mx (x:=m) (lo:=ψ) (hi:=ς p) Θ;have⟨z,ez,hz⟩:=mx (x:=m) (lo:=ς p) (hi:=ψ) Θ;have e4:=bT (pt:=.one 0) (ft:=tYs) (fe:=nE1) (δ:=[ψ,ς (I p),ς (I c),ς (.g (.str m)),ς (.g (.str ltt))]) (ch:=ch) (f:=λi:Nat=>.int (0+(i:Int))) (g:=λi:Nat=>.str (y++⟨#[sgn ((c/42+5*(i:Int))%26)]⟩++z)) (l:=qd8 12) λi hi=>⟨[ς (I (0+(i:Int))),ς (I p),ς (I c),ς (.g (.str m)),ς (.g (.str ltt))],rfl,rfl,by have h:=nm_1 (ch:=ch) c p Θ Θ ey ez (0+(i:Int)) Θ (by have:=qf0.mp hi;lia);rw[qr3]at h ⊢;exact h⟩
 have s1:=Et (ch:=ch) hn;have s2:=Eu (ch:=ch) (c:=c) (N:=n) Θ hp;have s3:=Ev (p:=p) O U W Z;have s4:eCo .v [ψ,ς 4,ς 0,ς 5,ς 2] (iR 1 (aCn (eV 1) aNl)) (bnd (.one 0)) tYs nE1 [ς (I c),ς (I 12),ς (.g (.str ltt)),ς (I n),ς (I p),ς (.g (.str m))] ch=ς (.g (.e ((qd8 12).map λi:Nat=>.str (y++⟨#[sgn ((c/42+5*(i:Int))%26)]⟩++z))),ch):=nm_l (di (j:=12) rfl (aJ Θ)) rfl Θ e4;refine⟨(qd8 12).map λi:Nat=>y++⟨#[sgn ((c/42+5*(i:Int))%26)]⟩++z,?_,Ξ,Es⟩;rw[qd5,q0];exact bm (ah (δ':=[ς (I c),ς (I 12),ς (.g (.str ltt)),ψ,ψ,ψ]) (ch1:=ch) rfl (ah s1 (ah s2 (ah (aF s3 rfl) (bU (cj s4 rfl))))))
end
theorem vv(W:xs.Nodup):∀{is:η Nat},is.Nodup->(∀i∈is,i<xs.length)->(is.map λi=>xs.getD i qz3).Nodup
 |[],_,_=>by simp
 |i::is,h,hl=>by
  have h':=qd7.mp h;rw[qa2,qd7];refine⟨λZ=>?_,vv W h'.2 λj U=>hl j (.tail _ U)⟩;have⟨j,U,e⟩:=qc8.mp Z;have hi:=hl i (.head _);have O:=hl j (.tail _ U);rwa[qc3,qq6 hi,qq6 O,qz7]at e;have hp:=List.pairwise_iff_getElem.mp W;rcases Nat.lt_trichotomy i j with q|q|q
  .exact hp i j hi O q e.symm
  .exact h'.1 (by rw[q];exact U)
  .exact hp j i O hi q e
section
variable{ch:CH}
def ixS{k:Nat}(h:k<xs.length):ixD (.e (xs.map .str)) (.int k)=ς (.str (xs.getD k qz3)):=by rw[eT h,qc3,gQ h];rfl
theorem ixI{xs:η Int}{k:Nat}(h:k<xs.length):ixD (.e (xs.map .int)) (.int k)=ς (.int (xs.getD k 0)):=by rw[eT h,qc3,gQ h];rfl
def zr{xs:η Int}(O:∀v∈xs,Sm' v){k:Nat}(h:k<xs.length):Sm' (xs.getD k 0):=by rw[qc3,gQ h];exact O _ (ql4 h)
structure Wd(bx:List Str)(cs ss:List Hd)(inc:List Int):Prop where
 b4:bx.length=4
 c0:0<cs.length/\cs.length<=3
 s0:0<ss.length/\ss.length<=2
 nd:((cs++ss).map (·.1)).Nodup
 cv:∀h∈cs,Vi (.int h.2.1)
 sv:∀h∈ss,0<h.2.1/\h.2.1<=8
 inc:∀i∈inc,Vi (.int i)
abbrev wdD(bx:η Str)(cs ss:η Hd)(inc:η Int):Dt:=.t [.e (bx.map .str),.e (cs.map Hd.d),.e (ss.map Hd.d),.e (inc.map .int)]
abbrev cE:Fg:=eTu (aCn (eIx (eV 1) (eV 0)) (aCn (eCa 1 F3 (aCn (eIx (eV 2) (eV 0)) aNl)) (aCn (e2 .v oEq.g (e2 .v oMod.g (e2 .v oDiv.g (eIx (eV 2) (eV 0)) (eK (.int 5))) (eK (.int 2))) (eK (.int 0))) aNl)))
abbrev sE:Fg:=eTu (aCn (eIx (eV 1) (e2 .v oAdd.g (eK (.int 4)) (eV 0))) (aCn (e2 .v oAdd.g (eK (.int 1)) (e2 .v oMod.g (eIx (eV 2) (e2 .v oAdd.g (eK (.int 4)) (eV 0))) (eK (.int 8)))) (aCn (e2 .v oEq.g (e2 .v oMod.g (e2 .v oDiv.g (eIx (eV 2) (e2 .v oAdd.g (eK (.int 4)) (eV 0))) (eK (.int 8))) (eK (.int 2))) (eK (.int 0))) aNl)))
theorem Ew{xs vs:Dt}{x v:Int}{s:Str}(h1:ixD xs (.int x)=ς (.str s))(h2:ixD vs (.int x)=ς (.int v))(t1:∃l,xs=.e l)(t2:∃l,vs=.e l):∃h:Hd,cE [ς (I x),ς (.g xs),ς (.g vs)] ch=ς (.g h.d,ch)/\Vi (.int h.2.1)/\h.1=s:=by have⟨a,rfl⟩:=t1;have⟨b,rfl⟩:=t2;have⟨w,U,O⟩:=eU (ch:=ch) v;refine⟨(s,w,decide (v/5%2=0)),?_,U,rfl⟩;simp! only[];dsimp! [h1,h2,O,oMod,cN,oDiv,gd,Hd.d]
theorem Ex{xs vs:Dt}{x v:Int}{s:Str}(h1:ixD xs (.int (4+x))=ς (.str s))(h2:ixD vs (.int (4+x))=ς (.int v))(t1:∃l,xs=.e l)(t2:∃l,vs=.e l):∃h:Hd,sE [ς (I x),ς (.g xs),ς (.g vs)] ch=ς (.g h.d,ch)/\(0<h.2.1/\h.2.1<=8)/\h.1=s:=by have⟨a,rfl⟩:=t1;have⟨b,rfl⟩:=t2;refine⟨(s,1+v%8,decide (v/8%2=0)),?_,by show 0<1+v%8/\1+v%8<=8;lia,rfl⟩;simp! only[];dsimp! [h1,h2,oMod,cN,oDiv,gd,Hd.d]
theorem pG{α:Type}(f:α->Dt)(l:η α)(a b:Nat)(hb:b<=l.length)(O:a<=b):gSl (.e (l.map f)) (ς (a:Int)) (ς (b:Int))=ς (.e (((l.drop a).take (b-a)).map f)):=by show ς (T.e (fF (l.map f) (ς (a:Int)) (ς (b:Int))))=_;unfold fF;rw[HT.EF,HT.EF,qa3,Nat.min_eq_left hb,Nat.min_eq_left (show a<=l.length by lia),ze8,List.map_drop]
theorem br{F:Fd}{fs:FM (η CV)}{c:CV}{ch2:CH}(hs:fs δ ch=ς (cs,ch))(O:cs.length=n/\cs.all CV.old=θ)(U:F cs ch=ς (c,ch2)):eCa n F fs δ ch=ς (c,ch2):=by unfold eCa kCa;rw[hs,qa0];dsimp only;rw[if_pos O];exact U
theorem aX{f:Fg}{fs:FM (η CV)}{c:CV}(h:f δ ch=ς (c,ch))(hs:fs δ ch=ς (cs,ch)):aCn f fs δ ch=ς (c::cs,ch):=by unfold aCn;rw[h,qa0];dsimp only;rw[hs];rfl
def zt{f:Fg}{d:Dt}(h:f δ ch=ς (.g d,ch))(O:itD d=ς l):iE f δ ch=ς (l,ch):=by unfold iE;rw[h,qa0];dsimp only;rw[O];rfl
def vA(ns:η Int):∃bx cs ss inc,Wd bx cs ss inc/\F4 [.g (.e (ns.map .int))] ch=ς (.g (wdD bx cs ss inc),ch):=by
 have⟨c0,g0⟩:=dG (ch:=ch) ns 0;have⟨c1,g1⟩:=dG (ch:=ch) ns 1;have⟨c2,g2⟩:=dG (ch:=ch) ns 2;have⟨xs,W,hx2,hx3⟩:=my (ch:=ch) c0;have⟨vs,hv1,hv2,hv3⟩:=bL (ch:=ch) c1 12 Θ;have sm:=λk (h:k<12)=>zr hv3 (k:=k) Θ
 obtain⟨a,ha⟩:∃a:Nat,(a:Int)=1+vs.getD 6 0%3:=⟨(1+vs.getD 6 0%3).toNat,Θ⟩;obtain⟨b,hb⟩:∃b:Nat,(b:Int)=1+vs.getD 7 0%2:=⟨(1+vs.getD 7 0%2).toNat,Θ⟩;obtain⟨d,hd⟩:∃d:Nat,(d:Int)=vs.getD 8 0%7:=⟨(vs.getD 8 0%7).toNat,Θ⟩;have⟨ls,hl1,hl2,hl3⟩:=bL (ch:=ch) c2 d Θ
 have⟨cs,e1,e2',e3⟩:=dh (pt:=.one 0) (ft:=tYs) (fe:=cE) (δ:=[ψ,ς (.g (.e (xs.map .str))),ς (.g (.e (vs.map .int)))]) (ch:=ch) (f:=λi:Nat=>.int (0+(i:Int))) (g:=Hd.d) (h:=λh:Hd=>h.1) (h':=λi=>xs.getD i qz3) (Q:=λh:Hd=>Vi (.int h.2.1)) (l:=qd8 a) λi hi=>by have hi:=qf0.mp hi;have⟨h,k1,k2,k3⟩:=Ew (ch:=ch) (xs:=.e (xs.map .str)) (vs:=.e (vs.map .int)) (x:=0+(i:Int)) (by rw[qr3];exact ixS Θ) (by rw[qr3];exact ixI Θ) ⟨_,rfl⟩ ⟨_,rfl⟩;exact⟨_,h,rfl,rfl,k1,k2,k3⟩
 have⟨ss,e4,e5,e6⟩:=dh (pt:=.one 0) (ft:=tYs) (fe:=sE) (δ:=[ψ,ς (.g (.e (xs.map .str))),ς (.g (.e (vs.map .int)))]) (ch:=ch) (f:=λi:Nat=>.int (0+(i:Int))) (g:=Hd.d) (h:=λh:Hd=>h.1) (h':=λi=>xs.getD (4+i) qz3) (Q:=λh:Hd=>0<h.2.1/\h.2.1<=8) (l:=qd8 b) λi hi=>by
  have hi:=qf0.mp hi;have e:(4:Int)+(0+(i:Int))=((4+i:Nat):Int):=by push_cast;lia
  have⟨h,k1,k2,k3⟩:=Ex (ch:=ch) (xs:=.e (xs.map .str)) (vs:=.e (vs.map .int)) (x:=0+(i:Int)) (by rw[e];exact ixS Θ) (by rw[e];exact ixI Θ) ⟨_,rfl⟩ ⟨_,rfl⟩;exact⟨_,h,rfl,rfl,k1,k2,k3⟩
 have⟨inc,e7,e8,e9⟩:=dh (pt:=.one 0) (ft:=tYs) (fe:=eCa 1 F3 (aCn (eV 0) aNl)) (δ:=[ψ]) (ch:=ch) (f:=Dt.int) (g:=Dt.int) (h:=λ_:Int=>()) (h':=λ_=>()) (Q:=λi=>Vi (.int i)) (l:=ls) λi hi=>by have⟨w,hw,h3⟩:=eU (ch:=ch) i;exact⟨[ς (I i)],w,rfl,rfl,br (cs:=[I i]) rfl ⟨rfl,rfl⟩ h3,hw,rfl⟩
 have hcl:cs.length=a:=by have:=congrArg qm1 e3;simpa using this
 have hsl:ss.length=b:=by have:=congrArg qm1 e6;simpa using this
 have hil:inc.length=d:=by have:=congrArg qm1 e9;simpa[hl2] using this
 refine⟨(xs.drop 6).take 4,cs,ss,inc,⟨by simp[hx2],Θ,Θ,?_,e2',e5,e8⟩,?_⟩
 .rw[qd1,e3,e6];have:(qd8 a).map (λi=>xs.getD i qz3)++(qd8 b).map (λi=>xs.getD (4+i) qz3)=(qd8 a++(qd8 b).map (4 + ·)).map λi=>xs.getD i qz3:=by simp[qb2]
  rw[this];refine vv hx3 ?_ λi hi=>?_
  .rw[qe1];refine⟨qn4,?_,λi hi j hj e=>?_⟩
   .exact qm8 _ (λa b h q=>h Θ) qn4
   .have⟨k,_,rfl⟩:=qc8.mp hj;have:=qf0.mp hi;lia
  .rcases qf7.mp hi with hi|hi
   .have:=qf0.mp hi;lia
   .have⟨k,hk,rfl⟩:=qc8.mp hi;have:=qf0.mp hk;lia
 .obtain⟨X,hX⟩:∃X:Dt,X=.e (xs.map .str):=⟨_,rfl⟩;obtain⟨V,hV⟩:∃V:Dt,V=.e (vs.map .int):=⟨_,rfl⟩;have x6:ixD V (.int 6)=ς (.int (vs.getD 6 0)):=by rw[hV];exact ixI (k:=6) Θ
  have x7:ixD V (.int 7)=ς (.int (vs.getD 7 0)):=by rw[hV];exact ixI (k:=7) Θ
  have x8:ixD V (.int 8)=ς (.int (vs.getD 8 0)):=by rw[hV];exact ixI (k:=8) Θ
  have vV:∀d,ixV ch (.g V) d=(ixD V d).map .g:=λd=>rfl
  have Z:gSl X (ς 6) (ς 10)=ς (.e (((xs.drop 6).take 4).map .str)):=by rw[hX];exact pG Dt.str xs 6 10 Θ Θ
  rw[<- hX]at W e1 e4;rw[<- hV]at hv1 e1 e4;obtain⟨C,hC⟩:∃C:Dt,C=.e (cs.map Hd.d):=⟨_,rfl⟩;obtain⟨D,hD⟩:∃D:Dt,D=.e (ss.map Hd.d):=⟨_,rfl⟩;obtain⟨U,hE⟩:∃U:Dt,U=.e (inc.map .int):=⟨_,rfl⟩;obtain⟨Y,hY⟩:∃Y:Dt,Y=.e (ns.map .int):=⟨_,rfl⟩;rw[<- hY]at g0 g1 g2 ⊢;have s1:=aF (i:=1) (δ:=[ς (.g Y),ψ,ψ,ψ,ψ,ψ]) (br (n:=2) (F:=F0) (fs:=aCn (eCa 2 F1 (aCn (eV 0) (aCn (eK (.int 0)) aNl))) (aCn (eK (.int 12)) aNl)) (aX (br (cs:=[.g Y,I 0]) rfl ⟨rfl,rfl⟩ g0) (aX (c:=I 12) rfl rfl)) ⟨rfl,rfl⟩ W) rfl;have s2:=aF (i:=2) (δ:=[ς (.g Y),ς (.g X),ψ,ψ,ψ,ψ]) (br (n:=2) (F:=F2) (fs:=aCn (eCa 2 F1 (aCn (eV 0) (aCn (eK (.int 1)) aNl))) (aCn (eK (.int 12)) aNl)) (aX (br (cs:=[.g Y,I 1]) rfl ⟨rfl,rfl⟩ g1) (aX (c:=I 12) rfl rfl)) ⟨rfl,rfl⟩ hv1) rfl
  have i3:e2 .v oAdd.g (eK (.int 1)) (e2 .v oMod.g (eIx (eV 2) (eK (.int 6))) (eK (.int 3))) [ς (.g Y),ς (.g X),ς (.g V),ψ,ψ,ψ] ch=ς (I a,ch):=by rw[ha];simp! only[];dsimp! [vV,x6,oMod,cN]
  have s3:=aF (i:=3) (δ:=[ς (.g Y),ς (.g X),ς (.g V),ψ,ψ,ψ]) (dX (src:=[ψ,ς 1,ς 2]) (di (aV i3) (aJ Θ)) rfl e1 (by rw[qa3,qb7];lia)) rfl
  have i4:e2 .v oAdd.g (eK (.int 1)) (e2 .v oMod.g (eIx (eV 2) (eK (.int 7))) (eK (.int 2))) [ς (.g Y),ς (.g X),ς (.g V),ς (.g C),ψ,ψ] ch=ς (I b,ch):=by rw[hb];simp! only[];dsimp! [vV,x7,oMod,cN]
  have s4:=aF (i:=4) (δ:=[ς (.g Y),ς (.g X),ς (.g V),ς (.g C),ψ,ψ]) (dX (src:=[ψ,ς 1,ς 2]) (di (aV i4) (aJ Θ)) rfl e4 (by rw[qa3,qb7];lia)) rfl
  have i5:e2 .v oMod.g (eIx (eV 2) (eK (.int 8))) (eK (.int 7)) [ς (.g Y),ς (.g X),ς (.g V),ς (.g C),ς (.g D),ψ] ch=ς (I d,ch):=by rw[hd];simp! only[];dsimp! [vV,x8,oMod,cN]
  have j5:iE (eCa 2 F2 (aCn (eCa 2 F1 (aCn (eV 0) (aCn (eK (.int 2)) aNl))) (aCn (e2 .v oMod.g (eIx (eV 2) (eK (.int 8))) (eK (.int 7))) aNl))) [ς (.g Y),ς (.g X),ς (.g V),ς (.g C),ς (.g D),ψ] ch=ς (ls.map .int,ch):=by exact zt (br (F:=F2) (cs:=[I c2,I d]) (aX (br (cs:=[.g Y,I 2]) rfl ⟨rfl,rfl⟩ g2) (aV i5)) ⟨rfl,rfl⟩ hl1) rfl
  have s5:=aF (i:=5) (δ:=[ς (.g Y),ς (.g X),ς (.g V),ς (.g C),ς (.g D),ψ]) (dX (src:=[ψ]) j5 rfl e7 (by rw[qa3,qb7];lia)) rfl
  have s6:eSl .v (eV 1) (ς (eK (.int 6))) (ς (eK (.int 10))) [ς (.g Y),ς (.g X),ς (.g V),ς (.g C),ς (.g D),ς (.g U)] ch=ς (.g (.e (((xs.drop 6).take 4).map .str)),ch):=by simp[eSl,fOp,eV,eK,lent,bY,vw,Z,fin,T.d]
  rw[q4];rw[<- hC]at s3;rw[<- hD]at s4;rw[<- hE]at s5
  have s7:eTu (aCn (eSl .v (eV 1) (ς (eK (.int 6))) (ς (eK (.int 10)))) (aCn (eV 3) (aCn (eV 4) (aCn (eV 5) aNl)))) [ς (.g Y),ς (.g X),ς (.g V),ς (.g C),ς (.g D),ς (.g U)] ch=ς (.g (.t [.e (((xs.drop 6).take 4).map .str),C,D,U]),ch):=by unfold eTu;rw[aX s6 (aX (c:=.g C) rfl (aX (c:=.g D) rfl (aX (c:=.g U) rfl rfl)))];simp[dats,qb7]
  rw[hC,hD,hE]at s7;have O:=bU (g2:=ax) (cj s7 rfl);rw[<- hC,<- hD,<- hE]at O;have:=bm (n:=6) (cs:=[.g Y]) (ah s1 (ah s2 (ah s3 (ah s4 (ah s5 O)))));rw[this,hC,hD,hE]
end
variable{bx:η Str}{inc:η Int}
section
variable{ch:CH}
theorem Cq{V:Dt}{W O w n:Int}(h4:ixV ch (.g V) (.int 4)=ς (I W))(U:ixV ch (.g V) (.int 5)=ς (I O))(hw:0<=w)(Z:w+1<n):∃t,0<=t/\t<n/\F6 [.g V,I w,I n] ch=ς (I t,ch):=by
 by_cases h:W%6=0
 .exact⟨O%n,qi1 _ Θ,qf5 _ Θ,xR (.c 0 h4 (.t 1 (eqI (decide_eq_true h)) (.c 0 U (.t 0 (mdI (v:=O) rfl (show 0<n by lia)) .nil))))⟩
 .have b0:=qi1 O (show n-1-w≠0 by lia);have b1:=qf5 O (show 0<n-1-w by lia);exact⟨w+1+O%(n-1-w),Θ,Θ,xR (.c 0 h4 (.t 1 (eqI (decide_eq_false h)) (.c 0 U (.t 2 (mdI (v:=O) rfl (show 0<n-1-w by lia)) .nil))))⟩
def yu{i:Int}(Z:0<=i)(h1:i<8):∃s,ixD (.str "+-*<=&|^") (.int i)=ς (.str s):=by
 have U:(qd0 "+-*<=&|^").length=8:=by decide +kernel
 have⟨g,W,_⟩:=xM (x:="+-*<=&|^") (i:=i) (by rw[U];decide) Z (by rw[U];exact h1);have O:gIx (.str "+-*<=&|^") (.int i)=ς (.f (.str ⟨#[g]⟩)):=W;refine⟨⟨#[g]⟩,?_⟩;show(match (ψ:ζ (ζ Dt))with|some r=>r|none=>match gIx (.str "+-*<=&|^") (.int i)with|some (.f y)=>ς y|_=>ψ)=_;rw[O]
def RwD(cs ss:η Hd)(w n:Int)(r:Rw):Prop:=RwP cs ss r/\∀p,(match r with
 |.go t=>p=t
 |.ife _ t=>p=t\/p=w+1
 |.fin _=>False
 |_=>p=w+1)->0<=p/\p<n
theorem nY{α:Type}{f:α->Dt}{l:η α}(hl:0<l.length)(v:Int):∃a∈l,ixV ch (.g (.e (l.map f))) (.int (v%(l.length:Int)))=ς (.g (f a)):=by
 have b0:=qi1 v (show(l.length:Int)≠0 by lia);have b1:=qf5 v (show(0:Int)<l.length by lia);have⟨k,U⟩:=qg1 b0;have O:k<l.length:=by lia
 refine⟨l[k],ql4 O,?_⟩;show(ixD (.e (l.map f)) (.int (v%(l.length:Int)))).map CV.g=_;rw[U,eT O];rfl
theorem yv{cs:η Hd}(W:Wd bx cs ss inc)(cell w n:Int)(hw:0<=w)(hn:w+1<n):∃r,RwD cs ss w n r/\F7 [I cell,I w,I n,.g (wdD bx cs ss inc)] ch=ς (.g r.d,ch):=by
 have⟨vs,hv1,hv2,hv3⟩:=bL (ch:=ch) cell 8 Θ;obtain⟨V,hV⟩:∃V:Dt,V=.e (vs.map .int):=⟨_,rfl⟩
 have xv:∀k:Nat,k<8->ixV ch (.g V) (.int k)=ς (I (vs.getD k 0)):=λk hk=>by rw[hV];show(ixD _ _).map CV.g=_;rw[ixI Θ];rfl
 rw[<- hV]at hv1;have sm:=λk (h:k<8)=>zr hv3 (k:=k) Θ
 have x0:ixV ch (.g V) (.int 0)=ς (I (vs.getD 0 0)):=xv 0 Θ;have x1:ixV ch (.g V) (.int 1)=ς (I (vs.getD 1 0)):=xv 1 Θ;have x2:ixV ch (.g V) (.int 2)=ς (I (vs.getD 2 0)):=xv 2 Θ;have x3:ixV ch (.g V) (.int 3)=ς (I (vs.getD 3 0)):=xv 3 Θ;have x6:ixV ch (.g V) (.int 6)=ς (I (vs.getD 6 0)):=xv 6 Θ;have x4:ixV ch (.g V) (.int 4)=ς (I (vs.getD 4 0)):=xv 4 Θ;have x5:ixV ch (.g V) (.int 5)=ς (I (vs.getD 5 0)):=xv 5 Θ;have x7:ixV ch (.g V) (.int 7)=ς (I (vs.getD 7 0)):=xv 7 Θ;have sm0:=(sm 0 Θ).1;clear xv sm;generalize vs.getD 0 0=y0 at*
 generalize vs.getD 1 0=y1 at*
 generalize vs.getD 2 0=y2 at*
 generalize vs.getD 3 0=y3 at*
 generalize vs.getD 4 0=y4 at*
 generalize vs.getD 5 0=y5 at*
 generalize vs.getD 6 0=y6 at*
 generalize vs.getD 7 0=y7 at*
 have⟨x,_,hx⟩:=nY (ch:=ch) (f:=Dt.str) (l:=bx) (by have:=W.b4;lia) y1;have⟨c,hcm,hc⟩:=nY (ch:=ch) (f:=Hd.d) (l:=cs) W.c0.1 y6;have⟨s,hsm,hs⟩:=nY (ch:=ch) (f:=Hd.d) (l:=ss) W.s0.1 y6;have⟨a,ha,fa⟩:=k8 (ch:=ch) y2 (xs:=bx) (by intro e;have:=W.b4;rw[e]at this;cases this);have⟨b,hb,fb⟩:=k8 (ch:=ch) y3 (xs:=bx) (by intro e;have:=W.b4;rw[e]at this;cases this);have lB:bLen.g [.e (bx.map .str)]=ς (.f (.int bx.length)):=by simp[bLen,hZ]
 have lC:bLen.g [.e (cs.map Hd.d)]=ς (.f (.int cs.length)):=by simp[bLen,hZ]
 have lD:bLen.g [.e (ss.map Hd.d)]=ς (.f (.int ss.length)):=by simp[bLen,hZ]
 have pB:(0:Int)<bx.length:=by have:=W.b4;lia
 have pC:(0:Int)<cs.length:=by have:=W.c0.1;lia
 have pD:(0:Int)<ss.length:=by have:=W.s0.1;lia
 have⟨t,ht0,ht1,ht⟩:=Cq x4 x5 hw hn;have nx:∀p,p=w+1->0<=p/\p<n:=λp e=>by lia
 have hnm:c.1∈cs.map (·.1):=qc8.mpr ⟨c,hcm,rfl⟩;have hsf:s.1∈ss.map (·.1):=qc8.mpr ⟨s,hsm,rfl⟩;have P:=λ{g:η An}{L:η Prop}(z:Oa g L)=>Oa.v 0 hv1 (.c 0 x1 (.t 0 lB (.t 0 (mdI (v:=y1) rfl pB) (.c 0 hx (.c 0 x6 (.t 0 lC (.t 0 (mdI (v:=y6) rfl pC) (.c 0 hc (.c 1 x6 (.t 0 lD (.t 0 (mdI (v:=y6) rfl pD) (.c 0 hs (.c 1 x2 (.v 0 fa (.c 0 x3 (.v 0 fb (.c 0 x0 z)))))))))))))))))
 by_cases k5:y0%23<5
 .have⟨sg,hsg⟩:=yu (i:=y7%8) Θ Θ
  have hsg':ixV ch (.g (.str "+-*<=&|^")) (.int (y7%8))=ς (.g (.str sg)):=by show(ixD (.str "+-*<=&|^") (.int (y7%8))).map CV.g=_;rw[hsg];rfl
  exact⟨.op x sg a b,⟨⟨ha,hb⟩,nx⟩,xR (P (.t 1 (ltI (decide_eq_true k5)) (.c 0 x7 (.c 0 hsg' .nil))))⟩
 have k5':=ltI (decide_eq_false k5);by_cases k17:y0%23<17
 .have k17':=ltI (decide_eq_true k17);rcases(show y0%23%4=0\/y0%23%4=1\/y0%23%4=2\/y0%23%4=3 by lia)with q|q|q|q
  .exact⟨.load x c.1,⟨hnm,nx⟩,xR (P (.t 1 k5' (.t 0 k17' (.t 0 (mdI q Ω) .nil))))⟩
  .exact⟨.store c.1 a,⟨⟨hnm,ha⟩,nx⟩,xR (P (.t 1 k5' (.t 0 k17' (.t 0 (mdI q Ω) .nil))))⟩
  .exact⟨.take x s.1 a,⟨⟨hsf,ha⟩,nx⟩,xR (P (.t 1 k5' (.t 0 k17' (.t 0 (mdI q Ω) .nil))))⟩
  .exact⟨.lay s.1 a b,⟨⟨hsf,ha,hb⟩,nx⟩,xR (P (.t 1 k5' (.t 0 k17' (.t 0 (mdI q Ω) .nil))))⟩
 have k17':=ltI (decide_eq_false k17);by_cases k20:y0%23<20
 .have k20':=ltI (decide_eq_true k20);rcases(show y0%23%3=0\/y0%23%3=1\/y0%23%3=2 by lia)with q|q|q
  .exact⟨.copy x a,⟨ha,nx⟩,xR (P (.t 1 k5' (.t 0 k17' (.t 0 k20' (.t 0 (mdI q Ω) .nil)))))⟩
  .exact⟨.hear x,⟨trivial,nx⟩,xR (P (.t 1 k5' (.t 0 k17' (.t 0 k20' (.t 0 (mdI q Ω) .nil)))))⟩
  .exact⟨.say a,⟨ha,nx⟩,xR (P (.t 1 k5' (.t 0 k17' (.t 0 k20' (.t 0 (mdI q Ω) .nil)))))⟩
 have k20':=ltI (decide_eq_false k20);by_cases k22:y0%23<22
 .exact⟨.ife x t,⟨trivial,λp hp=>by rcases hp with rfl|rfl;exact⟨ht0,ht1⟩;lia⟩,xR (P (.t 1 k5' (.t 0 k17' (.t 0 k20' (.t 0 (ltI (decide_eq_true k22)) (.v 0 ht .nil))))))⟩
 have k22':=ltI (decide_eq_false k22);rcases(show y5/64%3=0\/y5/64%3=1\/y5/64%3=2 by lia)with q|q|q
 .exact⟨.fin a,⟨ha,λp hp=>hp.elim⟩,xR (P (.t 1 k5' (.t 0 k17' (.t 0 k20' (.t 0 k22' (.v 0 ht (.c 0 x5 (.t 1 (mdI q Ω) .nil))))))))⟩
 .exact⟨.say b,⟨hb,nx⟩,xR (P (.t 1 k5' (.t 0 k17' (.t 0 k20' (.t 0 k22' (.v 0 ht (.c 0 x5 (.t 1 (mdI q Ω) .nil))))))))⟩
 .exact⟨.go t,⟨trivial,λp hp=>by subst hp;exact⟨ht0,ht1⟩⟩,xR (P (.t 1 k5' (.t 0 k17' (.t 0 k20' (.t 0 k22' (.v 0 ht (.c 0 x5 (.t 1 (mdI q Ω) .nil))))))))⟩
end
section
variable{ch:CH}
def Ey{d:Dt}(hl:l.length<=1000):oAdd.g (.t l) (.t [d])=ς (.f (.t (l++[d]))):=by
 cases l with
 |nil=>rfl
 |cons a l=>
  show orO eG iu _ _=_;unfold orO eG;have:(a::l).length+[d].length<=qa4:=by rw[qb7];simp at hl ⊢;lia
  rwa[this,true_and];simp
abbrev pE:Fg:=eCa 4 F7 (aCn (eIx (eV 1) (eV 0)) (aCn (eV 0) (aCn (e2 .v oAdd.g (eB .v bLen.g (aCn (eV 1) aNl)) (eK (.int 1))) (aCn (eV 2) aNl))))
theorem Ez{S W:Dt}{x O n:Int}{r:Rw}(h1:ixV ch (.g S) (.int x)=ς (I O))(h2:bLen.g [S]=ς (.f (.int n)))(U:F7 [I O,I x,I (n+1),.g W] ch=ς (.g r.d,ch)):pE [ς (I x),ς (.g S),ς (.g W)] ch=ς (.g r.d,ch):=by simp! only[];simp[lent,vw,vws,fin,T.d,CV.old,h1,h2,oAdd,orO,eG,U]
theorem EA{fs:FM (η CV)}(hs:fs δ ch=ς (ds.map .g,ch))(hl:ds.length<=qa4):eTu fs δ ch=ς (.g (.t ds),ch):=by unfold eTu;rw[hs,qa0];dsimp only;rw[if_pos (by rw[qa3];exact hl),bO]
theorem pH:∀ds:η Dt,vws ch (ds.map .g)=ς ds
 |[]=>rfl
 |d::ds=>by show(vws ch (ds.map .g)).map (d::·)=_;rw[pH ds];rfl
theorem pI{m:Md}{g:η Dt->ζ T}{fs:FM (η CV)}{t:T}(hs:fs δ ch=ς (ds.map .g,ch))(O:g ds=ς t):eB m g fs δ ch=fin m ch t:=by unfold eB kB;rw[hs,qa0];dsimp only;rw[pH,qa0,O];rfl
def vB{cs:η Hd}{i:Nat}{n p:Int}{r:Rw}(h:RwD cs ss i n r)(hp:iD i r p):0<=p/\p<n:=h.2 p (by cases r<;>exact hp)
theorem yw{cs:η Hd}(W:Wd bx cs ss inc)(Z:η Int)(hm:Z.length<=100)(O:Key)(hla:bq O):∃R:η Rw,(0<R.length/\R.length<=1000)/\(∀r∈R,RwP cs ss r)/\(∀(i:Nat) r p,R[i]?=ς r->iD i r p->∃j:Nat,p=j/\j<R.length)/\R.length=Z.length+1/\F8 [.g (.e (Z.map .int)),.g (wdD bx cs ss inc),.g (aw O)] ch=ς (.g (pgm cs ss R),ch):=by
 obtain⟨S,hS⟩:∃S:Dt,S=.e (Z.map .int):=⟨_,rfl⟩;have lS:bLen.g [S]=ς (.f (.int Z.length)):=by rw[hS];simp[bLen,hZ]
 have⟨ys,e1,e2',e3⟩:=dh (pt:=.one 0) (ft:=tYs) (fe:=pE) (δ:=[ψ,ς (.g S),ς (.g (wdD bx cs ss inc))]) (ch:=ch) (f:=λi:Nat=>.int (0+(i:Int))) (g:=λp:Nat×Rw=>p.2.d) (h:=λp:Nat×Rw=>p.1) (h':=λi=>i) (Q:=λp:Nat×Rw=>RwD cs ss p.1 (Z.length+1) p.2) (l:=qd8 Z.length) λi hi=>by have hi:=qf0.mp hi;have⟨r,U,h⟩:=yv (ch:=ch) W (Z.getD i 0) (i:Int) (Z.length+1) Θ Θ;refine⟨[ς (I (0+(i:Int))),ς (.g S),ς (.g (wdD bx cs ss inc))],(i,r),rfl,rfl,?_,U,rfl⟩;rw[qr3];refine Ez ?_ lS h;rw[hS];show(ixD _ _).map CV.g=_;rw[ixI hi];rfl
 have hl:ys.length=Z.length:=by have:=congrArg qm1 e3;simpa using this
 refine⟨ys.map (·.2)++[.fin O],by simp;lia,λr U=>?_,λi r p U hp=>?_,by simp[hl],?_⟩
 .rcases qf7.mp U with U|U
  .have⟨y,hy,rfl⟩:=qc8.mp U;exact(e2' y hy).1
  .simp at U;subst U;exact hla
 .rcases qk1 i ys.length with hi|hi
  .rw[qg5 ‹hi›,qa6]at U;have⟨y,hy,rfl⟩:=mS U;have h1:(ys.map λp=>p.1)[i]?=ς y.1:=by rw[qa6,hy];rfl
   have h2:(ys.map λp=>p.1)[i]?=ς i:=by rw[e3];simp[show i<Z.length by lia]
   have hfi:y.1=i:=by rw[h1]at h2;exact qc9 h2
   have hq:=e2' y (qa5 hy);rw[hfi]at hq;have:=vB hq hp;exact⟨p.toNat,Θ,by simp;lia⟩
  .have hi2:i=ys.length:=by have:=ak U;simp at this;lia
   subst hi2;simp at U;subst U;exact hp.elim
 .have s1:=aF (i:=3) (δ:=[ς (.g S),ς (.g (wdD bx cs ss inc)),ς (.g (aw O)),ψ]) (ch:=ch) (dX (src:=[ψ,ς 0,ς 1]) (fi:=iR 1 (aCn (eB .v bLen.g (aCn (eV 0) aNl)) aNl)) (di (aV (by simp! only[];simp[lent,vw,vws,lS,fin,T.d])) (aJ Θ)) rfl e1 (by rw[qa3,qb7];lia)) rfl;have ad:=Ey (l:=ys.map λp=>p.2.d) (d:=.t [.str "end",aw O]) (by simp;lia);have ra:e2 .v oAdd.g (eB .v bTup.g (aCn (eV 3) aNl)) (eTu (aCn (eTu (aCn (eK (.str "end")) (aCn (eV 2) aNl))) aNl)) [ς (.g S),ς (.g (wdD bx cs ss inc)),ς (.g (aw O)),ς (.g (.e (ys.map λp=>p.2.d)))] ch=ς (.g (.t ((ys.map λp=>p.2.d)++[.t [.str "end",aw O]])),ch):=cL (x:=.g (.t (ys.map λp=>p.2.d))) (y:=.g (.t [.t [.str "end",aw O]])) rfl rfl rfl rfl ad;have hp:pgm cs ss (ys.map (·.2)++[.fin O])=.t [.t (cs.map Hd.d),.t (ss.map Hd.d),.t ((ys.map λp=>p.2.d)++[.t [.str "end",aw O]])]:=by simp[Rw.d,qb2]
  rw[hp,<- hS,q8];refine bm (ah s1 (bU (cj ?_ rfl)));have r1:eB .v bTup.g (aCn (eIx (eV 1) (eK (.int 1))) aNl) [ς (.g S),ς (.g (wdD bx cs ss inc)),ς (.g (aw O)),ς (.g (.e (ys.map λp=>p.2.d)))] ch=ς (.g (.t (cs.map Hd.d)),ch):=rfl;have r2:eB .v bTup.g (aCn (eIx (eV 1) (eK (.int 2))) aNl) [ς (.g S),ς (.g (wdD bx cs ss inc)),ς (.g (aw O)),ς (.g (.e (ys.map λp=>p.2.d)))] ch=ς (.g (.t (ss.map Hd.d)),ch):=rfl;exact EA (ds:=[.t (cs.map Hd.d),.t (ss.map Hd.d),.t ((ys.map λp=>p.2.d)++[.t [.str "end",aw O]])]) (aX r1 (aX r2 (aV ra))) (by rw[qb7];simp)
theorem pJ(n:Int)(hn:xs.Nodup)(hl:xs.length<=6):∃bs:η Str,(bs.Nodup/\bs.length<=6)/\F9 [I n,.g (.e (xs.map .str))] ch=ς (.g (.t (bs.map .str)),ch):=by
 obtain⟨X,hX⟩:∃X:Dt,X=.e (xs.map .str):=⟨_,rfl⟩;have lX:bLen.g [X]=ς (.f (.int xs.length)):=by rw[hX];simp[bLen,hZ]
 have xX:∀k:Nat,k<xs.length->ixV ch (.g X) (.int k)=ς (.g (.str (xs.getD k qz3))):=λk hk=>by rw[hX];show(ixD _ _).map CV.g=_;rw[ixS hk];rfl
 obtain⟨q,hq⟩:∃q:Nat->Bool,q=λi:Nat=>decide (qw7 (n/2^((0+(i:Int)).toNat)) 1=1):=⟨_,rfl⟩
 have e1:=dg (pt:=.one 0) (ft:=aZ (e2 .v oEq.g (e2 .v oBan.g (e2 .v oShr.g (eV 2) (eV 0)) (eK (.int 1))) (eK (.int 1)))) (fe:=eIx (eV 1) (eV 0)) (δ:=[ψ,ς (.g X),ς (I n)]) (ch:=ch) (f:=λi:Nat=>.int (0+(i:Int))) (g:=λi:Nat=>.str (xs.getD i qz3)) (p:=q) (l:=qd8 xs.length) λi hi=>by
  refine⟨[ς (I (0+(i:Int))),ς (.g X),ς (I n)],rfl,?_,λ_=>?_⟩
  .rw[hq];show _=ς (decide (qw7 (n/2^((0+(i:Int)).toNat)) 1=1),ch);have h0:(0:Int)<=0+(i:Int):=by lia
   generalize (0:Int)+(i:Int)=z at h0 ⊢;simp! only[];simp[lent,vw,fin,T.d,dH,oShr,xx,h0,oBan,qd,oEq,gEq,wx]
  .rw[qr3];simp! only[];simp[lent,vw,xX i (qf0.mp hi)]
 obtain⟨ys,O⟩:∃ys:η Str,ys=((qd8 xs.length).filter q).map λi=>xs.getD i qz3:=⟨_,rfl⟩
 have hnd:ys.Nodup:=by rw[O];exact vv hn (List.Pairwise.filter _ qn4) λi hi=>qf0.mp (za8.mp hi).1
 have W:ys.length<=6:=by rw[O,qa3];have:=zc7 q (qd8 xs.length);rw[qy0]at this;lia
 have Z:aE (bnd (.one 0)) (aZ (e2 .v oEq.g (e2 .v oBan.g (e2 .v oShr.g (eV 2) (eV 0)) (eK (.int 1))) (eK (.int 1)))) (eIx (eV 1) (eV 0)) [ψ,ς (.g X),ς (I n)] (aB 0 xs.length) ch=ς ((ys.map .str).map .g,ch):=by rw[O,qd5,qd5];exact e1
 have U:=dX (src:=[ψ,ς 1,ς 0]) (δ:=[ς (I n),ς (.g X)]) (fi:=iR 1 (aCn (eB .v bLen.g (aCn (eV 1) aNl)) aNl)) (di (aV (by simp! only[];simp[lent,vw,vws,lX,fin,T.d])) (aJ Θ)) rfl Z (by rw[qa3,qb7];lia)
 have hsr:bSrt.g [.e (ys.map .str)]=ς (.e ((dM ys).map .str)):=by rwa[bSrt,gw,ee,qa0,show ys.length<64 by lia,if_true]
 refine⟨dM ys,⟨(cA ys).nodup_iff.mpr hnd,by rw[(cA ys).length_eq];exact W⟩,?_⟩;rw[<- hX,q9];refine bm (bU (cj ?_ rfl));have h1:=pI (m:=.v) (g:=bSrt.g) (ds:=[.e (ys.map .str)]) (aV U) hsr;exact pI (m:=.v) (g:=bTup.g) (ds:=[.e ((dM ys).map .str)]) (aV h1) rfl
end
variable{s0 s1:ζ CV}{st:Int}{R:η Rw}
section
variable{ch:CH}
def EB(r:Rw):∃k l,r.d=.t (.str k::l):=by cases r<;>exact⟨_,_,rfl⟩
theorem zu{i:Nat}{d:Dt}(h:c9 δ i=ς (.e l))(hl:l.length<qa4):sAs i (λ_ ch=>ς (.g d,ch)) δ ch=ς (.nx (δ.set i (ς (.own θ (.e (l++[d]))))) ch):=by unfold sAs;rw[h];exact if_pos hl
abbrev kB':Fs:=evS (aM gc t10) (foB d10.b)
abbrev kE(s0 s1:ζ CV)(X RR V:Dt)(st:Int)(l:η Dt)(a:ζ CV):Sl:=[s0,s1,ς (.g X),ς (.g RR),ς (.g V),ς (I st),ς (.own θ (.e l)),a]
theorem EC{O V X:Dt}{x v:Int}{l:η Dt}{k:Str}{rest:η Dt}{bs:η Str}(Z:ixV ch (.g O) (.int x)=ς (.g (.t (.str k::rest))))(h4:ixV ch (.g V) (.int (x+1))=ς (I v))(U:0<st)(hb:F9 [I (v/30),.g X] ch=ς (.g (.t (bs.map .str)),ch))(hl:l.length<=1000):kB' (kE s0 s1 X O V st l (ς (I x))) ch=ς (.nx (kE s0 s1 X O V st l (ς (I x))) ch)\/kB' (kE s0 s1 X O V st l (ς (I x))) ch=ς (.nx (kE s0 s1 X O V st (l++[.t [.int x,.t (bs.map .str)]]) (ς (I x))) ch):=by
 have W:=ix0 (ch:=ch) (d:=.str k) (l:=rest);have ap:=zu (ch:=ch) (δ:=kE s0 s1 X O V st l (ς (I x))) (i:=6) (l:=l) (d:=.t [.int x,.t (bs.map .str)]) rfl (by rw[qb7];lia);have e:oEq.g (.str k) (.str "end")=ς (.f (.bl (decide (k=qd0 "end")))):=rfl;by_cases h1:k=qd0 "end"
 .rw[decide_eq_true h1]at e;exact .inr (xRs (.c 0 Z (.c 0 W (.t 0 e (.c 0 h4 (.v 0 hb (.o 0 ap .nil)))))))
 .rw[decide_eq_false h1]at e;by_cases h2:v%st=0
  .exact .inr (xRs (.c 0 Z (.c 0 W (.t 0 e (.c 0 h4 (.t 0 (mdI h2 U) (.c 0 h4 (.v 0 hb (.o 0 ap .nil)))))))))
  .exact .inl (xRs (.c 0 Z (.c 0 W (.t 0 e (.c 0 h4 (.t 0 (mdI (v:=v) rfl U) (.t 0 (eqI (decide_eq_false h2)) .nil)))))))
theorem iJ{s0 s1:ζ CV}{vs:η Int}(U:0<st)(hv:R.length+2<=vs.length)(hn:xs.Nodup)(hx:xs.length<=6)(hR:R.length<=101):∀{js:η Nat}{ks:η Kp'}{a7:ζ CV},(∀j∈js,j<R.length)->(ks.map (·.1)++js.map λj:Nat=>(j:Int)).Nodup->(∀k∈ks,k.2.Nodup/\k.2.length<=6)->ks.length+js.length<=101->∃(O:η Kp')(a7':ζ CV),bE (bnd (.one 7)) kB' (js.map λj:Nat=>.int (0+(j:Int))) (kE s0 s1 (.e (xs.map .str)) (.t (R.map Rw.d)) (.e (vs.map .int)) st (ks.map Kp'.d) a7) ch=ς (.nx (kE s0 s1 (.e (xs.map .str)) (.t (R.map Rw.d)) (.e (vs.map .int)) st (O.map Kp'.d) a7') ch)/\(O.map (·.1)).Nodup/\∀k∈O,k.2.Nodup/\k.2.length<=6
 |[],ks,a7,_,W,hk,_=>⟨ks,a7,rfl,‹W›,hk⟩
 |j::js,ks,a7,hj,W,hk,hl=>by
  rwa[qb6]at hl;have hjl:=hj j (.head _);have⟨k,rest,hr⟩:=EB R[j]
  have h3:ixV ch (.g (.t (R.map Rw.d))) (.int (0+(j:Int)))=ς (.g (.t (.str k::rest))):=by rw[qr3];show(ixD _ _).map CV.g=_;rw[(gF (L:=R.map Rw.d) (i:=j) (d:=R[j].d) (by rw[qa6,gQ hjl];rfl)).2,hr];rfl
  have h4:ixV ch (.g (.e (vs.map .int))) (.int (0+(j:Int)+1))=ς (I (vs.getD (j+1) 0)):=by rw[show(0:Int)+(j:Int)+1=((j+1:Nat):Int)by push_cast;lia];show(ixD _ _).map CV.g=_;rw[ixI Θ];rfl
  have⟨bs,hbs,hb⟩:=pJ (ch:=ch) (vs.getD (j+1) 0/30) hn hx;rcases EC (s0:=s0) (s1:=s1) (l:=ks.map Kp'.d) h3 h4 U hb (by simp;lia)with e|e
  .have⟨O,a7',i1,i2,i3⟩:=iJ (s0:=s0) (s1:=s1) U hv hn hx hR (js:=js) (ks:=ks) (a7:=ς (I (0+(j:Int)))) (λi hi=>hj i (.tail _ hi)) (by rw[qe1]at W ⊢;refine⟨W.1,?_,λa ha b hb=>W.2.2 a ha b (by simp at hb ⊢;exact .inr hb)⟩;have:=W.2.1;rw[qa2,qd7]at this;exact this.2) hk Θ
   exact⟨O,a7',qz2 (cG rfl e) i1,i2,i3⟩
  .have hks:ks.map Kp'.d++[.t [.int (0+(j:Int)),.t (bs.map .str)]]=(ks++[((0+(j:Int),bs):Kp')]).map Kp'.d:=by simp[Kp'.d]
   rw[hks]at e
   have⟨O,a7',i1,i2,i3⟩:=iJ (s0:=s0) (s1:=s1) U hv hn hx hR (js:=js) (ks:=ks++[((0+(j:Int),bs):Kp')]) (a7:=ς (I (0+(j:Int)))) (λi hi=>hj i (.tail _ hi)) (by rw[qr3];simpa[qd9] using W) (λq Z=>by rcases qf7.mp Z with Z|Z;exact hk q Z;simp at Z;subst Z;exact hbs) (by simp;lia)
   exact⟨O,a7',qz2 (cG rfl e) i1,i2,i3⟩
def yx{l:η Int}(h:0<l.length):∃v,ixV ch (.g (.e (l.map .int))) (.int (-1))=ς (I v):=by
 have:atI (l.map Dt.int) (-1)=ς (.int (l.getD (l.length-1) 0)):=by unfold atI ixN;rw[if_neg Ω,qa3,if_pos Θ,qa0,show((-1:Int)+(l.length:Int)).toNat=l.length-1 by lia,qa6,gQ Θ,qc3,gQ Θ];rfl
 refine⟨l.getD (l.length-1) 0,?_⟩;show(ixD _ _).map CV.g=_;simp[ixD,bQ,gIx,this]
theorem Cr{cs:η Hd}{R:η Rw}{xs:η Str}(c:Int)(hn:xs.Nodup)(hx:xs.length<=6)(hR:0<R.length/\R.length<=98):∃bg ks,(bg.Nodup/\bg.length<=6)/\(ks.map (·.1)).Nodup/\(∀k∈ks,k.2.Nodup/\k.2.length<=6)/\F10 [.g (pgm cs ss R),I c,.g (.e (xs.map .str))] ch=ς (.g (cod bg ks),ch):=by
 have⟨vs,Z,hv2,hv3⟩:=bL (ch:=ch) c (R.length+2) Θ
 have h0:ixV ch (.g (.e (vs.map .int))) (.int 0)=ς (I (vs.getD 0 0)):=by show(ixD _ (.int ((0:Nat):Int))).map CV.g=_;rw[ixI Θ];rfl
 obtain⟨st,j,O,hq,U⟩:∃st j:Int,0<st/\vs.getD 0 0%3=j/\ixV ch (.g (.e [.int 2,.int 3,.int 5])) (.int j)=ς (I st):=by
  rcases(show vs.getD 0 0%3=0\/vs.getD 0 0%3=1\/vs.getD 0 0%3=2 by lia)with q|q|q
  .exact⟨2,0,Ω,q,rfl⟩
  .exact⟨3,1,Ω,q,rfl⟩
  .exact⟨5,2,Ω,q,rfl⟩
 have⟨ks,a7,k1,k2,k3⟩:=iJ (ch:=ch) (s0:=ς (.g (pgm cs ss R))) (s1:=ς (I c)) (R:=R) (vs:=vs) (xs:=xs) O Θ hn hx Θ (js:=qd8 R.length) (ks:=[]) (a7:=ψ) (λj U=>qf0.mp U) (by rwa[qe3,qh9];exact qm8 _ (λa b h q=>h Θ) qn4) Ξ (by simp;lia)
 have⟨v,hv⟩:=yx (ch:=ch) (l:=vs) Θ;have⟨bg,W,hb⟩:=pJ (ch:=ch) v hn hx;have lR:bLen.g [.t (R.map Rw.d)]=ς (.f (.int R.length)):=by simp[bLen,hZ]
 have s5:=bz (fi:=iR 1 (aCn (eB .v bLen.g (aCn (eV 3) aNl)) aNl)) (pt:=.one 7) (g:=kB') (ds:=aB 0 R.length) (di (aV (pI (m:=.v) (δ:=kE (ς (.g (pgm cs ss R))) (ς (I c)) (.e (xs.map .str)) (.t (R.map Rw.d)) (.e (vs.map .int)) st [] ψ) (ds:=[.t (R.map Rw.d)]) (aV rfl) lR)) (aJ Θ)) k1;exact⟨bg,ks,W,k2,k3,xR (.t 0 lR (.v 0 Z (.c 0 h0 (.t 0 (mdI hq Ω) (.c 0 U (.o 0 s5 (.c 0 hv (.v 0 hb .nil))))))))⟩
end
section
variable{ch:CH}
abbrev fB:Fs:=evS (aM gc t11) (foB d11.b)
theorem ED{c:Int}{l:η Dt}(hl:l.length<=1000):∃(f:Fl)(a3' a4':ζ CV),(f.1<100/\Vi (.int f.2))/\fB [s0,ς (.own θ (.e l)),ς (I c),a3,a4] ch=ς (.nx [s0,ς (.own θ (.e (l++[f.d]))),ς (I c),a3',a4'] ch):=by
 have⟨vs,hv1,hv2,hv3⟩:=bL (ch:=ch) c 3 Θ
 have Z:∀k:Nat,k<3->ixV ch (.g (.e (vs.map .int))) (.int k)=ς (I (vs.getD k 0)):=λk hk=>by show(ixD _ _).map CV.g=_;rw[ixI Θ];rfl
 have W:ixV ch (.g (.e (vs.map .int))) (.int 0)=ς (I (vs.getD 0 0)):=Z 0 Θ;have x1:ixV ch (.g (.e (vs.map .int))) (.int 1)=ς (I (vs.getD 1 0)):=Z 1 Θ;have x2:ixV ch (.g (.e (vs.map .int))) (.int 2)=ς (I (vs.getD 2 0)):=Z 2 Θ;clear Z hv3 hv2;generalize vs.getD 0 0=U at W;generalize vs.getD 1 0=y1 at x1;generalize vs.getD 2 0=y2 at x2;generalize Dt.e (vs.map .int)=V at*
 have⟨v,hv,hf⟩:=eU (ch:=ch) y1;have O:F2 [I c,.g (.int 3)] ch=ς (.g V,ch):=hv1;have ap:=λn:Nat=>zu (ch:=ch) (δ:=[s0,ς (.own θ (.e l)),ς (I c),ς (.g V),ς (I n)]) (i:=1) (l:=l) (d:=.t [.int n,.int v]) rfl (by rw[qb7];lia)
 by_cases h:y2%5=0
 .obtain⟨n,hn⟩:∃n:Nat,U%100=n:=⟨(U%100).toNat,Θ⟩;exact⟨(n,v),ς (.g V),ς (I n),⟨by show n<100;lia,hv⟩,xRs (.v 0 O (.c 0 W (.c 0 x2 (.t 1 (eqI (decide_eq_true h)) (.c 0 W (.t 0 (mdI hn Ω) (.c 0 x1 (.v 0 hf (.o 0 (ap n) .nil)))))))))⟩
 .obtain⟨n,hn⟩:∃n:Nat,U%15=n:=⟨(U%15).toNat,Θ⟩;exact⟨(n,v),ς (.g V),ς (I n),⟨by show n<100;lia,hv⟩,xRs (.v 0 O (.c 0 W (.t 0 (mdI hn Ω) (.c 0 x2 (.t 1 (eqI (decide_eq_false h)) (.c 0 x1 (.v 0 hf (.o 0 (ap n) .nil))))))))⟩
theorem mz{s0:ζ CV}:∀{cs:η Int}{fs:η Fl}{a2 a3 a4:ζ CV},(∀f∈fs,f.1<100/\Vi (.int f.2))->fs.length+cs.length<=1000->∃(fs':η Fl)(O W U:ζ CV),bE (bnd (.one 2)) fB (cs.map .int) [s0,ς (.own θ (.e (fs.map Fl.d))),a2,a3,a4] ch=ς (.nx [s0,ς (.own θ (.e (fs'.map Fl.d))),O,W,U] ch)/\(∀f∈fs',f.1<100/\Vi (.int f.2))/\fs'.length=fs.length+cs.length
 |[],fs,a2,a3,a4,h,_=>⟨fs,a2,a3,a4,rfl,h,rfl⟩
 |c::cs,fs,a2,a3,a4,h,hl=>by
  rwa[qb6]at hl;have⟨f,b3,b4,hf,e⟩:=ED (ch:=ch) (s0:=s0) (a3:=a3) (a4:=a4) (c:=c) (l:=fs.map Fl.d) (by simp;lia);have⟨fs',O,W,U,i1,i2,i3⟩:=mz (s0:=s0) (cs:=cs) (fs:=fs++[f]) (a2:=ς (I c)) (a3:=b3) (a4:=b4) (λg Z=>by rcases qf7.mp Z with Z|Z;exact h g Z;simp at Z;subst Z;exact hf) (by simp;lia);have hm:fs.map Fl.d++[f.d]=(fs++[f]).map Fl.d:=by simp
  rw[hm]at e;exact⟨fs',O,W,U,qz2 (cG rfl e) i1,i2,by rw[i3];simp;lia⟩
theorem vC(cs:η Int)(hl:cs.length<=100):∃fs:η Fl,F11 [.g (.e (cs.map .int))] ch=ς (.g (.e (fs.map Fl.d)),ch)/\(∀f∈fs,f.1<100/\Vi (.int f.2))/\fs.length=cs.length:=by have⟨fs,a2,a3,a4,U,O,W⟩:=mz (ch:=ch) (s0:=ς (.g (.e (cs.map .int)))) (cs:=cs) (fs:=[]) (a2:=ψ) (a3:=ψ) (a4:=ψ) Ξ (by simp;lia);refine⟨fs,?_,O,by rw[W];simp⟩;exact xR (.o 0 (bz (fi:=iE (eV 0)) (pt:=.one 2) (g:=fB) (ds:=cs.map .int) rfl U) .nil)
theorem vD{α:Type}(f:α->Dt)(l:η α)(a b:ζ Int):∃m:η α,gSl (.e (l.map f)) a b=ς (.e (m.map f))/\m.length<=l.length/\∀x∈m,x∈l:=by
 refine⟨(l.drop (HT.sIx (l.map f).length 0 a)).take (HT.sIx (l.map f).length (l.map f).length b-HT.sIx (l.map f).length 0 a),?_,?_,λx O=>List.mem_of_mem_drop (qp2 O)⟩
 .show ς (T.e (fF (l.map f) a b))=_;unfold fF;rw[ze8,List.map_drop]
 .rwa[ql2,qt4];lia
theorem mB{α:Type}(f:α->Dt)(l:η α)(b:Int)(hb:0<=b):gSl (.e (l.map f)) ψ (ς b)=ς (.e ((l.take b.toNat).map f)):=by have⟨k,rfl⟩:=qg1 hb;show ς (T.e (fF (l.map f) ψ (ς (k:Int))))=_;unfold fF;rw[HT.EF];rwa[HT.sIx,qa3,zf8,List.drop_zero,qi6];rw[ze8,List.take_eq_take_min,qa3];simp
end
section
variable{cs ss:η Hd}{R:η Rw}{bg:η Str}{ks:η Kp'}{inc:η Dt}
def Cs{cs b:CH}(h:At ρ cs b)(L:CH):At ρ cs (b++L):=⟨h.inj,λhi=>by have:=h.get hi;rw[gL (ak this)];exact this⟩
theorem Pr.mkH(P:Pr cs ss R bg ks inc)(ch:CH):∃(L:CH)(ρ:Nat->Nat),ρ 0=ch.length/\(∀i,ch.length<=ρ i)/\At ρ (c (shC cs++shS ss) (st0 cs ss R bg ks inc)) (ch++L)/\∀(fs:FM (η CV))(δ:Sl),fs δ ch=ς ([.g (pgm cs ss R),.g (cod bg ks),.g (.e inc)],ch)->eMk 3 4 F22 fs δ ch=ς (.ref ch.length,ch++L):=by
 have⟨B,σ,U,k2,O⟩:=P.house;have W:0<B.length:=by have:=k2.lt (i:=0) mi;lia
 refine⟨B.map (rnO (ch.length + ·)),λi=>ch.length+σ i,by show ch.length+σ 0=_;rw[O];rfl,λi=>Nat.le_add_right _ _,At.comp o4 k2,λfs δ h=>?_⟩;exact eO (F:=F22) (c:=3) (n:=4) (ds:=[pgm cs ss R,cod bg ks,.e inc]) (ay _) h rfl U W
def mC{k:Nat}:F54 [I k,I k] ch=ς (.g (.bl θ),ch):=by generalize (k:Int)=z;simp! only[q54,eAn,eNt];simp! []
def vE(fs:η Fl):az 20 (.e (fs.map Fl.d))=θ:=qb9.mpr λd O=>by have⟨f,_,rfl⟩:=qc8.mp O;rfl
theorem vF (P:Pr cs ss R bg ks inc) {most:Nat} (hm:most<=1000) {fs:η Fl} (hf:∀ f∈fs,Vi (.int f.2)) (hl:fs.length<=63) {ns:η Str} (hns:ns.length<1000) (ch:CH):∃ (L:CH) (k:Nat) (b1 b2:CH) (p q:Nat),
  (∀(g:FM (η CV))(δ:Sl)(ch':CH),ch'=ch->g δ ch=ς ([.g (pgm cs ss R),.g (cod bg ks),.g (.e inc)],ch)->eMk 3 4 F22 g δ ch=ς (.ref p,ch++L))∧
  (∃M:CH,(∀(g:FM (η CV))(δ:Sl),g δ (ch++L)=ς ([.g (pgm cs ss R),.g (cod bg ks),.g (.e inc)],ch++L)->eMk 3 4 F22 g δ (ch++L)=ς (.ref q,ch++L++M))∧F53 [.ref p,.g (.e (fs.map Fl.d)),I most] (ch++L++M)=ς (I k,b1))∧
  F55 [.ref q,.g (.e (fs.map Fl.d)),I most] b1=ς (I k,b2)∧
  F67 [.ref p,.ref q,.g (pgm cs ss R),.g (.e (ns.map .str))] b2=ς (.g (.bl θ),b2):=by
 have⟨L,ρ1,z1,_,A1,m1⟩:=P.mkH ch;have⟨M,ρ2,z2,l2,A2,m2⟩:=P.mkH (ch++L);have X:=P.xr;have A1':=Cs A1 M
 have dis:∀i j,i<(c (shC cs++shS ss) (st0 cs ss R bg ks inc)).length->j<(c (shC cs++shS ss) (st0 cs ss R bg ks inc)).length->ρ1 i≠ρ2 j:=λi j hi hj e=>by have:=A1.lt hi;have:=l2 j;lia
 have⟨dr,G1,N1⟩:=uS X (most:=most) Θ (r:=fs) hf P.g0 (by simp;lia);have hd:=x9 X (most:=most) Θ (r:=fs) hf P.g0 (by simp;lia);have⟨ρ1',b1,r1,v1⟩:=dr.mv A1';have A2':=v1.fr.at A2 dis;have⟨ρ2',b2,r2,v2⟩:=hd.mv A2';have dis1:=v1.sb.apart dis λj hj=>A2.lt hj
 have U:=v2.fr.at v1.at_ λi j hi hj e=>dis1 j i hj hi e.symm
 have O:=yg (cs:=cs) (ss:=ss) (rw:=.t (R.map Rw.d)) (ns:=ns) X G1 (by have:=N1;simp at this;lia) U v2.at_ (λh hh=>Co (qc8.mpr ⟨h,hh,rfl⟩)) (λh hh=>vp_s P.sv (qc8.mpr ⟨h,hh,rfl⟩)) hns;rw[v1.zero,z1,v2.zero,z2]at O;have W:F53 [.ref (ρ1 0),.g (.e (fs.map Fl.d)),I most] (ch++L++M)=ς (I (dv (fx cs ss R ks inc) R (shC cs++shS ss) most fs (10,st0 cs ss R bg ks inc)).1,b1):=r1;have Z:F55 [.ref (ρ2 0),.g (.e (fs.map Fl.d)),I most] b1=ς (I (dv (fx cs ss R ks inc) R (shC cs++shS ss) most fs (10,st0 cs ss R bg ks inc)).1,b2):=r2;rw[z1]at W;rw[z2]at Z;exact⟨L,_,b1,b2,ch.length,(ch++L).length,λg δ _ _ h=>m1 g δ h,⟨M,λg δ h=>m2 g δ h,W⟩,Z,O⟩
end
variable{Y N' PR:Dt}
section
theorem mD:∀l:η Int,nq (l.map .int)=ς l
 |[]=>rfl
 |i::l=>by rwa[qa2,nq,mD l,qb0]
theorem yz{W CO:Dt}{fs:η Fl}{vs:η Int}(hv:vs.length=4)(hvs:∀v∈vs,Sm' v)(hf:∀f∈fs,f.1<100):∃most:Nat,most<=1000/\∀r,aj (bC 7 (e2 .v oMod.g (eIx (eV 6) (eK (.int 0))) (eK (.int 151)))) (aj (sIf (aZ (e2 .v oEq.g (e2 .v oMod.g (eIx (eV 6) (eK (.int 1))) (eK (.int 2))) (eK (.int 0)))) (aj (bC 7 (eB .v bSum.g (aCn (eCo .v [ψ,ψ] (iE (eSl .v (eV 5) ψ (ς (e2 .v oMod.g (eIx (eV 6) (eK (.int 2))) (eK (.int 5)))))) (bnd (.many [0,1])) tYs (eV 0)) aNl))) ax) ax) r) [ς (.g Y),ς (.g W),ς (.g N'),ς (.g PR),ς (.g CO),ς (.g (.e (fs.map Fl.d))),ς (.g (.e (vs.map .int))),ψ,ψ,ψ,ψ,ψ] []=r [ς (.g Y),ς (.g W),ς (.g N'),ς (.g PR),ς (.g CO),ς (.g (.e (fs.map Fl.d))),ς (.g (.e (vs.map .int))),ς (I most),ψ,ψ,ψ,ψ] []:=by
 have xv:∀k:Nat,k<4->ixV [] (.g (.e (vs.map .int))) (.int k)=ς (I (vs.getD k 0)):=λk hk=>by show(ixD _ _).map CV.g=_;rw[ixI Θ];rfl
 have x0:ixV [] (.g (.e (vs.map .int))) (.int 0)=ς (I (vs.getD 0 0)):=xv 0 Θ;have x1:ixV [] (.g (.e (vs.map .int))) (.int 1)=ς (I (vs.getD 1 0)):=xv 1 Θ;have x2:ixV [] (.g (.e (vs.map .int))) (.int 2)=ς (I (vs.getD 2 0)):=xv 2 Θ;generalize vs.getD 0 0=y0 at x0;generalize vs.getD 1 0=y1 at x1;generalize vs.getD 2 0=y2 at x2;generalize Dt.e (vs.map .int)=V at*
 obtain⟨Z,hm0⟩:∃m:Nat,(m:Int)=y0%151:=⟨(y0%151).toNat,Θ⟩
 have s1:bC 7 (e2 .v oMod.g (eIx (eV 6) (eK (.int 0))) (eK (.int 151))) [ς (.g Y),ς (.g W),ς (.g N'),ς (.g PR),ς (.g CO),ς (.g (.e (fs.map Fl.d))),ς (.g V),ψ,ψ,ψ,ψ,ψ] []=ς (.nx [ς (.g Y),ς (.g W),ς (.g N'),ς (.g PR),ς (.g CO),ς (.g (.e (fs.map Fl.d))),ς (.g V),ς (I Z),ψ,ψ,ψ,ψ] []):=by rw[hm0];simp! only[];simp[lent,vw,fin,T.d,CV.kp,x0,oMod,cN]
 by_cases h:y1%2=0
 .obtain⟨g,U⟩:∃g:η Fl,g=fs.take (y2%5).toNat:=⟨_,rfl⟩;have hgl:g.length<=4:=by rw[U,ql2];lia
  have hgm:∀f∈g,f.1<100:=λf h=>hf f (qp2 (by rw[<- U];exact h))
  have O:=mB Fl.d fs (y2%5) Θ;rw[<- U]at O;have e1:=bT (pt:=.many [0,1]) (ft:=tYs) (fe:=eV 0) (δ:=[ψ,ψ]) (ch:=[]) (f:=Fl.d) (g:=λf:Fl=>.int f.1) (l:=g) λf _=>⟨[ς (I f.1),ς (I f.2)],rfl,rfl,rfl⟩
  obtain⟨m,hm⟩:∃m:Nat,m=(g.map (·.1)).sum:=⟨_,rfl⟩
  have hml:m<=1000:=by
   have:∀l:η Fl,(∀f∈l,f.1<100)->(l.map (·.1)).sum<=100*l.length:=λl=>by
    induction l with
    |nil=>intro _;simp
    |cons f l ih=>
     intro h;have:=ih λg U=>h g (.tail _ U)
     have:=h f (.head _);simp;lia
   have:=this g hgm;lia
  have hsum:bSum.g [.e (g.map λf=>.int f.1)]=ς (.f (.int m)):=by
   have e:(g.map λf:Fl=>(.int f.1:Dt))=(g.map λf=>(f.1:Int)).map .int:=by simp
   have e2':(g.map λf=>(f.1:Int)).sum=m:=by
    rw[hm];clear O e1 hm hml hgl hgm U e;induction g with
    |nil=>rfl
    |cons f l ih=>rwa[qa2,List.sum_cons,ih];push_cast;rfl
   rwa[bSum,oR,e,mD,qb0,e2']
  refine⟨m,hml,λr=>?_⟩
  have hco:eCo .v [ψ,ψ] (iE (eSl .v (eV 5) ψ (ς (e2 .v oMod.g (eIx (eV 6) (eK (.int 2))) (eK (.int 5)))))) (bnd (.many [0,1])) tYs (eV 0) [ς (.g Y),ς (.g W),ς (.g N'),ς (.g PR),ς (.g CO),ς (.g (.e (fs.map Fl.d))),ς (.g V),ς (I Z),ψ,ψ,ψ,ψ] []=ς (.g (.e (g.map λf=>.int f.1)),[]):=by refine dX (ds:=g.map Fl.d) (zt (d:=.e (g.map Fl.d)) ?_ rfl) rfl (by rw[qd5];exact e1) (by rw[qa3,qb7];lia);generalize Dt.e (fs.map Fl.d)=Q at O ⊢;simp[eSl,fOp,eV,lent,e2,eIx,eK,vw,x2,oMod,cN,fin,T.d,bY,O]
  have hs:=pI (m:=.v) (g:=bSum.g) (ds:=[.e (g.map λf=>.int f.1)]) (aV hco) hsum;have s2:=aF (i:=7) (c:=I m) hs rfl;unfold aj at*
  rw[s1,qa0];dsimp only
  have ht:aZ (e2 .v oEq.g (e2 .v oMod.g (eIx (eV 6) (eK (.int 1))) (eK (.int 2))) (eK (.int 0))) [ς (.g Y),ς (.g W),ς (.g N'),ς (.g PR),ς (.g CO),ς (.g (.e (fs.map Fl.d))),ς (.g V),ς (I Z),ψ,ψ,ψ,ψ] []=ς (θ,[]):=by simp! only[];simp[lent,vw,fin,T.d,dH,x1,oMod,cN,oEq,gEq,wx,h]
  unfold sIf;rw[ht,qa0];dsimp only;rw[if_pos rfl,s2,qa0];rfl
 .refine⟨Z,Θ,λr=>?_⟩;unfold aj;rw[s1,qa0];dsimp only
  have ht:aZ (e2 .v oEq.g (e2 .v oMod.g (eIx (eV 6) (eK (.int 1))) (eK (.int 2))) (eK (.int 0))) [ς (.g Y),ς (.g W),ς (.g N'),ς (.g PR),ς (.g CO),ς (.g (.e (fs.map Fl.d))),ς (.g V),ς (I Z),ψ,ψ,ψ,ψ] []=ς (ξ,[]):=by simp! only[];simp[lent,vw,fin,T.d,dH,x1,oMod,cN,oEq,gEq,wx,h]
  unfold sIf;rw[ht,qa0];rfl
end
section
def Ct{f:FM Bool}{g:Fs}{b:CH}(h1:f δ b=ς (ξ,b')):sIf f g ax δ b=ς (.nx δ b'):=by unfold sIf;rw[h1,qa0];rfl
def f78:F78=F53:=q78.trans q53.symm
def vG{W CO FS V IN F4':Dt}{k k2 p p2 q2:Nat}{L M b2 b3 Z M2 b4 b5:CH}{e:Bool}
 (hW:∀ch,ixV ch (.g W) (.int 3)=ς (.g IN)) (hls:bList.g [FS]=ς (.f FS)\/∃l,FS=.e l) (hFl:∃l,FS=.e l)
 (hcut:gSl FS ψ (ς 4)=ς (.f F4')\/∃l,F4'=.e l/\gSl FS ψ (ς 4)=ς (.e l))
 (heq:oEq.g FS FS=ς (.f (.bl θ)))
 (m1:∀(g:FM (η CV))(δ:Sl),g δ []=ς ([.g PR,.g CO,.g IN],[])->eMk 3 4 F22 g δ []=ς (.ref p,L))
 (m2:∀(g:FM (η CV))(δ:Sl),g δ L=ς ([.g PR,.g CO,.g IN],L)->eMk 3 4 F22 g δ L=ς (.ref q,M))
 (r1:F53 [.ref p,.g FS,I most] M=ς (I k,b1)) (r2:F55 [.ref q,.g FS,I most] b1=ς (I k,b2)) (r3:F67 [.ref p,.ref q,.g PR,.g N'] b2=ς (.g (.bl θ),b2))
 (he:F77 [.g PR,.g IN] b2=ς (.g (.bl e),b3))
 (m3:∀(g:FM (η CV))(δ:Sl),g δ b3=ς ([.g PR,.g CO,.g IN],b3)->eMk 3 4 F22 g δ b3=ς (.ref p2,Z))
 (m4:∀(g:FM (η CV))(δ:Sl),g δ Z=ς ([.g PR,.g CO,.g IN],Z)->eMk 3 4 F22 g δ Z=ς (.ref q2,M2))
 (r4:F53 [.ref p2,.g F4',I 1000] M2=ς (I k2,b4)) (r5:F55 [.ref q2,.g F4',I 1000] b4=ς (I k2,b5)) (r6:F67 [.ref p2,.ref q2,.g PR,.g N'] b5=ς (.g (.bl θ),b5)):∃ch',(aj (bC 8 (eB .v bList.g (aCn (eV 5) aNl))) (aj (bC 9 (eMk 3 4 F22 (aCn (eV 3) (aCn (eV 4) (aCn (eIx (eV 1) (eK (.int 3))) aNl))))) (aj (bC 10 (eMk 3 4 F22 (aCn (eV 3) (aCn (eV 4) (aCn (eIx (eV 1) (eK (.int 3))) aNl))))) (aj (bC 11 (eCa 3 F53 (aCn (eV 9) (aCn (eV 8) (aCn (eV 7) aNl))))) (aj (sIf (iS (tNt (bJ (eCa 2 F54 (aCn (eV 11) (aCn (eCa 3 F55 (aCn (eV 10) (aCn (eV 5) (aCn (eV 7) aNl)))) aNl))))) (tNt (bJ (eCa 4 F67 (aCn (eV 9) (aCn (eV 10) (aCn (eV 3) (aCn (eV 2) aNl)))))))) (aj (sRt (eK (.bl ξ))) ax) ax) (aj (sIf (tNt (bJ (eCa 2 F77 (aCn (eV 3) (aCn (eIx (eV 1) (eK (.int 3))) aNl))))) (aj (sRt (e2 .v oEq.g (eV 8) (eV 5))) ax) ax) (aj (bC 9 (eMk 3 4 F22 (aCn (eV 3) (aCn (eV 4) (aCn (eIx (eV 1) (eK (.int 3))) aNl))))) (aj (bC 10 (eMk 3 4 F22 (aCn (eV 3) (aCn (eV 4) (aCn (eIx (eV 1) (eK (.int 3))) aNl))))) (aj (bC 11 (eCa 3 F78 (aDf 1000 (aCn (eV 9) (aCn (eSl .v (eV 8) ψ (ς (eK (.int 4)))) aNl))))) (aj (sIf (tNt (bJ (eCa 2 F54 (aCn (eV 11) (aCn (eCa 3 F55 (aCn (eV 10) (aCn (eSl .v (eV 5) ψ (ς (eK (.int 4)))) (aCn (eK (.int 1000)) aNl)))) aNl))))) (aj (sRt (eK (.bl ξ))) ax) ax) (aj (sRt (eAn (eCa 4 F67 (aCn (eV 9) (aCn (eV 10) (aCn (eV 3) (aCn (eV 2) aNl))))) (e2 .v oEq.g (eV 8) (eV 5)))) ax))))))))))) [ς (.g Y),ς (.g W),ς (.g N'),ς (.g PR),ς (.g CO),ς (.g FS),ς (.g V),ς (I most),ψ,ψ,ψ,ψ] []=ς (.rt (.g (.bl θ)) ch'):=by
 have ag:∀(a6 a7 a8 a9 U O:ζ CV)(ch:CH),aCn (eV 3) (aCn (eV 4) (aCn (eIx (eV 1) (eK (.int 3))) aNl)) [ς (.g Y),ς (.g W),ς (.g N'),ς (.g PR),ς (.g CO),ς (.g FS),a6,a7,a8,a9,U,O] ch=ς ([.g PR,.g CO,.g IN],ch):=λa6 a7 a8 a9 U O ch=>by simp[aCn,eV,lent,eIx,eK,vw,hW,aNl]
 have s1:bC 8 (eB .v bList.g (aCn (eV 5) aNl)) [ς (.g Y),ς (.g W),ς (.g N'),ς (.g PR),ς (.g CO),ς (.g FS),ς (.g V),ς (I most),ψ,ψ,ψ,ψ] []=ς (.nx [ς (.g Y),ς (.g W),ς (.g N'),ς (.g PR),ς (.g CO),ς (.g FS),ς (.g V),ς (I most),ς (.g FS),ψ,ψ,ψ] []):=by have⟨l,rfl⟩:=hFl;rfl
 have s2:=aF (i:=9) (m1 _ _ (ag (ς (.g V)) (ς (I most)) (ς (.g FS)) ψ ψ ψ [])) rfl;have s3:=aF (i:=10) (m2 _ _ (ag (ς (.g V)) (ς (I most)) (ς (.g FS)) (ς (.ref p)) ψ ψ L)) rfl;have s4:=aF (i:=11) (br (n:=3) (F:=F53) (ch:=M) (δ:=[ς (.g Y),ς (.g W),ς (.g N'),ς (.g PR),ς (.g CO),ς (.g FS),ς (.g V),ς (I most),ς (.g FS),ς (.ref p),ς (.ref q),ψ]) (fs:=aCn (eV 9) (aCn (eV 8) (aCn (eV 7) aNl))) (cs:=[.ref p,.g FS,I most]) rfl ⟨rfl,rfl⟩ r1) rfl
 have t5:iS (tNt (bJ (eCa 2 F54 (aCn (eV 11) (aCn (eCa 3 F55 (aCn (eV 10) (aCn (eV 5) (aCn (eV 7) aNl)))) aNl))))) (tNt (bJ (eCa 4 F67 (aCn (eV 9) (aCn (eV 10) (aCn (eV 3) (aCn (eV 2) aNl))))))) [ς (.g Y),ς (.g W),ς (.g N'),ς (.g PR),ς (.g CO),ς (.g FS),ς (.g V),ς (I most),ς (.g FS),ς (.ref p),ς (.ref q),ς (I k)] b1=ς (ξ,b2):=by have w:=mC (k:=k) (ch:=b2);simp[iS,tNt,bJ,eCa,kCa,aCn,eV,lent,aNl,CV.old,vw,iP,r2,w,r3]
 have t6:tNt (bJ (eCa 2 F77 (aCn (eV 3) (aCn (eIx (eV 1) (eK (.int 3))) aNl)))) [ς (.g Y),ς (.g W),ς (.g N'),ς (.g PR),ς (.g CO),ς (.g FS),ς (.g V),ς (I most),ς (.g FS),ς (.ref p),ς (.ref q),ς (I k)] b2=ς (!e,b3):=by simp[tNt,bJ,eCa,kCa,aCn,eV,lent,eIx,eK,aNl,CV.old,vw,hW,iP,he]
 have q5:∀(a6 a7 a9 U O:ζ CV)(ch:CH),e2 .v oEq.g (eV 8) (eV 5) [ς (.g Y),ς (.g W),ς (.g N'),ς (.g PR),ς (.g CO),ς (.g FS),a6,a7,ς (.g FS),a9,U,O] ch=ς (.g (.bl θ),ch):=λa6 a7 a9 U O ch=>cL (x:=.g FS) (y:=.g FS) rfl rfl rfl rfl heq
 have i5:=Ct (g:=aj (sRt (eK (.bl ξ))) ax) t5;cases e with
 |false=>refine⟨b3,ah s1 (ah s2 (ah s3 (ah s4 (ah i5 (bU ?_)))))⟩;unfold sIf;rw[t6,qa0];exact bU (cj (q5 (ς (.g V)) (ς (I most)) (ς (.ref p)) (ς (.ref q)) (ς (I k)) b3) rfl)
 |true=>
  have i6:=Ct (g:=aj (sRt (e2 .v oEq.g (eV 8) (eV 5))) ax) t6;have s7:=aF (i:=9) (m3 _ _ (ag (ς (.g V)) (ς (I most)) (ς (.g FS)) (ς (.ref p)) (ς (.ref q)) (ς (I k)) b3)) rfl;have s8:=aF (i:=10) (m4 _ _ (ag (ς (.g V)) (ς (I most)) (ς (.g FS)) (ς (.ref p2)) (ς (.ref q)) (ς (I k)) Z)) rfl
  have cut:∀(i:Nat)(δ:Sl)(ch:CH),δ[i]?=ς (ς (.g FS))->eSl .v (eV i) ψ (ς (eK (.int 4))) δ ch=ς (.g F4',ch):=λi δ ch h=>by rcases hcut with hc|⟨l,rfl,hc⟩<;>simp[eSl,fOp,eV,h,lent,eK,bY,vw,hc,fin,T.d]
  have s9:bC 11 (eCa 3 F78 (aDf 1000 (aCn (eV 9) (aCn (eSl .v (eV 8) ψ (ς (eK (.int 4)))) aNl)))) [ς (.g Y),ς (.g W),ς (.g N'),ς (.g PR),ς (.g CO),ς (.g FS),ς (.g V),ς (I most),ς (.g FS),ς (.ref p2),ς (.ref q2),ς (I k)] M2=ς (.nx [ς (.g Y),ς (.g W),ς (.g N'),ς (.g PR),ς (.g CO),ς (.g FS),ς (.g V),ς (I most),ς (.g FS),ς (.ref p2),ς (.ref q2),ς (I k2)] b4):=by
   have c8:=cut 8 [ς (.g Y),ς (.g W),ς (.g N'),ς (.g PR),ς (.g CO),ς (.g FS),ς (.g V),ς (I most),ς (.g FS),ς (.ref p2),ς (.ref q2),ς (I k)] M2 rfl
   have a:aDf 1000 (aCn (eV 9) (aCn (eSl .v (eV 8) ψ (ς (eK (.int 4)))) aNl)) [ς (.g Y),ς (.g W),ς (.g N'),ς (.g PR),ς (.g CO),ς (.g FS),ς (.g V),ς (I most),ς (.g FS),ς (.ref p2),ς (.ref q2),ς (I k)] M2=ς ([.ref p2,.g F4',I 1000],M2):=by unfold aDf;rw[aX (f:=eV 9) (c:=.ref p2) rfl (aV c8)];rfl
   exact aF (br (n:=3) (F:=F78) a ⟨rfl,rfl⟩ (by rw[f78];exact r4)) rfl
  have t10:tNt (bJ (eCa 2 F54 (aCn (eV 11) (aCn (eCa 3 F55 (aCn (eV 10) (aCn (eSl .v (eV 5) ψ (ς (eK (.int 4)))) (aCn (eK (.int 1000)) aNl)))) aNl)))) [ς (.g Y),ς (.g W),ς (.g N'),ς (.g PR),ς (.g CO),ς (.g FS),ς (.g V),ς (I most),ς (.g FS),ς (.ref p2),ς (.ref q2),ς (I k2)] b4=ς (ξ,b5):=by have w:=mC (k:=k2) (ch:=b5);have c5:=cut 5 [ς (.g Y),ς (.g W),ς (.g N'),ς (.g PR),ς (.g CO),ς (.g FS),ς (.g V),ς (I most),ς (.g FS),ς (.ref p2),ς (.ref q2),ς (I k2)] b4 rfl;simp[tNt,bJ,eCa,kCa,aCn,c5,aNl,CV.old,vw,iP,eV,lent,eK,r5,w]
  have i10:=Ct (g:=aj (sRt (eK (.bl ξ))) ax) t10;refine⟨b5,ah s1 (ah s2 (ah s3 (ah s4 (ah i5 (ah i6 (ah s7 (ah s8 (ah s9 (ah i10 (bU (cj ?_ rfl)))))))))))⟩;unfold eAn;rw[br (n:=4) (F:=F67) (cs:=[.ref p2,.ref q2,.g PR,.g N']) (ch:=b5) rfl ⟨rfl,rfl⟩ r6,qa0];exact q5 (ς (.g V)) (ς (I most)) (ς (.ref p2)) (ς (.ref q2)) (ς (I k2)) b5
end
def main(ns:η Int)(hns:ns.length<=63):∃ch',FF gc t80 [.g (.e (ns.map .int))] []=ς (.g (.bl θ),ch'):=by
 have⟨bx,cs,ss,inc,W,hw⟩:=vA (ch:=[]) ns;have⟨c0,g0⟩:=dG (ch:=[]) ns 0;have⟨c3,g3⟩:=dG (ch:=[]) ns 3;have⟨c4,g4⟩:=dG (ch:=[]) ns 4;have⟨xs,hx1,hx2,hx3⟩:=my (ch:=[]) c0;have⟨sm,hs1,hs2,_⟩:=vD Dt.int ns (ς 5) (ς 25);have⟨la,hla,fla⟩:=k8 (ch:=[]) (c3%2147483629) (xs:=bx) (by intro e;have:=W.b4;rw[e]at this;cases this);have⟨R,hR1,hR2,hR3,hR4,hR⟩:=yw (ch:=[]) W sm Θ la hla;have hRl:R.length<=98:=by lia
 have hcutN:=pG Dt.str xs 5 11 Θ Θ;have hN6:((xs.drop 5).take (11-5)).Nodup:=(qp0 _ _).nodup ((List.drop_sublist _ _).nodup hx3);have⟨bg,ks,hbg,hk1,hk2,hC⟩:=Cr (ch:=[]) (cs:=cs) (ss:=ss) (R:=R) c4 hN6 (by simp[hx2]) ⟨hR1.1,hRl⟩;have⟨fc,hf1,hf2,_⟩:=vD Dt.int ns (ς 25) (ς 45);have⟨fs,hF,hfa,hfl⟩:=vC (ch:=[]) fc Θ;have⟨vs,hv1,hv2,hv3⟩:=bL (ch:=[]) c3 4 Θ;have P:Pr cs ss R bg ks (inc.map .int):=⟨(by intro e;have:=W.c0.1;rw[e]at this;cases this),(by intro e;have:=W.s0.1;rw[e]at this;cases this),(by have:=W.c0.2;have:=W.s0.2;lia),W.nd,W.cv,λh hh=>(by have:=W.sv h hh;lia),hR1,hR2,hR3,hbg,hk1,hk2,λd hd=>by have⟨i,hi,rfl⟩:=qc8.mp hd;exact W.inc i hi⟩;have⟨most,hm,hmost⟩:=yz (Y:=.e (ns.map .int)) (W:=wdD bx cs ss inc) (N':=.e (xs.map .str)) (PR:=pgm cs ss R) (CO:=cod bg ks) (fs:=fs) hv2 hv3 λf hf=>(hfa f hf).1
 have⟨L,k,b1,b2,p,q,m1,⟨M,m2,r1⟩,r2,r3⟩:=vF P hm (fs:=fs) (λf hf=>(hfa f hf).2) Θ (ns:=xs) Θ [];have⟨e,a',he⟩:=yo P;have tF:TrD F77:=ay _;have he':=TrD.tail (ch:=b2) @tF he;have⟨L2',k2,b4,b5,p2,q2,m3,⟨M2,m4,r4⟩,r5,r6⟩:=vF P (most:=1000) Θ (fs:=fs.take 4) (λf hf=>(hfa f (qp2 hf)).2) (by simp;lia) (ns:=xs) Θ (b2++a'.map (rnO (b2.length + ·)))
 have⟨ch',ht⟩:=vG (Y:=.e (ns.map .int)) (W:=wdD bx cs ss inc) (N':=.e (xs.map .str)) (PR:=pgm cs ss R) (CO:=cod bg ks) (FS:=.e (fs.map Fl.d)) (V:=.e (vs.map .int)) (IN:=.e (inc.map .int)) (F4':=.e ((fs.take 4).map Fl.d)) (most:=most) (k:=k) (k2:=k2) (p:=p) (q:=q) (p2:=p2) (q2:=q2) (L:=L) (M:=L++M) (b1:=b1) (b2:=b2) (e:=e)
  (λch=>rfl) (.inr ⟨_,rfl⟩) ⟨_,rfl⟩ (.inr ⟨_,rfl,mB Fl.d fs 4 Θ⟩) (mn (vE fs))
  (λg δ h=>m1 g δ [] rfl h) (λg δ h=>m2 g δ h) r1 r2 r3 (by simpa[rn] using he') (λg δ h=>m3 g δ _ rfl h) (λg δ h=>m4 g δ h) r4 r5 r6
 refine⟨ch',?_⟩;show F79 [.g (.e (ns.map .int))] []=_;obtain⟨Y,hY⟩:∃Y:Dt,Y=.e (ns.map .int):=⟨_,rfl⟩;rw[<- hY]at hw g0 g3 g4 hs1 hf1 hmost ht ⊢;have cell:∀(k:Nat)(v:Int)(δ:Sl),F1 [.g Y,I k] []=ς (I v,[])->δ[0]?=ς (ς (.g Y))->eCa 2 F1 (aCn (eV 0) (aCn (eK (.int k)) aNl)) δ []=ς (I v,[]):=λk v δ h h0=>br (cs:=[.g Y,I k]) (aX (by unfold eV;rw[h0];rfl) (aV rfl)) ⟨rfl,rfl⟩ h
 have s1:=aF (i:=1) (br (n:=1) (F:=F4) (fs:=aCn (eV 0) aNl) (δ:=[ς (.g Y),ψ,ψ,ψ,ψ,ψ,ψ,ψ,ψ,ψ,ψ,ψ]) (cs:=[.g Y]) rfl ⟨rfl,rfl⟩ hw) rfl;have s2:=aF (i:=2) (br (n:=2) (F:=F0) (cs:=[I c0,I 12]) (aX (cell 0 c0 [ς (.g Y),ς (.g (wdD bx cs ss inc)),ψ,ψ,ψ,ψ,ψ,ψ,ψ,ψ,ψ,ψ] g0 rfl) (aV (f:=eK (.int 12)) rfl)) ⟨rfl,rfl⟩ hx1) rfl
 have sl:∀(a b:Int)(m:η Int)(δ:Sl),gSl Y (ς a) (ς b)=ς (.e (m.map .int))->δ[0]?=ς (ς (.g Y))->eSl .v (eV 0) (ς (eK (.int a))) (ς (eK (.int b))) δ []=ς (.g (.e (m.map .int)),[]):=λa b m δ h h0=>by simp[eSl,fOp,eV,h0,lent,eK,bY,vw,h,fin,T.d]
 have em:e2 .v oMod.g (eCa 2 F1 (aCn (eV 0) (aCn (eK (.int 3)) aNl))) (eK (.int 2147483629)) [ς (.g Y),ς (.g (wdD bx cs ss inc)),ς (.g (.e (xs.map .str))),ψ,ψ,ψ,ψ,ψ,ψ,ψ,ψ,ψ] []=ς (I (c3%2147483629),[]):=cL (x:=I c3) (y:=I 2147483629) (dx:=.int c3) (dy:=.int 2147483629) (t:=.f (.int (c3%2147483629))) (cell 3 c3 _ g3 rfl) rfl rfl rfl rfl;have am:eCa 2 F5 (aCn (e2 .v oMod.g (eCa 2 F1 (aCn (eV 0) (aCn (eK (.int 3)) aNl))) (eK (.int 2147483629))) (aCn (eIx (eV 1) (eK (.int 0))) aNl)) [ς (.g Y),ς (.g (wdD bx cs ss inc)),ς (.g (.e (xs.map .str))),ψ,ψ,ψ,ψ,ψ,ψ,ψ,ψ,ψ] []=ς (.g (aw la),[]):=br (cs:=[I (c3%2147483629),.g (.e (bx.map .str))]) (aX em (aV (f:=eIx (eV 1) (eK (.int 0))) (c:=.g (.e (bx.map .str))) rfl)) ⟨rfl,rfl⟩ fla;have s3:=aF (i:=3) (br (n:=3) (F:=F8) (cs:=[.g (.e (sm.map .int)),.g (wdD bx cs ss inc),.g (aw la)]) (aX (sl 5 25 sm [ς (.g Y),ς (.g (wdD bx cs ss inc)),ς (.g (.e (xs.map .str))),ψ,ψ,ψ,ψ,ψ,ψ,ψ,ψ,ψ] hs1 rfl) (aX (f:=eV 1) (c:=.g (wdD bx cs ss inc)) rfl (aV am))) ⟨rfl,rfl⟩ hR) rfl
 have sN:eSl .v (eV 2) (ς (eK (.int 5))) (ς (eK (.int 11))) [ς (.g Y),ς (.g (wdD bx cs ss inc)),ς (.g (.e (xs.map .str))),ς (.g (pgm cs ss R)),ψ,ψ,ψ,ψ,ψ,ψ,ψ,ψ] []=ς (.g (.e (((xs.drop 5).take (11-5)).map .str)),[]):=by have h:gSl (.e (xs.map .str)) (ς 5) (ς 11)=ς (.e (((xs.drop 5).take (11-5)).map .str)):=hcutN;generalize Dt.e (xs.map .str)=Q at h ⊢;rwa[eSl,fOp,eV,qd3,qi0,lent,eK,bY,vw,h,fin,T.d,qa0,qb0]
 have s4:=aF (i:=4) (br (n:=3) (F:=F10) (cs:=[.g (pgm cs ss R),I c4,.g (.e (((xs.drop 5).take (11-5)).map .str))]) (aX (f:=eV 3) (c:=.g (pgm cs ss R)) rfl (aX (cell 4 c4 [ς (.g Y),ς (.g (wdD bx cs ss inc)),ς (.g (.e (xs.map .str))),ς (.g (pgm cs ss R)),ψ,ψ,ψ,ψ,ψ,ψ,ψ,ψ] g4 rfl) (aV sN))) ⟨rfl,rfl⟩ hC) rfl;have s5:=aF (i:=5) (br (n:=1) (F:=F11) (cs:=[.g (.e (fc.map .int))]) (aV (sl 25 45 fc [ς (.g Y),ς (.g (wdD bx cs ss inc)),ς (.g (.e (xs.map .str))),ς (.g (pgm cs ss R)),ς (.g (cod bg ks)),ψ,ψ,ψ,ψ,ψ,ψ,ψ] hf1 rfl)) ⟨rfl,rfl⟩ hF) rfl;have s6:=aF (i:=6) (br (n:=2) (F:=F2) (cs:=[I c3,I 4]) (aX (cell 3 c3 [ς (.g Y),ς (.g (wdD bx cs ss inc)),ς (.g (.e (xs.map .str))),ς (.g (pgm cs ss R)),ς (.g (cod bg ks)),ς (.g (.e (fs.map Fl.d))),ψ,ψ,ψ,ψ,ψ,ψ] g3 rfl) (aV (f:=eK (.int 4)) rfl)) ⟨rfl,rfl⟩ hv1) rfl;rw[q79];exact bm (ah s1 (ah s2 (ah s3 (ah s4 (ah s5 (ah s6 ((hmost _).trans ht)))))))
end L2
open PySem PySem.W PyProof.Rows in
set_option maxRecDepth 100000 in
set_option maxHeartbeats 0 in
theorem PySem.Challenge.cw_dimhouse_k76_driven_holds : PySem.Challenge.rw_dimhouse_k76_driven.Holds := by
 w_on; refine holds_law P76H.ws λsaid => ?_
 refine holds_open (q := P76H.seen) (loose := [PySem.Str.ofString "drive"]) (Xt := λs => xlAt P76H.seen [] s && recOk (RowW.records (OpenRow.toRowW PySem.Challenge.rw_dimhouse_k76_driven.row)) s) (XP := XL P76H.seen []) (Yf := Hook.obs P76H.hook) (Ya := Hook.val P76H.hook) (YP := Hook.says P76H.hook) (N := 7626) ?hl (Hook.of P76H.hook) (Hook.keeps P76H.hook) (λs e => xl_of s (Bool.and_eq_true_iff.mp e).1) XL.keeps (by rfl) (by rfl) (by rfl) (λs e => recFacts_of (Bool.and_eq_true_iff.mp e).2) (by rfl) (by first | assumption | decide +kernel) (by decide +kernel) ⟨rfl, rfl, rfl, rfl, rfl, by decide +kernel⟩ ?hw ?hc
 case hl => exact LeftO.of_split "special-get-raises" λw => P76H.map_two (ZH.tp3 (P76H.ra_false w) (P76H.rb_false w) (P76H.rc_false w)) (ZH.tp3 (P76H.ra_true w) (P76H.rb_true w) (P76H.rc_true w))
 case hw => w_witness2
 delta P76H.hook
 k_fill
 refine L2.zwalk (l:=PySem.Challenge.rw_dimhouse_k76_driven) (x:="_law_script") L2.L L2.gc L2.main ⟨rfl,rfl,rfl⟩ ?R rfl rfl (λw h Y=>PySem.W.kIn_of Y) (λw=>by kernel_rfl) ?C
 case R=>exact ⟨rfl,by decide +kernel,by decide +kernel⟩
 case C=>intro w;kernel_rfl
