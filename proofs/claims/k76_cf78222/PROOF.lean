import PyProof.Rows.All
import KE.KNest
import Wide.All
import OpenK.AllK
import Wide.FinOn
import Lean
import PyProof.EqAt
import PyProof.EqKinds
import PyProof.TupleCall
import PySem.Challenge.RW_dimhouse_k76_driven
open Array renaming length_toList→qq1,getElem?_eq_getElem→qx4,getElem?_toList→zb6,toList→zf2
open BEq renaming comm→qz0
open Bool renaming and_eq_true→qa1,false_ne_true→qb7,false_eq_true→qg1,or_eq_true→qg5,not_eq_true'→qi5,true_and→qj6,and_true→qj7,eq_iff_iff→qr4,and_eq_false_imp→qs8,or_eq_false_iff→qt7,and_assoc→qx0,false_and→zd0,and_false→zd1,false_or→ze4,not_true→ze7
open Eq renaming trans→qz1
open False renaming elim→qk2
open ForInStep renaming yield→qo3
open Function renaming comp_def→qb4
open Inhabited renaming default→qz2
open Int renaming emod_lt_of_pos→qf3,eq_ofNat_of_zero_le→qf9,emod_nonneg→qh9,toNat_natCast→qi4,zero_add→qr2,fdiv_eq_ediv_of_nonneg→qv1
open LawfulMonad renaming pure_bind→qy3
open Lean renaming maxHeartbeats→zd6
open List renaming map_cons→qa3,length_map→qa4,mem_of_getElem?→qa5,getElem?_map→qa8,replicate→qb1,size_toArray→qb6,length_cons→qb8,all_eq_true→qc0,getD_eq_getElem?_getD→qc3,mem_cons→qc4,length_append→qc5,all_cons→qc7,mem_map→qc8,map_append→qd0,getElem?_cons_succ→qd2,map_map→qd4,nodup_cons→qd6,range→qd7,append_assoc→qd8,map_nil→qe0,getElem?_append_right→qe1,nodup_append→qe2,mem_append_right→qe3,getElem?_set_self→qe5,mem_cons_of_mem→qe6,mem_range→qe9,mem_append→qf5,replicate_succ→qf7,getElem?_append_left→qg3,length_nil→qg4,lookup→qg8,getElem?_eq_none→qh1,contains_iff_mem→qh2,append_nil→qh6,nil_append→qh7,getElem?_cons_zero→qh8,length_singleton→qi8,mem_cons_self→qj0,lookup_cons→qj4,flatten_cons→qk4,find?_cons→qk6,length_take→qk9,cons_append→ql1,getElem_mem→ql2,any_cons→ql5,pairwise_cons→ql8,length→qm0,map_congr_left→qn2,nodup_range→qn4,zip_cons_cons→qo0,dropLast_concat_getLast→qo1,zip_append→qo5,all_nil→qo6,take_sublist→qo9,mem_of_mem_take→qp2,mem_or_eq_of_mem_set→qp6,not_mem_nil→qp9,filterMap_cons→qq0,getElem?_eq_getElem→qq5,getElem?_take_of_lt→qq7,map_set→qr1,foldl_cons→qr6,mem_iff_getElem?→qs9,zipWith→qt0,length_drop→qt2,eq_nil_of_length_eq_zero→qt3,drop_length→qt4,map_fst_zip→qt5,getElem?_set_ne→qt6,length_set→qu6,mem_filterMap→qv5,mem_singleton→qv9,mem_replicate→qw1,lookup_append→qw2,set_cons_zero→qw4,nodup_nil→qw8,getElem?_zip_eq_some→qw9,drop_eq_getElem_cons→qx1,forIn_nil→qx5,length_range→qx9,find?→qy4,ext_getElem?→qy5,isEmpty_iff→qz6,filter_eq_nil_iff→za3,take_of_length_le→za4,mem_filter→za7,of_mem_zip→zb3,getElem?_zipWith→zc4,length_filter_le→zc6,foldl→zc8,map_take→ze8,all_map→zf7,map→zg2
open List.Pairwise renaming map→qm8,nil→qx7
open List.cons renaming injEq→zc0
open Nat renaming ne_of_lt→qc2,lt_of_lt_of_le→qc6,le_trans→qd1,le_succ_of_le→qd9,lt_of_le_of_lt→qe4,add_sub_cancel_left→qf8,zero_le→qg9,le_succ→qi3,ne_of_gt→qi7,lt_or_ge→qj9,lt_trans→ql6,lt_irrefl→qm9,succ_le_succ→qn3,not_lt→qn7,lt_succ_self→qp7,le_of_lt→qq6,le_refl→qu2,zero_add→qw3,add_comm→zb7,reduceLT→zc5,sub_zero→zf8,add_zero→zf9,sub_self→zg0
open Ne renaming symm→qk5
open Option renaming bind_some→qa0,map_some→qb2,map_eq_some_iff→qd3,isSome_iff_exists→qd5,bind_eq_some_iff→qj8,getD_some→ql0,isNone_iff_eq_none→qm4,join_some→qp8,isSome_map→qx6,getD_none→qz5,map→zc9
open Option.some renaming inj→qc9,injEq→qx8
open PyProof.Rows renaming slot_tuple_getitem→qm6,callWith_type1→qo2,subscriptTail_builtinR→za0,AllBare→za8,subscriptTail→ze2,IntsAre→zf0,envOfC→zg4
open PySem renaming wpAny_pure→qa6,sizeLine_eq→qa7,sizeLine→qa9,Shared→qb0,starEach→qb3,Program→qe7,mainGlobals→qe8,compareOp→qf0,wpAny_newObj_type→qf2,bootBuiltins→qf4,foldedSetIterable→qh0,backTo→qh3,binaryOp→qh4,attributeBase→qh5,assignEach→qi1,keywordEach→qi2,swapsWith→qi6,wpAny_typeNameOfWhole_itemiter→qi9,Builtin→qj1,wpAny_field→qj2,wpAny_call_entry→qj3,wpAny_callSpecial?_slot→qj5,wpAny_bind→qk0,sysModules→qk1,Around→ql3,wpAny_Call_Name_kw→ql4,wpAny_setField_rec→ql7,wpAny_typeNameOf_itemiter→qm3,wpAny_passesOwn→qm5,wpAny_holding→qn0,FuncData→qn1,wpAny_mono→qn5,tupleKind_room_in1→qn8,backToKw→qo8,holding→qp1,wpAny_pyIter_tuple→qr3,getattributeRaised→qr7,wpAny_isOneOf_itemiter→qs0,wpAny_truthy_bool→qs2,sliceBounds→qs3,wpAny_dictEntries→qs4,wpAny_notOrdered_dict→qs6,noFill_tuple_add→qt1,swapsWithSole→qt8,plainId_quiet→qu0,call_meets→qu1,letOwnedTupleGo→qu3,getMethod→qu4,codeAny→qu5,codeAny_builtin→qu8,wpAny_updateSeq→qu9,Operator→qv3,rawInt→qv4,NameKind→qv7,concat_meets→qv8,standAt→qw5,Keyword→qw7,wpAny_seqItems→qx2,firstArgMember→qx3,wpAny_pyNext_tuple_item→qy6,behindInMarks→qy7,seq_tuple_add→qy8,assign→qz3,pyNext→qz4,wpAny_pyNext_list_item→qz8,wpAny_pyNext_tuple_end→qz9,tupleKind→za6,wpAny_execs_nil→za9,PassesOwn→zb0,wpAny_pyNext_list_end→zb1,codeAny_mono→zb2,wpAny_typeOf→zb4,call_meetsIn→zb8,wpAny_dictEpoch→zc2,builtinLookup_eq_fast→zc3,callWith→zc7,wpAny_setField→zd2,subscripted→zd4,callerA→zd5,wpAny_standAt→zd9,swappedStores→ze0,bindArgs→ze1,seqIndex?→ze3,compPost→ze5,comprehension→ze6,builtinsNs→ze9,valueAt→zf1,IsPart→zf5,seqIndex_neg→zf6,BindsTo→zg3,getItem→zg5,updateSeq→zg6
open PySem.Around renaming under_plainId→qp3,under→zf3
open PySem.AutoSeq1 renaming wpAny_loadPart'→qq9
open PySem.Builtin renaming bitAnd→qw6
open PySem.Builtin.Dict renaming updateFrom→qy9,showsAll→zc1
open PySem.Builtin.Dict_items renaming ownsTuple→qn9,ownedTupleFields→qq3,ownedTupleIsFree→qq4,pairFromOwner→qr8
open PySem.Builtin.List renaming listExtendWith→qo4,listTooLong→qq8,listSameRef→qy2,listItems→za2
open PySem.Builtin.Slice renaming slicePlaces→qm1,sliceAdjust→qp4,sliceApplied→qv2
open PySem.Builtin.SmallTypes renaming nextOf→qm2
open PySem.Builtin.Str renaming occurrences→qr5
open PySem.Builtin.Tuple renaming tupleExact→qm7
open PySem.Calls renaming callWith_builtin→qr9,Name_function_global→qv0,spliced_cons→qv6
open PySem.Code renaming isFrame→zf4
open PySem.F renaming slot_dict_itemiterator_next→qg7,slot_tuple_iterator_next→qk7,slot_tuple_getattribute→qp5,slot_list_getattribute→qr0,args_dict_itemiterator_next_1→qs5,entry_dict_itemiterator_next→qs7,args_tuple_iterator_next_1→qt9,entry_tuple_iterator_next→qu7,slot_dict_items_iter→za1
open PySem.Heap renaming lt_size→qb5,get?_push_size→qb9,get?_update_self→qf6,SameBut→qg0,get?_update_other→qi0,size_push→qn6,get?_push_of_some→qz7
open PySem.Heap.SameBut renaming update→qq2
open PySem.NameKind renaming free→qg6
open PySem.Obj renaming mapSeq→qk3
open PySem.SeqAt renaming EqAt→qf1,RcAt→qy0,RcNeAt→zb9
open PySem.SeqAt.EqAt renaming of_refs→qw0,same→zb5
open PySem.SeqAt.RcAt renaming lists_lengths→qy1
open PySem.Str renaming ofString→qa2,ofString_eq_toList→za5
open PySem.Txt renaming join→zg1
open PySem.Value renaming ref→qc1,none→qg2,type→qo7,bool→qs1,int→zd7,str→zd8
open Sum renaming inr→ql9,inl→qp0
open Sum.inr renaming inj→zd3
open True renaming intro→qk8
set_option Elab.async false
set_option linter.all false
namespace ZH
open PySem PySem.W PyProof.Rows
def trees : List Obj → BT → Nat → Option (BT × Nat)
  | [], t, n => some (t, n)
  | o :: r, t, n => match ((t.ins n o).get n).isSome with
    | true => trees r (t.ins n o) (n + 1)
    | false => none
def topRunT (tb : String → Option Builtin) (p : Program) (w : World) (n₀ : Nat) (ann : Option Value) : Nat → SharedT → Thread → Option SharedT
  | 0, _, _ => none
  | n + 1, s, t => match through t with
    | true => some s
    | false => match stepOk n₀ ann t with
      | false => none
      | true => match stepT (denote tb) p w s t with
        | some (s', t') => topRunT tb p w n₀ ann n s' t'
        | none => none
def toT (s : Shared) : Option SharedT := (trees s.heap.objs.toList .nil 0).map fun q => ⟨q.1, q.2, s.heap.life, s.gens, s.drawn, s.toks, s.os⟩
section
variable {tb : String → Option Builtin} {p : Program} {w : World} {n₀ : Nat} {ann : Option Value}
theorem topRun_of : ∀ {n : Nat} {s s' : SharedT} {t : Thread}, topRunT tb p w n₀ ann n s t = some s' → topRun tb p w n₀ ann n s.abs t = some s'.abs
  | 0, _, _, _, h => by cases h
  | n + 1, s, s', t, h => by
    unfold topRunT at h
    unfold topRun
    cases he : through t with
    | true => rw [he] at h; cases h; rfl
    | false =>
      rw [he] at h
      cases hk : stepOk n₀ ann t with
      | false => rw [hk] at h; cases h
      | true =>
        rw [hk] at h
        cases hs : stepT (denote tb) p w s t with
        | none => rw [hs] at h; cases h
        | some r => obtain ⟨s₂, t₂⟩ := r; rw [hs] at h; rw [stepT_spec hs]; exact topRun_of h
theorem trees_abs {life : Life} : ∀ {l : List Obj} {t t' : BT} {n n' : Nat}, trees l t n = some (t', n') → (absHeap t' n' life).objs.toList = (absHeap t n life).objs.toList ++ l
  | [], t, t', n, n', h => by cases h; simp
  | o :: r, t, t', n, n', h => by
    unfold trees at h
    cases q : ((t.ins n o).get n).isSome with
    | false => rw [q] at h; cases h
    | true =>
      rw [q] at h
      rw [trees_abs h, absHeap_ins q]
      show ((absHeap t n life).objs.push o).toList ++ r = _
      rw [Array.toList_push, List.append_assoc]; rfl
theorem toT_abs {s : Shared} {sT : SharedT} (h : toT s = some sT) : sT.abs = s := by
  obtain ⟨⟨heap, life⟩, gens, drawn, toks, os⟩ := s
  unfold toT at h
  obtain ⟨⟨t, n⟩, h1, rfl⟩ := Option.map_eq_some_iff.mp h
  have e := trees_abs (life := life) h1
  have e0 : (absHeap BT.nil 0 life).objs.toList = [] := rfl
  rw [e0, List.nil_append] at e
  have e1 : (absHeap t n life).objs = heap := Array.toList_inj.mp e
  show Shared.mk (absHeap t n life) gens drawn toks os = _
  have e2 : absHeap t n life = ⟨heap, life⟩ := by
    have : absHeap t n life = ⟨(absHeap t n life).objs, life⟩ := rfl
    rw [this, e1]
  rw [e2]
def tp {γ : Type} (p : Program) (w w' : World) (N : Nat) (A : Shared → Shared → γ) : Option γ := (fencedOpening treeTable p w N).bind fun s => (toT s).bind fun sT => (topRunT treeTable p w' s.heap.objs.size (s.heap.nsMap mainGlobals "__annotations__") N sT (topStub p)).map fun z => A s z.abs
def ckT (p : Program) (s₀ s₁ : Shared) : Bool := (s₀.heap.isNs mainGlobals && s₀.gens.size == 0) && (staticsOk (importedModules p.main.body) s₀.heap s₁.heap && namesBound p s₁.heap && gensDone s₁ && laidKept s₀.heap s₁.heap)
theorem tp3 {w' : World} {N : Nat} {α β γ : Type} {A : Shared → α × β} {C : Shared → γ} {a : α} {b : β} {c : γ} (h1 : tp p w w' N (fun s z => (ckT p s z, (A z).1)) = some (true, a)) (h2 : tp p w w' N (fun _ z => (A z).2) = some b) (h3 : tp p w w' N (fun _ z => C z) = some c) : (fencedOpening treeTable p w N).map (fun s₀ => (topFrom treeTable p w' N s₀).map fun z => (A z, C z)) = some (some ((a, b), c)) := by
  unfold tp at h1 h2 h3
  obtain ⟨s, q1, h1⟩ := Option.bind_eq_some_iff.mp h1
  obtain ⟨sT, q2, h1⟩ := Option.bind_eq_some_iff.mp h1
  obtain ⟨z, q3, h1⟩ := Option.map_eq_some_iff.mp h1
  rw [q1, Option.bind_some, q2, Option.bind_some, q3] at h2 h3
  have e2 : (A z.abs).2 = b := Option.some.inj h2
  have e3 : C z.abs = c := Option.some.inj h3
  obtain ⟨k1, k2⟩ := Prod.mk.inj h1
  have hr := topRun_of q3
  rw [toT_abs q2] at hr
  obtain ⟨k3, k4⟩ := Bool.and_eq_true_iff.mp k1
  rw [q1]
  show some ((topFrom treeTable p w' N s).map _) = _
  unfold topFrom
  rw [k3]
  dsimp only
  rw [hr, Option.bind_some, k4]
  show some (some (A z.abs, C z.abs)) = _
  rw [e3, ← k2, ← e2]
end
end ZH
namespace P76H
open PySem PySem.W PyProof.Rows
section
local macro_rules | `(tactic| o_head $_) => `(tactic| exact (by assumption : ∀ p : Prop, p) _)
set_option maxRecDepth 100000 in
set_option maxHeartbeats 0 in
theorem pre (h0 : ∀ p : Prop, p) : PySem.Challenge.rw_dimhouse_k76_driven.row.Holds := by
  k_head
end
def seen : Program := { PySem.Challenge.pw_dimhouse_k76_driven with main := { PySem.Challenge.pw_dimhouse_k76_driven.main with body := [0, 2, 3, 4, 5, 7, 9, 10, 11, 12, 13, 15, 17, 18, 21, 23, 24, 25, 26, 27, 28, 29, 30, 31, 32, 33, 34, 35, 36, 37, 38, 39].filterMap fun i => PySem.Challenge.pw_dimhouse_k76_driven.main.body[i]? } }
noncomputable abbrev hook : Hook := kHook P76H.pre.heap_1 [2, 3, 15, 17, 18, 20, 21, 22, 25, 26, 27, 29, 30, 32, 33, 34, 36, 37, 39, 40, 48, 50, 51, 53, 54, 55, 57, 58, 60, 61, 62, 64, 65, 67, 68, 69, 71, 72, 74, 75, 76, 77, 78, 79, 80, 90, 92, 93, 95, 96, 97, 99, 100, 102, 103, 104, 105, 106, 107, 108, 111, 114, 115, 116, 118, 119, 121, 122, 123, 126, 127, 128, 130, 131, 133, 134, 142, 145, 146, 147, 149, 150, 152, 153, 154, 156, 157, 159, 160, 161, 163, 164, 166, 167, 168, 170, 171, 173, 174, 175, 177, 178, 180, 181, 182, 184, 185, 187, 188, 189, 191, 192, 194, 195, 196, 198, 199, 201, 202, 203, 205, 206, 208, 209, 210, 212, 213, 215, 216, 217, 219, 220, 222, 223, 224, 226, 227, 229, 230, 231, 233, 234, 236, 237, 238, 239, 240, 241, 242, 252, 255, 256, 257, 259, 260, 262, 263, 264, 266, 267, 269, 270, 271, 273, 274, 276, 277, 278, 280, 281, 283, 284, 285, 287, 288, 290, 291, 292, 294, 295, 297, 298, 299, 301, 302, 304, 305, 306, 308, 309, 311, 312, 313, 315, 316, 318, 319, 320, 322, 323, 325, 326, 327, 329, 330, 332, 333, 334, 336, 337, 339, 340, 341, 343, 344, 346, 347, 348, 350, 351, 353, 354, 355, 357, 358, 360, 361, 362, 364, 365, 367, 368, 369, 371, 372, 374, 375, 376, 378, 379, 381, 382, 383, 385, 386, 388, 389, 390, 392, 393, 395, 396, 397, 399, 400, 402, 403, 404, 406, 407, 409, 410, 411, 412, 413, 414, 415, 418, 420, 421, 423, 424, 425, 426, 428, 429, 431, 432, 440, 443, 444, 445, 447, 448, 450, 451, 452, 454, 455, 457, 458, 459, 461, 462, 464, 465, 466, 468, 469, 471, 472, 473, 475, 476, 478, 479, 480, 482, 483, 485, 486, 487, 489, 490, 492, 493, 494, 496, 497, 499, 500, 501, 503, 504, 506, 507, 508, 510, 511, 513, 514, 515, 517, 518, 520, 521, 522, 524, 525, 527, 528, 529, 531, 532, 534, 535, 536, 538, 539, 541, 542, 543, 545, 546, 548, 549, 550, 551, 552, 553, 554, 557, 559, 560, 562, 563, 564, 566, 567, 569, 570, 571, 574, 575, 576, 578, 579, 581, 582, 583, 585, 586, 588, 589, 590, 593, 594, 595, 597, 598, 600, 601, 602, 604, 605, 607, 608, 609, 612, 613, 614, 617, 618, 619, 621, 622, 624, 625, 626, 628, 629, 631, 632, 633, 635, 636, 638, 639, 640, 643, 644, 645, 647, 648, 650, 651, 652, 654, 655, 657, 658, 659, 662, 663] (fun _ => by kernel_rfl)
abbrev pg := PySem.Challenge.rw_dimhouse_k76_driven.row.prog
abbrev oA (s : Shared) := openSeen seen [PySem.Str.ofString "drive"] (importedModules pg.main.body) (fun s => xlAt seen [] s && recOk (RowW.records (OpenRow.toRowW PySem.Challenge.rw_dimhouse_k76_driven.row)) s) true s
theorem map_two {α β γ : Type} {x : Option α} {f : α → β} {g : α → γ} {a : β} {b : γ} (h : x.map f = some a) (h' : x.map g = some b) : x.map (fun s => (f s, g s)) = some (a, b) := by
  cases x with
  | none => cases h
  | some s => simp only [Option.map_some, Option.some.injEq] at h h' ⊢; rw [h, h']
set_option maxRecDepth 100000
set_option maxHeartbeats 0
theorem ra_false (w : World) : ZH.tp pg w (w.withFollow "special-get-raises" false) 7626 (fun s z => (ZH.ckT pg s z, (oA z).1)) = some (true, (openGood seen [PySem.Str.ofString "drive"]).1) := by
  kernel_rfl
theorem rb_false (w : World) : ZH.tp pg w (w.withFollow "special-get-raises" false) 7626 (fun _ z => (oA z).2) = some (openGood seen [PySem.Str.ofString "drive"]).2 := by
  kernel_rfl
theorem rc_false (w : World) : ZH.tp pg w (w.withFollow "special-get-raises" false) 7626 (fun _ z => Hook.obs hook z) = some (Hook.val hook (w.withFollow "special-get-raises" false)) := by
  kernel_rfl
theorem ra_true (w : World) : ZH.tp pg w (w.withFollow "special-get-raises" true) 7626 (fun s z => (ZH.ckT pg s z, (oA z).1)) = some (true, (openGood seen [PySem.Str.ofString "drive"]).1) := by
  kernel_rfl
theorem rb_true (w : World) : ZH.tp pg w (w.withFollow "special-get-raises" true) 7626 (fun _ z => (oA z).2) = some (openGood seen [PySem.Str.ofString "drive"]).2 := by
  kernel_rfl
theorem rc_true (w : World) : ZH.tp pg w (w.withFollow "special-get-raises" true) 7626 (fun _ z => Hook.obs hook z) = some (Hook.val hook (w.withFollow "special-get-raises" true)) := by
  kernel_rfl
end P76H
set_option maxRecDepth 100000
set_option maxHeartbeats 4000000
set_option compiler.extract_closed false
open PySem.W renaming Frag→xA9,findIn→xB9,kia_one→xC9,keepIn→xD9,nsIn→xE9,emptyDict→xF9,instObj→xG9,isFn→xH9,kitOne→xI9,plainGet→xJ9,mg_of→xK9,lookIn→xL9,hasDictIn→xM9,kitx_dict→xN9,methodObj→xO9,plainGet_of→xP9,plainOver→xQ9,takerIn→xR9,makesIn→xS9,methodCall_KW→xT9,kitx_list→xU9,callWith_K→xV9,callWith_K0→xW9
open PySem renaming Addr→J4,World→J5,Expr→J6,Scope→J8
noncomputable section
theorem ω{p:Prop}(h:¬p:=by decide +kernel):p=False:=eq_false h
theorem χ{p:Prop}(h:p:=by decide +kernel):p:=h
theorem Ψ{p:Prop}(h:p:=by walk_at "x"):p:=h
theorem Θ{p:Prop}(h:p:=by lia):p:=h
theorem Ξ{p:Prop}(h:p:=by simp):p:=h
theorem Ω{p:Prop}(h:p:=by decide):p:=h
open Option renaming some→ς,none→ψ
open Bool renaming true→θ,false→ξ
abbrev η:=@List
abbrev ζ:=@Option
theorem gX{α:Type _}{l:η α}{i:Nat}{a:α}(h:l[i]?=ς a):∃z:i<l.length,l[i]=a:=List.getElem?_eq_some_iff.mp h
open PySem PySem.Spec PyProof.Rows in abbrev gN := @List.getElem?_set_ne
open PySem PySem.Spec PyProof.Rows in abbrev gP := @Heap.get?_push_of_some
open PySem PySem.Spec PyProof.Rows in abbrev wB := @wpAny_bind
open PySem PySem.Spec PyProof.Rows in abbrev gL := @List.getElem?_append_left
open PySem PySem.Spec PyProof.Rows in abbrev gR := @List.getElem?_append_right
open PySem PySem.Spec PyProof.Rows in abbrev gQ := @List.getElem?_eq_getElem
open PySem PySem.Spec PyProof.Rows in abbrev nL := @Nat.le_refl
set_option maxRecDepth 100000
set_option maxHeartbeats 4000000
namespace L2
open PySem PySem.Spec PyProof.Rows
abbrev Key:=Sum Int Str
def iY:Key->Value->Bool
 |.inl k,v=>Value.isInt k v
 |.inr x,v=>Value.isStrOf x v
def keyH(w:J5):Key->Int
 |.inl k=>hashInt k
 |.inr x=>hashStr w x
theorem aI:∀{k:Key}{v:Value},iY k v=θ->(∃i t,k=qp0 i/\v=zd7 i t)∨(∃x t,k=ql9 x/\v=zd8 x t)
 |.inl i,v,h=>by obtain⟨t,e⟩:=Value.isInt_shape (k:=i) (v:=v) h;exact .inl ⟨i,t,rfl,e⟩
 |.inr x,v,h=>by obtain⟨t,e⟩:=Value.isStrOf_shape (x:=x) (v:=v) h;exact .inr ⟨x,t,rfl,e⟩
theorem pJ(i:Int)(t:Tok):iY (.inl i) (.int i t)=θ:=by simp[iY,Value.isInt]
theorem pK(x:Str)(t:Tok):iY (.inr x) (.str x t)=θ:=by simp[iY,Value.isStrOf]
theorem zR(a b:Int):decide ((qp0 a:Key)=qp0 b)=(a==b):=by
 by_cases e:a=b
 .subst e;simp
 .have h:¬ (qp0 a:Key)=qp0 b:=fun q=>e (qp0.inj q)
  rw[decide_eq_false h];exact(beq_eq_false_iff_ne.mpr e).symm
theorem zS(a b:Str):decide ((ql9 a:Key)=ql9 b)=decide (a=b):=by
 by_cases e:a=b
 .subst e;simp
 .have h:¬ (ql9 a:Key)=ql9 b:=fun q=>e (zd3 q)
  rw[decide_eq_false h,decide_eq_false e]
theorem zT(a:Int)(b:Str):decide ((qp0 a:Key)=ql9 b)=ξ:=decide_eq_false (fun q=>nomatch q)
theorem zU(a:Str)(b:Int):decide ((ql9 a:Key)=qp0 b)=ξ:=decide_eq_false (fun q=>nomatch q)
def av(prog:qe7)(w:J5):PySem.KeyKind prog w Key where
 is:=iY
 hash:=keyH w
 inj:=fun v a b Z hb=>by
  rcases aI Z with ⟨i,t,rfl,rfl⟩|⟨x,t,rfl,rfl⟩
  .rcases aI hb with ⟨j,u,rfl,e⟩|⟨y,u,rfl,e⟩
   .injection e with O _;rw[O]
   .exact nomatch e
  .rcases aI hb with ⟨j,u,rfl,e⟩|⟨y,u,rfl,e⟩
   .exact nomatch e
   .injection e with O _;rw[O]
 byValue:=fun k v h=>by rcases aI h with ⟨i,t,rfl,rfl⟩|⟨x,t,rfl,rfl⟩<;>rfl
 pyHash:=fun U h=>by
  rcases aI U with ⟨i,t,rfl,rfl⟩|⟨x,t,rfl,rfl⟩
  .exact wpAny_pyHash_int h
  .exact wpAny_pyHash_str h
 eqBool:=fun W U h=>by
  rcases aI W with ⟨i,t,rfl,rfl⟩|⟨x,t,rfl,rfl⟩
  .rcases aI U with ⟨j,u,rfl,rfl⟩|⟨y,u,rfl,rfl⟩
   .rw[zR]at h;exact wpAny_eqBool_int h
   .rw[zT]at h;exact qf1.int_str i t y u _ _ _ _ h
  .rcases aI U with ⟨j,u,rfl,rfl⟩|⟨y,u,rfl,rfl⟩
   .rw[zU]at h;exact qf1.str_int x t j u _ _ _ _ h
   .rw[zS]at h;exact wpAny_eqBool_str h
 «strs»:=fun k x t v h=>by
  rcases aI h with ⟨i,u,rfl,e⟩|⟨y,u,rfl,e⟩
  .exact nomatch e
  .injection e with O _;subst O;cases v<;>rfl
theorem kZ(prog:qe7)(w:J5)(i:Int)(t:Tok):(av prog w).is (.inl i) (.int i t)=θ:=pJ i t
theorem k7(prog:qe7)(w:J5)(x:Str)(t:Tok):(av prog w).is (.inr x) (.str x t)=θ:=pK x t
inductive V where
 |non|bl (b:Bool)|int (i:Int)|str (x:Str)|byt (b:Array UInt8)|flt (b:UInt64)|ref (a:J4)|ty (n:String)
 deriving DecidableEq
def RelV:V->Value->Prop
 |.non,u=>u=qg2
 |.bl b,u=>u=qs1 b
 |.int i,u=>∃t,u=zd7 i t
 |.str x,u=>∃t,u=zd8 x t
 |.byt b,u=>∃t,u=Value.bytes b t
 |.flt b,u=>∃t,u=Value.float b t
 |.ref a,u=>u=qc1 a
 |.ty n,u=>u=qo7 n
abbrev Vals:η V->η Value->Prop:=Paired RelV
variable{xs:η V}{us:η Value}
theorem Vals.length(r:Vals xs us):xs.length=us.length:=Paired.length r
theorem Vals.get:∀{xs:η V}{us:η Value}{i:Nat}{x:V},Vals xs us->xs[i]?=ς x->∃u,us[i]?=ς u/\RelV x u
 |_,_,_,_,.nil,e=>by simp at e
 |_,_,0,_,.cons r _,e=>by simp at e;subst e;exact⟨_,rfl,r⟩
 |_,_,i+1,x,.cons _ t,e=>by obtain⟨u,h1,h2⟩:=Vals.get (i:=i) (x:=x) t (by simpa using e);exact⟨u,by simpa using h1,h2⟩
variable{u:Value}
theorem Vals.set{x:V}(r:RelV x u):∀{xs:η V}{us:η Value}(i:Nat),Vals xs us->Vals (xs.set i x) (us.set i u)
 |_,_,_,.nil=>.nil
 |_,_,0,.cons _ t=>.cons r t
 |_,_,i+1,.cons q t=>.cons q (Vals.set r i t)
theorem Vals.append:∀{xs ys:η V}{us ws:η Value},Vals xs us->Vals ys ws->Vals (xs++ys) (us++ws)
 |_,_,_,_,.nil,s=>s
 |_,_,_,_,.cons r t,s=>.cons r (Vals.append t s)
theorem Vals.take:∀{xs:η V}{us:η Value}(n:Nat),Vals xs us->Vals (xs.take n) (us.take n)
 |_,_,0,_=>.nil
 |_,_,_+1,.nil=>.nil
 |_,_,n+1,.cons r t=>.cons r (Vals.take n t)
theorem Vals.drop:∀{xs:η V}{us:η Value}(n:Nat),Vals xs us->Vals (xs.drop n) (us.drop n)
 |_,_,0,r=>r
 |_,_,_+1,.nil=>.nil
 |_,_,n+1,.cons _ t=>Vals.drop n t
def RelO:ζ V->ζ Value->Prop
 |some v,ς u=>RelV v u
 |none,ψ=>True
 |_,_=>False
def KV{κ:Type}:η (κ×V)->η (κ×Value)->Prop:=Paired fun(p:κ×V)(q:κ×Value)=>p.1=q.1/\RelV p.2 q.2
def kV:Key->V
 |.inl i=>.int i
 |.inr x=>.str x
inductive HO where
 |e (xs:List V)
 |t (xs:List V)
 |dK (J1:List (Key×V))|dT (J1:List (List Key×V))
 |set (S:Int->Bool) (n:Nat)
 |ins (C dx:J4) (fs:List (Str×V))
 |own (x:J4)
 |xd (fs:List (Str×V))
 |met (f x:J4)
 |rng (lo hi:Int)
 |frz (o:Obj) (u:HO)
 |tbl (ps:Array Value)
 |code (q:Str)
 |ctab (qs:List ((Nat×Nat)×Str))
 |ext (φ:Heap->Prop)
abbrev Hp:=J4->ζ HO
def upd(H:Hp)(a:J4)(o:HO):Hp:=fun b=>if b=a then ς o else H b
variable{H:Hp}{a:J4}
theorem ah{o:HO}:upd H a o a=ς o:=by unfold upd;rw[if_pos rfl]
variable{b:J4}
theorem ai{o:HO}(h:b≠a):upd H a o b=H b:=by unfold upd;rw[if_neg h]
theorem Dr{o u:HO}(h:H a=ς o)(h':H b=ς u)(d:o≠u):a≠b:=by intro e;subst e;rw[h]at h';exact d (qc9 h')
theorem aK{o:HO}(h:H a=ς o)(h':H b=ψ):a≠b:=by intro e;subst e;rw[h]at h';cases h'
def IsTu(h:Heap)(a:J4)(items:Array Value):Prop:=IsTup h a items/\∀o,h.get? a=ς o->o.dict=ψ
variable{h:Heap}{items:Array Value}{n:Nat}
theorem IsTu.of{o:Obj}(e:h.get? a=ς o)(hc:o.cls=.type "tuple")(O:o.data=.seq items n)(U:o.dict=ψ):IsTu h a items:=⟨⟨o,e,hc,n,O⟩,fun u q=>by rw[e]at q;cases q;exact U⟩
theorem IsTu.new(h:Heap)(items:Array Value):IsTu (h.push {cls:=.type "tuple",data:=.seq items}) h.objs.size items:=.of (qb9 _ rfl) rfl rfl rfl
theorem IsTu.kept{h':Heap}(x:IsTu h a items)(k:∀u,h.get? a=ς u->h'.get? a=ς u):IsTu h' a items:=by obtain⟨⟨o,e,hc,n,O⟩,U⟩:=x;exact .of (k o e) hc O (U o e)
section
variable(P:qe7)(w:J5)
def ObjOk(H:Hp)(h:Heap)(a:J4):HO->Prop
 |.e xs=>xs.length<=qa9/\∃(J3:η Value)(n:Nat),Vals xs J3/\h.get? a=ς {cls:=.type "list",data:=.seq J3.toArray n}
 |.t xs=>xs.length<=qa9/\∃J3:η Value,Vals xs J3/\IsTu h a J3.toArray
 |.dK J1=>J1.length<=qa9/\(a==qk1)=ξ/\∃vs,KV J1 vs/\h.DictOf (av P w) a vs
 | .dT J1=>J1.length<=qa9/\(a==qk1)=ξ/\∃xs:η (η Key×J4×Value),
     Paired (fun(p:η Key×V)(q:η Key×J4×Value)=>p.1=q.1/\H q.2.1=ς (.t (p.1.map kV))/\RelV p.2 q.2.2) J1 xs∧
     ∃o es ep,h.get? a=ς o/\o.ExactDict/\o.data=.dict es ep/\es.toList=xs.map (entryOfKey (za6 (av P w)))/\(xs.map (·.1)).Nodup
 |.set S n=>h.SetOf (intKind P w) a S n
 |.ins C dx fs=>H dx=ς (.own a)/\fs.length<=1000/\dx≠a/\h.get? a=ς (xG9 C dx)∧∃mA,h.Ns1 dx mA/\(∀f,RelO (fs.lookup f) (mA f))/\PySem.Within mA (fs.map (·.1))
 |.own _=>∃o,h.get? a=ς o
 |.xd fs=>∃mA,h.Ns1 a mA/\∀f,RelO (fs.lookup f) (mA f)
 |.rng lo hi=>∃t u v,h.get? a=ς {cls:=.type "range",data:=.fields #[.int lo t,.int hi u,.int 1 v]}
 |.frz o u=>h.get? a=ς o/\ObjOk H h a u
 |.tbl ps=>h.get? a=ς {cls:=.none,data:=.fields ps}
 |.code q=>h.CodeRec (.ref a) q
 |.ctab O=>∃ps:Array Value,h.get? a=ς {cls:=.none,data:=.fields ps}/\TriplesOk ps.toList/\∀(pos:Pos)(q:Str)(v:Value),((pos.line,pos.col),q)∈O->codeAmong pos ps.toList=ς v->∃c o,v=.ref c/\H c=ς (.frz o (.code q))
 |.met f x=>h.get? a=ς (xO9 (.ref f) (.ref x))
 |.ext φ=>φ h/\(∃o,h.get? a=ς o)/\∀h1 h2:Heap,φ h1->(∀o,h1.get? a=ς o->h2.get? a=ς o)->φ h2
def HOk(H:Hp)(h:Heap):Prop:=∀a o,H a=ς o->ObjOk P w H h a o
end
section
variable{P:qe7}{w:J5}{H H':Hp}{h h':Heap}{a:J4}{o:HO}
theorem ObjOk.lt(x:ObjOk P w H h a o):a<h.objs.size:=by
 cases o with
 |e xs=>obtain⟨_,_,_,_,e⟩:=x;exact qb5 e
 |t xs=>obtain⟨_,_,_,p⟩:=x;exact p.1.lt
 |dK J1=>obtain⟨_,_,_,_,o,_,_,e,_⟩:=x;exact qb5 e
 |dT J1=>obtain⟨_,_,_,_,o,_,_,e,_⟩:=x;exact qb5 e
 |set S n=>obtain⟨o,_,_,_,e,_⟩:=x;exact qb5 e
 |ins C dx fs=>obtain⟨_,_,_,e,_⟩:=x;exact qb5 e
 |own y=>obtain⟨_,e⟩:=x;exact qb5 e
 |xd fs=>obtain⟨_,⟨_,_,_,e,_⟩,_⟩:=x;exact qb5 e
 |rng lo hi=>obtain⟨_,_,_,e⟩:=x;exact qb5 e
 |frz ob u=>obtain⟨e,_⟩:=x;exact qb5 e
 |tbl ps=>exact qb5 (show h.get? a=ς _ from x)
 |code q=>obtain⟨c,o,vs,t,e,g,_⟩:=x;cases e;exact qb5 g
 |ctab O=>obtain⟨ps,g,_⟩:=x;exact qb5 g
 |met f y=>exact qb5 (show h.get? a=ς _ from x)
 |ext φ=>obtain⟨_,⟨_,e⟩,_⟩:=x;exact qb5 e
theorem Paired.mapP{α β:Type}{F G:α->β->Prop}:∀{l₁:η α}{l₂:η β},Paired F l₁ l₂->(∀a b,F a b->G a b)->Paired G l₁ l₂
 |_,_,.nil,_=>.nil
 |_,_,.cons r t,f=>.cons (f _ _ r) (Paired.mapP t f)
theorem ObjOk.stay (x:ObjOk P w H h a o) (k:∀ b u,(b=a∨H b=ς (.own a))->h.get? b=ς u->h'.get? b=ς u)
  (ho:∀b,H b=ς (.own a)->H' b=ς (.own a)) (ht:∀b xs,H b=ς (.t xs)->H' b=ς (.t xs)) (O:∀b ob q,H b=ς (.frz ob (.code q))->H' b=ς (.frz ob (.code q))):ObjOk P w H' h' a o:=by
 induction o with
 |e xs=>obtain⟨z,J3,n,r,e⟩:=x;exact⟨z,J3,n,r,k _ _ (.inl rfl) e⟩
 |t xs=>obtain⟨z,J3,r,t⟩:=x;exact⟨z,J3,r,t.kept fun u e=>k _ _ (.inl rfl) e⟩
 |dK J1=>obtain⟨z,y,vs,r,ob,es,ep,e,c⟩:=x;exact⟨z,y,vs,r,ob,es,ep,k _ _ (.inl rfl) e,c⟩
 |dT J1=>obtain⟨z,y,xs,r,ob,es,ep,e,c⟩:=x;exact⟨z,y,xs,Paired.mapP r fun p q z=>⟨z.1,ht _ _ z.2.1,z.2.2⟩,ob,es,ep,k _ _ (.inl rfl) e,c⟩
 |set S n=>obtain⟨ob,es,ep,t,e,c⟩:=x;exact⟨ob,es,ep,t,k _ _ (.inl rfl) e,c⟩
 |ins C dx fs=>obtain⟨d,z,Z,e,mA,⟨U,es,ep,e2,c⟩,r⟩:=x;exact⟨ho _ d,z,Z,k _ _ (.inl rfl) e,mA,⟨U,es,ep,k _ _ (.inr d) e2,c⟩,r⟩
 |own y=>obtain⟨ob,e⟩:=x;exact⟨ob,k _ _ (.inl rfl) e⟩
 |xd fs=>obtain⟨mA,⟨U,es,ep,e,c⟩,r⟩:=x;exact⟨mA,⟨U,es,ep,k _ _ (.inl rfl) e,c⟩,r⟩
 |rng lo hi=>obtain⟨t,u,v,e⟩:=x;exact⟨t,u,v,k _ _ (.inl rfl) e⟩
 |frz ob u ih=>obtain⟨e,q⟩:=x;exact⟨k _ _ (.inl rfl) e,ih q⟩
 |tbl ps=>have e:h.get? a=ς {cls:=.none,data:=.fields ps}:=x;show h'.get? a=ς {cls:=.none,data:=.fields ps};exact k a _ (.inl rfl) e
 |code q=>obtain⟨c,o,vs,t,e,g,r⟩:=x;cases e;exact⟨a,o,vs,t,rfl,k a _ (.inl rfl) g,r⟩
 |ctab qs=>obtain⟨ps,g,r1,r2⟩:=x;exact⟨ps,k a _ (.inl rfl) g,r1,fun pos q v h1 h2=>let ⟨c,ob,e,g⟩:=r2 pos q v h1 h2;⟨c,ob,e,O c ob q g⟩⟩
 |met f y=>have e:h.get? a=ς (xO9 (.ref f) (.ref y)):=x;show h'.get? a=ς (xO9 (.ref f) (.ref y));exact k a _ (.inl rfl) e
 |ext φ=>obtain⟨p,⟨o,e⟩,st⟩:=x;exact⟨st _ _ p fun o q=>k _ _ (.inl rfl) q,⟨o,k _ _ (.inl rfl) e⟩,st⟩
theorem HOk.lt(x:HOk P w H h)(e:H a=ς o):a<h.objs.size:=(x a o e).lt
theorem HOk.fresh(x:HOk P w H h)(e:h.objs.size<=a):H a=ψ:=by
 cases q:H a with
 |none=>rfl
 |some u=>exact absurd (qc6 (x.lt q) e) (qm9 _)
theorem HOk.kept(x:HOk P w H h)(k:∀b u,h.get? b=ς u->h'.get? b=ς u):HOk P w H h':=fun a o e=>(x a o e).stay (fun b u _ q=>k b u q) (fun _ q=>q) (fun _ _ q=>q) fun _ _ _ q=>q
theorem HOk.laid(x:HOk P w H h)(k:∀b u,h.get? b=ς u->h'.get? b=ς u)(hp:h.objs.size<=a)(new:ObjOk P w (upd H a o) h' a o):HOk P w (upd H a o) h':=fun b u e=>by
 have O:=x.fresh hp;by_cases hb:b=a
 .subst hb;rw[ah]at e;cases e;exact new
 .rw[ai hb]at e;exact(x b u e).stay (fun c v _ q=>k c v q) (fun c q=>by rw[ai (aK q O)];exact q) (fun c xs q=>by rw[ai (aK q O)];exact q) fun c ob xs q=>by rw[ai (aK q O)];exact q
end
def Rd(H:Hp)(a:J4)(u:HO):Prop:=H a=ς u∨∃o,H a=ς (.frz o u)
theorem Rd.of{u:HO}(h:H a=ς u):Rd H a u:=.inl h
variable{P:qe7}
theorem Rd.ok{w:J5}{u:HO}(r:Rd H a u)(x:HOk P w H h):ObjOk P w H h a u:=by
 rcases r with r|⟨o,r⟩
 .exact x a u r
 .obtain⟨_,q⟩:=x a _ r;exact q
def Mut:ζ HO->Prop
 |some (.e _)=>True
 |some (.dK _)=>True
 |some (.dT _)=>True
 |some (.set _ _)=>True
 |some (.ins _ _ _)=>True
 |some (.ext _)=>True
 |_=>False
section
variable{P:qe7}{w:J5}{H:Hp}{h h':Heap}{x e:J4}{o':HO}
theorem HOk.write (ok:HOk P w H h) (W:Mut (H x)) (he:e=x∨H e=ς (.own x)) (k:∀ b u,b≠e->h.get? b=ς u->h'.get? b=ς u) (heo:∃ u,h'.get? e=ς u)
  (new:ObjOk P w (upd H x o') h' x o'):HOk P w (upd H x o') h':=fun b u q=>by
 have U:∀c y,H c=ς (.own y)->c≠x:=fun c y r z=>by subst z;rw[r]at W;exact W
 have Z:∀c xs,H c=ς (.t xs)->c≠x:=fun c xs r z=>by subst z;rw[r]at W;exact W
 have ncod:∀c ob xs,H c=ς (.frz ob (.code xs))->c≠x:=fun c ob xs r z=>by subst z;rw[r]at W;exact W
 by_cases hb:b=x
 .subst hb;rw[ah]at q;cases q;exact new
 .rw[ai hb]at q;by_cases O:b=e
  .have q':H b=ς (.own x):=by
    rcases he with z|z
    .exact absurd (O.trans z) hb
    .rw[O];exact z
   rw[q]at q';cases q'
   obtain⟨v,hv⟩:=heo;exact⟨v,by rw[O];exact hv⟩
  .refine(ok b u q).stay (fun c v hc r=>k c v ?_ r) (fun c r=>by rw[ai (U c b r)];exact r) (fun c xs r=>by rw[ai (Z c xs r)];exact r) fun c ob xs r=>by rw[ai (ncod c ob xs r)];exact r
   rcases hc with rfl|hc
   .exact O
   .rintro rfl;rcases he with z|z
    .exact U c b hc z
    .rw[hc]at z;cases z;exact hb rfl
end
structure Un(fs ex:List J4)(H H':Hp)(h h':Heap):Prop where
 keep:∀b o,h.get? b=ς o->H b=ψ->b∉fs->b∉ex->h'.get? b=ς o
 slot:∀b o,h.get? b=ς o->H b=ψ->b∈fs->b∉ex->∃sl,h'.get? b=ς {o with slots:=sl}
 free:∀b o,h.get? b=ς o->H b=ψ->b∉ex->H' b=ψ
 there:∀b o,h.get? b=ς o->b∉ex->∃o',h'.get? b=ς o'
 tups:∀b xs,H b=ς (.t xs)->H' b=ς (.t xs)
 frzs:∀b o u,H b=ς (.frz o u)->H' b=ς (.frz o u)
 tbls:∀b ps,H b=ς (.tbl ps)->∃more,H' b=ς (.tbl (ps++more))
 cts:∀b qs,H b=ς (.ctab qs)->H' b=ς (.ctab qs)
section
variable{fs fs' ex ex':η J4}{H H1 H2:Hp}{h h1 h2 h':Heap}{a x e:J4}{o:HO}
theorem Un.any(u:Un fs ex H H1 h h1){ob:Obj}(q:h.get? b=ς ob)(n:H b=ψ)(O:b∉ex):∃sl,h1.get? b=ς {ob with slots:=sl}:=by
 by_cases hb:b∈fs
 .exact u.slot b ob q n hb O
 .exact⟨ob.slots,u.keep b ob q n hb O⟩
theorem Un.kept(k:∀b u,h.get? b=ς u->h'.get? b=ς u):Un fs ex H H h h':=⟨fun b ob q _ _ _=>k b ob q,fun b ob q _ _ _=>⟨ob.slots,k b ob q⟩,fun _ _ _ n _=>n,fun b ob q _=>⟨ob,k b ob q⟩,fun _ _ q=>q,fun _ _ _ q=>q,fun _ ps q=>⟨#[],by rw[q];simp⟩,fun _ _ q=>q⟩
theorem Un.refl:Un fs ex H H h h:=Un.kept fun _ _ q=>q
theorem Un.laid(k:∀b u,h.get? b=ς u->h'.get? b=ς u)(hp:h.objs.size<=a)(O:H a=ψ):Un fs ex H (upd H a o) h h' where
 keep:=fun b u q _ _ _=>k b u q
 slot:=fun b u q _ _ _=>⟨u.slots,k b u q⟩
 free:=fun b u q n _=>by rw[ai (qc2 (qc6 (qb5 q) hp))];exact n
 there:=fun b u q _=>⟨u,k b u q⟩
 tups:=fun b xs q=>by rw[ai (aK q O)];exact q
 frzs:=fun b u xs q=>by rw[ai (aK q O)];exact q
 tbls:=fun b ps q=>⟨#[],by rw[ai (aK q O),q];simp⟩
 cts:=fun b U q=>by rw[ai (aK q O)];exact q
theorem Un.write(U:Mut (H x))(he:e=x∨H e=ς (.own x))(k:∀b u,b≠e->h.get? b=ς u->h'.get? b=ς u)(Z:∃u,h'.get? e=ς u):Un fs ex H (upd H x o) h h':=by
 have hx:∀b,H b=ψ->b≠x:=fun b n z=>by subst z;rw[n]at U;exact U
 have hb:∀b,H b=ψ->b≠e:=fun b n z=>by
  subst z;rcases he with r|r
  .exact hx b n r
  .rw[n]at r;cases r
 have W:∀b u,H b=ς u->¬ Mut (ς u)->b≠x:=fun b u q nm z=>by subst z;rw[q]at U;exact nm U
 refine⟨fun b u q n _ _=>k b u (hb b n) q,fun b u q n _ _=>⟨u.slots,k b u (hb b n) q⟩,fun b u q n _=>by rw[ai (hx b n)];exact n,fun b u q _=>?_,fun b xs q=>by rw[ai (W b _ q fun z=>z)];exact q,fun b u xs q=>by rw[ai (W b _ q fun z=>z)];exact q,fun b ps q=>⟨#[],by rw[ai (W b _ q fun z=>z),q];simp⟩,fun b xs q=>by rw[ai (W b _ q fun z=>z)];exact q⟩
 by_cases O:b=e
 .subst O;exact Z
 .exact⟨u,k b u O q⟩
end
def trk(h:Heap)(H:Hp):η J4:=(qd7 h.objs.size).filter fun a=>(H a).isSome
def jN(h:Heap)(H:Hp):Heap:=PySem.W.hideAll h (trk h H)
theorem pL(h:Heap)(H:Hp):(jN h H).objs.size=h.objs.size:=PySem.W.hideAll_size _ _
theorem qN{o:Obj}(e:h.get? b=ς o)(n:H b=ψ):(jN h H).get? b=ς o:=PySem.W.hideAll_get _ e fun O=>by have q:(H b).isSome=θ:=(za7.mp O).2;rw[n]at q;simp at q
theorem vB{o:Obj}(e:(jN h H).get? b=ς o):h.get? b=ς o/\H b=ψ:=by
 have O:h.get? b=ς o:=PySem.W.of_hideAll (trk h H) e;refine⟨O,?_⟩;cases q:H b with
 |none=>rfl
 |some x=>have U:b∈trk h H:=za7.mpr ⟨qe9.mpr (qb5 O),by simp[q]⟩;have z:(jN h H).get? b=ψ:=PySem.W.hideAll_none (trk h H) U;rw[z]at e;cases e
def vC(g h:Heap)(L:J4):η (J4×Obj):=(qd7 h.objs.size).filterMap fun a=>if a=L∨(g.get? a).isSome=θ then ψ else(h.get? a).map fun o=>(a,o)
def rest(g h:Heap)(L d:J4):η (J4×Obj):=(vC g h L).filter fun p=>decide (p.1≠d)
def nestNames:η Str:=["way_to_reading","spoilt"]
def Ds(x:Str)(ss:η Stmt):η ((Nat×Nat)×Str):=ss.filterMap fun st=>match st with
 |.FunctionDef name _ _ _ _ _ _ _ _ pos=>ς ((pos.line,pos.col),x++".<locals>."++name)
 |_=>ψ
def zV(K:xA9)(x:Str):ζ (J4×η ((Nat×Nat)×Str)):=match PySem.W.tabIn K x with
 |some (_,P)=>(match xE9 K qe8 x with
  |some (ς (.ref f))=>(match K.lookup f with
   |some o=>(match o.data with
    |.func fd=>(match fd.body with
     |.stmts b=>ς (P,Ds x b)
     |_=>ψ)
    |_=>ψ)
   |none=>ψ)
  |_=>ψ)
 |none=>ψ
def k8(K:xA9):η (J4×η ((Nat×Nat)×Str)):=nestNames.filterMap (zV K)
structure Mod(K:xA9)(mg:Str->Option Value)(base:Heap):Prop where
 kin:K.In base
 glob:base.Ns qe8 mg
 blt:∃mb,base.Ns ze9 mb/\∀x:Str,x≠"__name__"->mb x=qf4 x
 nolimit:base.NoLimit
structure Cx where
 prog:qe7
 w:J5
 K:xA9
 mg:Str->Option Value
 base:Heap
 A:ql3
 N:List Str
 s₀:qb0
 H₀:Hp
 env:Env
 outer:List Env
 stack:List Env
 ex:List J4
 fn:Str->Bool
 calm:Bool
 pn:List (J4×Obj)
 xe:Value->qb0->Prop
def frs(l:η Env):η J4:=l.filterMap (·.frame)
abbrev Cx.fs(X:Cx):η J4:=frs X.outer
def Vis(sc:J8)(x:Str):Prop:=sc.names.lookup x=ς .local∨sc.names.lookup x=ς .cell∨sc.names.lookup x=ς .free
def Loc(sc:J8)(x:Str):Prop:=sc.names.lookup x=ς .local∨sc.names.lookup x=ς .cell
def Look(env:Env)(h:Heap)(m:Str->ζ Value)(x:Str)(u:Value):Prop:=(env.kindOf x=ς .local/\m x=ς u)∨((env.kindOf x=ς .cell∨env.kindOf x=ς .free)/\∃c,env.cells.lookup x=ς c/\h.IsCell c (ς u))
structure Cx.Ok(X:Cx):Prop where
 mod:Mod X.K X.mg X.base
 kind:X.env.scope.kind=.function
 glob:X.env.globals=qe8
 blt:X.env.builtins=ze9
 above:X.s₀.heap.objs.size<=X.env.locals
 inj:∀x y c,X.env.cells.lookup x=ς c->X.env.cells.lookup y=ς c->x=y
 has:∀x,(X.env.kindOf x=ς .cell∨X.env.kindOf x=ς .free)->∃c,X.env.cells.lookup x=ς c
 cab:∀x c,X.fn x=θ->X.env.cells.lookup x=ς c->X.s₀.heap.objs.size<=c
 hd:X.calm=θ->X.A.handled=ψ
 frames:X.A.frames=ς X.stack
 stk:X.stack=X.outer∨(X.stack=X.env::X.outer/\X.env.frame=ς X.env.locals)
 exf:∀b∈X.ex,b≠X.env.locals/\∀x c,X.env.cells.lookup x=ς c->c≠b
 bs:∀b o,X.base.get? b=ς o->X.s₀.heap.get? b=ς o/\X.H₀ b=ψ
 bsz:X.base.objs.size<=X.s₀.heap.objs.size
 noex:∀b o,X.base.get? b=ς o->b∉X.ex
 exfs:∀b∈X.ex,b∉X.fs
 funs:X.s₀.heap.FunFrames X.base X.outer
 frf:∀b∈X.fs,X.H₀ b=ψ
 tb:∀p∈k8 X.K,X.H₀ p.1=ς (.ctab p.2)
structure Inv(X:Cx)(J0:List (J4×Obj))(σ:List (Option V))(H:Hp)(s:qb0):Prop where
 ok:X.Ok
 os:s.os=X.s₀.os
 bare:za8 s.gens
 base:Un X.fs X.ex X.H₀ H X.s₀.heap s.heap
 loc:∃m,s.heap.Ns X.env.locals m/\∀(i:Nat)(x:Str)(v:V),X.N[i]?=ς x->σ[i]?=ς (ς v)->Vis X.env.scope x->∃u,RelV v u/\Look X.env s.heap m x u
 cell:∀x c,X.env.cells.lookup x=ς c->∃v,s.heap.IsCell c v
 free:H X.env.locals=ψ
 freeC:∀x c,X.env.cells.lookup x=ς c->H c=ψ
 pin:∀p∈X.pn++J0,s.heap.get? p.1=ς p.2/\H p.1=ψ/\p.1≠X.env.locals/\p.1∉X.fs/\∀v,p.2.data≠.cell v
 hok:HOk X.prog X.w H s.heap
 len:σ.length=X.N.length
variable{g':Array GenState}{t' i j:Nat}{d':Drawn}{ch:η J4}{N:η Str}{x:Str}{M:Model}{A:ql3}{s':qb0}
section
variable{X:Cx}{J0:η (J4×Obj)}{σ:η (ζ V)}{H H':Hp}{s:qb0}{h':Heap}
theorem Cx.Ok.nofr(ok:X.Ok){o:Obj}(e:X.base.get? b=ς o):b∉X.fs:=fun hb=>by have:=(ok.funs.mem hb).1;rw[e]at this;cases this
theorem Inv.bs(I:Inv X J0 σ H s):∀b o,X.base.get? b=ς o->s.heap.get? b=ς o/\H b=ψ:=fun b o e=>⟨I.base.keep b o (I.ok.bs b o e).1 (I.ok.bs b o e).2 (I.ok.nofr e) (I.ok.noex b o e),I.base.free b o (I.ok.bs b o e).1 (I.ok.bs b o e).2 (I.ok.noex b o e)⟩
theorem Inv.bk(I:Inv X J0 σ H s):∀b o,X.base.get? b=ς o->s.heap.get? b=ς o:=fun b o e=>(I.bs b o e).1
theorem Inv.mod(I:Inv X J0 σ H s):Mod X.K X.mg X.base:=I.ok.mod
theorem Inv.kIn(I:Inv X J0 σ H s):X.K.In s.heap:=I.ok.mod.kin.keeps I.bk
theorem Inv.fr(I:Inv X J0 σ H s):∃m,Fr X.base X.env.locals s.heap m:=
 let ⟨m,hn,_⟩:=I.loc
 ⟨m,hn,I.bk,qd1 I.ok.bsz I.ok.above⟩
theorem Inv.lt(I:Inv X J0 σ H s):X.env.locals<s.heap.objs.size:=let ⟨_,hn,_⟩:=I.loc;hn.lt
theorem Inv.sz(I:Inv X J0 σ H s):X.s₀.heap.objs.size<=s.heap.objs.size:=qd1 I.ok.above (qq6 I.lt)
theorem Inv.nofs(I:Inv X J0 σ H s)(h:s.heap.objs.size<=a):a∉X.fs:=fun hb=>by obtain⟨_,o,O,_⟩:=I.ok.funs.mem hb;exact absurd (qc6 (qb5 O) (qd1 I.sz h)) (qm9 _)
theorem Inv.cne(I:Inv X J0 σ H s):∀x c,X.env.cells.lookup x=ς c->c≠X.env.locals:=fun x c e z=>by obtain⟨v,o,Z,W⟩:=I.cell x c e;obtain⟨m,⟨o',es,ep,O,U,_⟩,_⟩:=I.loc;rw[z,O]at Z;cases Z;rw[U]at W;cases W
theorem Inv.funs(I:Inv X J0 σ H s):s.heap.FunFrames X.base X.outer:=by
 have all:∀(l:η Env),(∀b∈frs l,b∈X.fs)->X.s₀.heap.FunFrames X.base l->s.heap.FunFrames X.base l:=by
  intro l;induction l with
  |nil=>intro _ _;trivial
  |cons env r ih=>
   intro W hl;obtain⟨hk,⟨L,o,O,hn,ho,Z⟩,hr⟩:=hl;have U:L∈X.fs:=W L (by unfold frs;rw[qq0,O];exact qj0);obtain⟨sl,e⟩:=I.base.slot L o ho (I.ok.frf L U) U fun z=>I.ok.exfs L z U
   exact⟨hk,⟨L,_,O,hn,e,Z⟩,ih (fun b hb=>W b (by unfold frs;rw[qq0,O];exact qe6 _ hb)) hr⟩
 exact all X.outer (fun _ hb=>hb) I.ok.funs
theorem Inv.stack(I:Inv X J0 σ H s):s.heap.FunFrames X.base X.stack:=by
 rcases I.ok.stk with e|⟨e,O⟩
 .rw[e];exact I.funs
 .rw[e];obtain⟨m,U,_⟩:=I.loc;refine .cons (by rw[I.ok.kind];decide) O U ?_ I.funs;exact Heap.get?_none_of_le (qd1 I.ok.bsz I.ok.above)
theorem Inv.stkSub(I:Inv X J0 σ H s):∀b∈frs X.stack,b∈X.env.locals::X.fs:=fun b hb=>by
 rcases I.ok.stk with e|⟨e,O⟩
 .rw[e]at hb;exact qe6 _ hb
 .rw[e]at hb;unfold frs at hb;rw[qq0,O]at hb;exact hb
theorem Inv.stkFree(I:Inv X J0 σ H s):∀b∈frs X.stack,H b=ψ:=fun b hb=>by
 rcases qc4.mp (I.stkSub b hb)with e|hb
 .rw[e];exact I.free
 .obtain⟨_,o,O,_⟩:=I.ok.funs.mem hb;exact I.base.free b o O (I.ok.frf b hb) fun z=>I.ok.exfs b z hb
theorem Inv.step(I:Inv X J0 σ H s)
 (W:∀b∈ch,(b∈X.ex∨X.s₀.heap.objs.size<=b)/\b≠X.env.locals/\(∀x c,X.env.cells.lookup x=ς c->c≠b)/\∀p∈X.pn++J0,p.1≠b)
 (keep:∀b o,b≠X.env.locals->b∉X.fs->b∉ch->s.heap.get? b=ς o->H b=ψ->h'.get? b=ς o)
 (slot:∀b o,b≠X.env.locals->b∈X.fs->b∉ch->s.heap.get? b=ς o->H b=ψ->∃sl,h'.get? b=ς {o with slots:=sl}) (free:∀b o,b∉ch->s.heap.get? b=ς o->H b=ψ->H' b=ψ)
 (there:∀b o,b∉ch->s.heap.get? b=ς o->∃o',h'.get? b=ς o')
 (tups:∀b xs,H b=ς (.t xs)->H' b=ς (.t xs)) (frzs:∀b o u,H b=ς (.frz o u)->H' b=ς (.frz o u)) (tbls:∀b ps,H b=ς (.tbl ps)->∃more,H' b=ς (.tbl (ps++more))) (cts:∀b qs,H b=ς (.ctab qs)->H' b=ς (.ctab qs))
 (ns:∀m,s.heap.Ns X.env.locals m->h'.Ns X.env.locals m) (hok:HOk X.prog X.w H' h') (hg:za8 g') :
  Inv X J0 σ H' {s with heap:=h',gens:=g',drawn:=d',toks:=t'}:=by
 have neL:∀b o,X.s₀.heap.get? b=ς o->b≠X.env.locals:=fun b o e=>qc2 (qc6 (qb5 e) I.ok.above)
 have neC:∀b o,X.s₀.heap.get? b=ς o->b∉X.ex->b∉ch:=fun b o e O hb=>by
  rcases(W b hb).1 with z|z
  .exact O z
  .exact absurd (qc6 (qb5 e) z) (qm9 _)
 have U:∀x c,X.env.cells.lookup x=ς c->∀v,s.heap.IsCell c v->h'.IsCell c v:=fun x c e v ⟨o,ho,hd⟩=>by
  have Z:c∉ch:=fun z=>(W c z).2.2.1 x c e rfl
  by_cases hc:c∈X.fs
  .obtain⟨sl,q⟩:=slot c o (I.cne x c e) hc Z ho (I.freeC x c e);exact⟨_,q,hd⟩
  .exact⟨o,keep c o (I.cne x c e) hc Z ho (I.freeC x c e),hd⟩
 refine⟨I.ok,I.os,hg,⟨fun b o e n hb O=>?_,fun b o e n hb O=>?_,fun b o e n O=>?_,fun b o e O=>?_,fun b xs e=>tups b xs (I.base.tups b xs e),fun b o xs e=>frzs b o xs (I.base.frzs b o xs e),fun b ps e=>?_,fun b qs e=>cts b qs (I.base.cts b qs e)⟩,?_,fun x c e=>?_,?_,fun x c e=>?_,fun p hp=>?_,hok,I.len⟩
 .exact keep b o (neL b o e) hb (neC b o e O) (I.base.keep b o e n hb O) (I.base.free b o e n O)
 .obtain⟨sl,e1⟩:=I.base.slot b o e n hb O;obtain⟨sl',e2⟩:=slot b _ (neL b o e) hb (neC b o e O) e1 (I.base.free b o e n O);exact⟨sl',e2⟩
 .obtain⟨o',e1⟩:=I.base.there b o e O;exact free b o' (neC b o e O) e1 (I.base.free b o e n O)
 .obtain⟨o',e1⟩:=I.base.there b o e O;exact there b o' (neC b o e O) e1
 .obtain⟨m1,e1⟩:=I.base.tbls b ps e;obtain⟨m2,e2⟩:=tbls b _ e1;exact⟨m1++m2,by rw[e2,Array.append_assoc]⟩
 .obtain⟨m,hn,hl⟩:=I.loc;refine⟨m,ns m hn,fun i x v e1 e2 e3=>?_⟩;obtain⟨u,r,l⟩:=hl i x v e1 e2 e3;refine⟨u,r,?_⟩;rcases l with l|⟨k,c,e,z⟩
  .exact .inl l
  .exact .inr ⟨k,c,e,U x c e _ z⟩
 .obtain⟨v,z⟩:=I.cell x c e;exact⟨v,U x c e v z⟩
 .obtain⟨m,⟨o,_,_,ho,_⟩,_⟩:=I.loc;exact free _ o (fun z=>(W _ z).2.1 rfl) ho I.free
 .obtain⟨v,o,ho,hd⟩:=I.cell x c e;exact free c o (fun z=>(W c z).2.2.1 x c e rfl) ho (I.freeC x c e)
 .obtain⟨e,n,ne,nf,d⟩:=I.pin p hp;have Z:p.1∉ch:=fun z=>(W p.1 z).2.2.2 p hp rfl
  exact⟨keep p.1 p.2 ne nf Z e n,free p.1 p.2 Z e n,ne,nf,d⟩
theorem Inv.un(I:Inv X J0 σ H s)(u:Un X.fs [] H H' s.heap h')(Z:HOk X.prog X.w H' h'):Inv X J0 σ H' {s with heap:=h',toks:=t'}:=by
 obtain⟨m,⟨o,es,ep,ho,r⟩,_⟩:=id I.loc;obtain⟨sl,hL⟩:=u.any ho I.free Ξ
 exact I.step (g':=s.gens) (d':=s.drawn) (ch:=[]) (fun _ z=>nomatch z) (fun b o _ hb _ e n=>u.keep b o e n hb Ξ) (fun b o _ hb _ e n=>u.slot b o e n hb Ξ) (fun b o _ e n=>u.free b o e n Ξ) (fun b o _ e=>u.there b o e Ξ) u.tups u.frzs u.tbls u.cts (fun m' hm=>by
  obtain⟨o',U,W,O,r'⟩:=hm;rw[ho]at O;cases O
  exact⟨_,U,W,hL,r'⟩) Z I.bare
theorem Inv.call{ch:η J4}(I:Inv X J0 σ H s)(u:Un (frs X.stack) ch H H' s.heap h')(hok:HOk X.prog X.w H' h')(hg:za8 g')
 (U:∀b∈ch,(b∈X.ex∨X.s₀.heap.objs.size<=b)/\b≠X.env.locals/\(∀x c,X.env.cells.lookup x=ς c->c≠b)/\∀p∈X.pn++J0,p.1≠b) :
  Inv X J0 σ H' {s with heap:=h',gens:=g',drawn:=d',toks:=t'}:=by
 obtain⟨m,⟨o,es,ep,ho,r⟩,_⟩:=id I.loc;obtain⟨sl,hL⟩:=u.any ho I.free fun z=>(U _ z).2.1 rfl
 exact I.step (ch:=ch) U (fun b o hL hb hc e n=>u.keep b o e n (fun z=>(qc4.mp (I.stkSub b z)).elim hL hb) hc) (fun b o _ _ hc e n=>u.any e n hc) (fun b o hc e n=>u.free b o e n hc) (fun b o hc e=>u.there b o e hc) u.tups u.frzs u.tbls u.cts (fun m' hm=>by
  obtain⟨o',W,Z,O,r'⟩:=hm;rw[ho]at O;cases O
  exact⟨_,W,Z,hL,r'⟩) hok hg
theorem Inv.turned{it:J4}(I:Inv X J0 σ H s)(k:∀b o,b≠it->s.heap.get? b=ς o->h'.get? b=ς o)(hn:H it=ψ)(U:it≠X.env.locals)
 (h1:it∈X.ex∨X.s₀.heap.objs.size<=it) (h2:∀x c,X.env.cells.lookup x=ς c->c≠it) (Z:∀p∈X.pn++J0,p.1≠it):Inv X J0 σ H {s with heap:=h',toks:=t'}:=by
 have O:∀b u,H b=ς u->b≠it:=fun b u e z=>by rw[z,hn]at e;cases e
 refine I.step (g':=s.gens) (d':=s.drawn) (ch:=[it]) (fun b hb=>?_) (fun b o _ _ hc e _=>k b o (fun z=>hc (by simp[z])) e) (fun b o _ _ hc e _=>⟨o.slots,k b o (fun z=>hc (by simp[z])) e⟩) (fun _ _ _ _ n=>n)
  (fun b o hc e=>⟨o,k b o (fun z=>hc (by simp[z])) e⟩) (fun _ _ e=>e) (fun _ _ _ e=>e) (fun b ps e=>⟨#[],by rw[e];simp⟩) (fun _ _ e=>e) (fun m W=>?_) (fun b u e=>?_) I.bare
 .have e:b=it:=by simpa using hb
  subst e;exact⟨h1,U,h2,Z⟩
 .obtain⟨o,es,ep,ho,r⟩:=W;exact⟨o,es,ep,k _ o (qk5 U) ho,r⟩
 .refine(I.hok b u e).stay (fun c v hc q=>k c v ?_ q) (fun _ q=>q) (fun _ _ q=>q) fun _ _ _ q=>q
  rcases hc with z|z
  .rw[z];exact O b u e
  .exact O c _ z
theorem Inv.tok(I:Inv X J0 σ H s)(t:Nat):Inv X J0 σ H {s with toks:=t}:=I.un (h':=s.heap) (t':=t) Un.refl I.hok
theorem Inv.kept(I:Inv X J0 σ H s)(k:∀b u,s.heap.get? b=ς u->h'.get? b=ς u):Inv X J0 σ H {s with heap:=h',toks:=t'}:=I.un (Un.kept k) (I.hok.kept k)
theorem Inv.laid {o:HO} (I:Inv X J0 σ H s) (k:∀ b u,s.heap.get? b=ς u->h'.get? b=ς u) (hp:s.heap.objs.size<=a) (new:ObjOk X.prog X.w (upd H a o) h' a o) :
  Inv X J0 σ (upd H a o) {s with heap:=h',toks:=t'}:=I.un (Un.laid k hp (I.hok.fresh hp)) (I.hok.laid k hp new)
theorem Inv.write{x e:J4}{o:HO}(I:Inv X J0 σ H s)(W:Mut (H x))(U:e=x∨H e=ς (.own x))(k:∀b u,b≠e->s.heap.get? b=ς u->h'.get? b=ς u)(O:∃u,h'.get? e=ς u)(new:ObjOk X.prog X.w (upd H x o) h' x o):Inv X J0 σ (upd H x o) {s with heap:=h',toks:=t'}:=I.un (Un.write W U k O) (I.hok.write W U k O new)
theorem Inv.weak{O:η (ζ V)}(I:Inv X J0 σ H s)(hl:O.length=σ.length)(w:∀(i:Nat) v,O[i]?=ς (ς v)->σ[i]?=ς (ς v)):Inv X J0 O H s:=⟨I.ok,I.os,I.bare,I.base,let ⟨m,hn,hl'⟩:=I.loc;⟨m,hn,fun i x v W e2 U=>hl' i x v W (w i v e2) U⟩,I.cell,I.free,I.freeC,I.pin,I.hok,hl.trans I.len⟩
theorem Inv.pins_of{O:η (J4×Obj)}(I:Inv X J0 σ H s)(h:∀p∈O,s.heap.get? p.1=ς p.2/\H p.1=ψ/\p.1≠X.env.locals/\p.1∉X.fs/\∀v,p.2.data≠.cell v):Inv X O σ H s:=⟨I.ok,I.os,I.bare,I.base,I.loc,I.cell,I.free,I.freeC,fun p hp=>(qf5.mp hp).elim (fun z=>I.pin p (List.mem_append_left _ z)) (h p),I.hok,I.len⟩
theorem gU(U:N.Nodup)(a:N[i]?=ς x)(b:N[j]?=ς x):i=j:=by obtain⟨h1,O⟩:=gX a;obtain⟨h2,e2⟩:=gX b;exact(List.getElem_inj U).mp (O.trans e2.symm)
theorem iZ{E:Value->qb0->Prop}{v:V}{Q:Unit->qb0->Prop}(I:Inv X J0 σ H s)(hN:X.N.Nodup)(hi:X.N[i]?=ς x)(Z:Loc X.env.scope x)(r:RelV v u)
 (h:∀s',Inv X J0 (σ.set i (ς v)) H s'->(∃a,qg0 a s.heap s'.heap/\(a=X.env.locals∨X.env.cells.lookup x=ς a))->Q () s') (hf:X.fn x=θ∨X.env.scope.names.lookup x=ς .local:=by first|exact .inl rfl|exact .inr rfl|assumption):wpAny M A (storeName X.env x u) Q E s:=by
 obtain⟨m,hn,hl⟩:=id I.loc;have hcls:(X.env.scope.kind==.class||(X.env.scope.kind==.module&&X.env.locals != X.env.globals))=ξ:=by rw[I.ok.kind];rfl
 have hiσ:i<σ.length:=by rw[I.len];exact(gX hi).1
 have cne:=I.cne
 have W:∀{a:J4}{h':Heap},(∃o,s.heap.get? a=ς o/\H a=ψ)->qg0 a s.heap h'->HOk X.prog X.w H h':=fun {a h'} ha O b ob e=>by
  obtain⟨_,_,hfree⟩:=ha;refine(I.hok b ob e).stay (fun c w' hc q=>(O.2 c ?_).trans q) (fun _ q=>q) (fun _ _ q=>q) fun _ _ _ q=>q
  rintro rfl;rcases hc with rfl|hc
  .rw[hfree]at e;cases e
  .rw[hfree]at hc;cases hc
 rcases Z with hk|hk
 .refine wpAny_storeName_local hk hn (fun h' hn' O=>?_) hcls;obtain⟨oL,_,_,hoL,_⟩:=id hn;refine h _ ⟨I.ok,I.os,I.bare,⟨fun b o e n hb Z=>?_,fun b o e n hb Z=>?_,I.base.free,fun b o e Z=>?_,I.base.tups,I.base.frzs,I.base.tbls,I.base.cts⟩,⟨_,hn',fun j y v' U e2 e3=>?_⟩,fun y c e=>?_,I.free,I.freeC,fun p hp=>?_,W ⟨oL,hoL,I.free⟩ O,by simpa using I.len⟩ ⟨_,O,.inl rfl⟩
  .exact(O.2 b (qc2 (qc6 (qb5 e) I.ok.above))).trans (I.base.keep b o e n hb Z)
  .obtain⟨sl,U⟩:=I.base.slot b o e n hb Z;exact⟨sl,(O.2 b (qc2 (qc6 (qb5 e) I.ok.above))).trans U⟩
  .obtain⟨o',U⟩:=I.base.there b o e Z;exact⟨o',(O.2 b (qc2 (qc6 (qb5 e) I.ok.above))).trans U⟩
  .by_cases hj:j=i
   .subst hj;rw[hi]at U;cases U
    rw[qe5 hiσ]at e2;cases e2;exact⟨u,r,.inl ⟨hk,Ξ⟩⟩
   .rw[gN (qk5 hj)]at e2;obtain⟨u',r',q⟩:=hl j y v' U e2 e3;refine⟨u',r',?_⟩;rcases q with ⟨k,e⟩|⟨k,c,e,z⟩
    .refine .inl ⟨k,?_⟩;have:y≠x:=fun e=>hj (gU hN U (e▸hi))
     simp[this,e]
    .exact .inr ⟨k,c,e,z.sameBut O (cne y c e)⟩
  .obtain⟨w',z⟩:=I.cell y c e;exact⟨w',z.sameBut O (cne y c e)⟩
  .obtain⟨e,n,ne,nf,d⟩:=I.pin p hp;exact⟨(O.2 p.1 ne).trans e,n,ne,nf,d⟩
 .have hfn:X.fn x=θ:=by
   rcases hf with z|z
   .exact z
   .rw[z]at hk;cases hk
  obtain⟨c,hc⟩:=I.ok.has x (.inl hk);obtain⟨w',z⟩:=I.cell x c hc;refine wpAny_storeName_cell I.ok.kind hk hc z (fun h' hc' O=>?_);obtain⟨oc,hoc,hocd⟩:=id z;refine h {s with heap:=h'} ⟨I.ok,I.os,I.bare,⟨fun b o e n hb Z=>?_,fun b o e n hb Z=>?_,I.base.free,fun b o e Z=>?_,I.base.tups,I.base.frzs,I.base.tbls,I.base.cts⟩,⟨m,hn.sameBut O (qk5 (cne x c hc)),fun j y v' U e2 e3=>?_⟩,fun y c' e=>?_,I.free,I.freeC,fun p hp=>?_,W ⟨oc,hoc,I.freeC x c hc⟩ O,by simpa using I.len⟩ ⟨c,O,.inr hc⟩
  .exact(O.2 b (qc2 (qc6 (qb5 e) (I.ok.cab x c hfn hc)))).trans (I.base.keep b o e n hb Z)
  .obtain⟨sl,U⟩:=I.base.slot b o e n hb Z;exact⟨sl,(O.2 b (qc2 (qc6 (qb5 e) (I.ok.cab x c hfn hc)))).trans U⟩
  .obtain⟨o',U⟩:=I.base.there b o e Z;exact⟨o',(O.2 b (qc2 (qc6 (qb5 e) (I.ok.cab x c hfn hc)))).trans U⟩
  .by_cases hj:j=i
   .subst hj;rw[hi]at U;cases U
    rw[qe5 hiσ]at e2;cases e2;exact⟨u,r,.inr ⟨.inl hk,c,hc,hc'⟩⟩
   .rw[gN (qk5 hj)]at e2;obtain⟨u',r',q⟩:=hl j y v' U e2 e3;refine⟨u',r',?_⟩;rcases q with q|⟨k,c',e,z'⟩
    .exact .inl q
    .refine .inr ⟨k,c',e,z'.sameBut O ?_⟩;rintro rfl;exact hj (gU hN U (I.ok.inj _ _ _ e hc▸hi))
  .by_cases hcc:c'=c
   .subst hcc;exact⟨_,hc'⟩
   .obtain⟨w2,z2⟩:=I.cell y c' e;exact⟨w2,z2.sameBut O hcc⟩
  .obtain⟨e,n,ne,nf,d⟩:=I.pin p hp;refine⟨(O.2 p.1 ?_).trans e,n,ne,nf,d⟩;intro q;rw[q,hoc]at e;have q':oc=p.2:=qc9 e;exact d w' (by rw[<- q'];exact hocd)
theorem dR{E:Value->qb0->Prop}{v:V}{Q:Unit->qb0->Prop}(I:Inv X J0 σ H s)(W:X.N.Nodup)(hi:X.N[i]?=ς x)(O:Loc X.env.scope x)(r:RelV v u)
 (h:∀s',Inv X J0 (σ.set i (ς v)) H s'->Q () s') (U:X.fn x=θ∨X.env.scope.names.lookup x=ς .local:=by first|exact .inl rfl|exact .inr rfl|assumption):wpAny M A (storeName X.env x u) Q E s:=
 iZ I W hi O r (fun s' Z _=>h s' Z) U
theorem Inv.call'(I:Inv X J0 σ H s)(W:s'.os=s.os)(u:Un (frs X.stack) ch H H' s.heap s'.heap)(U:HOk X.prog X.w H' s'.heap)(Z:za8 s'.gens)
 (O:∀b∈ch,(b∈X.ex∨X.s₀.heap.objs.size<=b)/\b≠X.env.locals/\(∀x c,X.env.cells.lookup x=ς c->c≠b)/\∀p∈X.pn++J0,p.1≠b):Inv X J0 σ H' s':=by
 obtain⟨h',g',d',t',o'⟩:=s';have e:o'=s.os:=W;subst e;exact I.call (g':=g') (t':=t') (d':=d') u U Z O
end
abbrev XK:=Value->ζ J4->Hp->Prop
abbrev af:=η (ζ V)
abbrev VK:=V->Hp->Prop
abbrev TE:=af->Hp->VK->Prop
abbrev TT:=af->Hp->(Bool->Hp->Prop)->Prop
abbrev TA:=af->Hp->(η V->Hp->Prop)->Prop
structure Ends where
 nx:af->Hp->Prop
 rt:VK
 bk:af->Hp->Prop:=fun _ _=>False
 ct:af->Hp->Prop:=fun _ _=>False
abbrev TS:=Ends->af->Hp->Prop
def EP(X:Cx)(J0:η (J4×Obj))(σ:af)(Q:VK)(u:Value)(s':qb0):Prop:=∃v H',Inv X J0 σ H' s'/\RelV v u/\Q v H'
def TP(X:Cx)(J0:η (J4×Obj))(σ:af)(Q:Bool->Hp->Prop)(b:Bool)(s':qb0):Prop:=∃H',Inv X J0 σ H' s'/\Q b H'
def AP(X:Cx)(J0:η (J4×Obj))(σ:af)(Q:η V->Hp->Prop)(us:η Value)(s':qb0):Prop:=∃vs H',Inv X J0 σ H' s'/\Vals vs us/\Q vs H'
def SP(X:Cx)(J0:η (J4×Obj))(D:Ends)(f:Flow)(s':qb0):Prop:=
 match f with
 |.next=>∃O H',Inv X J0 O H' s'/\D.nx O H'
 |.brk=>∃O H',Inv X J0 O H' s'/\D.bk O H'
 |.cont=>∃O H',Inv X J0 O H' s'/\D.ct O H'
 |.ret u=>∃v O H',Inv X J0 O H' s'/\RelV v u/\D.rt v H'
def PE(X:Cx)(e:J6)(t:TE):Prop:=∀(J0:η (J4×Obj))(s:qb0)(σ:af)(H:Hp)(Q:VK),Inv X J0 σ H s->t σ H Q->wpAny (model X.prog X.w) X.A (eval e X.env) (EP X J0 σ Q) X.xe s
def PT(X:Cx)(e:J6)(t:TT):Prop:=∀(J0:η (J4×Obj))(s:qb0)(σ:af)(H:Hp)(Q:Bool->Hp->Prop),Inv X J0 σ H s->t σ H Q->wpAny (model X.prog X.w) X.A (isTrue e X.env (eval e X.env)) (TP X J0 σ Q) X.xe s
def PW(X:Cx)(e:J6)(t:TT):Prop:=∀(O:Sem Value)(J0:η (J4×Obj))(s:qb0)(σ:af)(H:Hp)(Q:Bool->Hp->Prop),Inv X J0 σ H s->t σ H Q->wpAny (model X.prog X.w) X.A (isTrue e X.env O) (TP X J0 σ Q) X.xe s
variable{X:Cx}{e:J6}
theorem PW.pt{t:TT}(h:PW X e t):PT X e t:=h _
def PA(X:Cx)(es:η J6)(t:TA):Prop:=∀(pos:Pos)(J0:η (J4×Obj))(s:qb0)(σ:af)(H:Hp)(Q:η V->Hp->Prop),Inv X J0 σ H s->t σ H Q->wpAny (model X.prog X.w) X.A (spliced (qh3 pos (qb3 es X.env))) (AP X J0 σ Q) X.xe s
def PSBq(X:Cx)(st:Stmt)(t:TS):Prop:=∀(J0:η (J4×Obj))(s:qb0)(σ:af)(H:Hp)(D:Ends),Inv X J0 σ H s->t D σ H->wpAny (model X.prog X.w) X.A (exec st X.env) (SP X J0 D) X.xe s
def PSs(X:Cx)(st:η Stmt)(t:TS):Prop:=∀(J0:η (J4×Obj))(s:qb0)(σ:af)(H:Hp)(D:Ends),Inv X J0 σ H s->t D σ H->wpAny (model X.prog X.w) X.A (execs st X.env) (SP X J0 D) X.xe s
theorem thn{α:Type}{t:Sem α}{Q Q':α->qb0->Prop}{E:Value->qb0->Prop}{s:qb0}(h:wpAny M A t Q E s)(O:∀a s,Q a s->Q' a s):wpAny M A t Q' E s:=qn5 h O fun _ _ x=>x
variable{J0:η (J4×Obj)}{σ:af}{R:V->V->Hp->Prop}{pos:Pos}{Q:Value->qb0->Prop}
section
variable{X:Cx}
theorem bin{a b:J6}{ta tb:TE}(ha:PE X a ta)(hb:PE X b tb){s:qb0}(I:Inv X J0 σ H s)(h:ta σ H fun x H1=>tb σ H1 fun y H2=>R x y H2)
 {α:Type} {Q:α->qb0->Prop} {f:Value->Value->Sem α}
 (hf:∀v u W x y H2,Inv X J0 σ H2 W->RelV x v->RelV y u->R x y H2->wpAny (model X.prog X.w) X.A (f v u) Q X.xe W) :
  wpAny (model X.prog X.w) X.A (eval a X.env) (fun v U=>wpAny (model X.prog X.w) X.A (eval b X.env) (fun u O=>wpAny (model X.prog X.w) X.A (f v u) Q X.xe O) X.xe U) X.xe s:=by
 refine thn (ha J0 s σ H _ I h) fun v s1 ⟨x,H1,I1,r1,q1⟩=>?_
 refine thn (hb J0 s1 σ H1 _ I1 q1) fun u W ⟨y,H2,Z,r2,q2⟩=>?_
 exact hf v u W x y H2 Z r1 r2 q2
def qO(i:Nat):TE:=fun σ H Q=>∃v,σ[i]?=ς (ς v)/\Q v H
def tC(v:V):TE:=fun _ H Q=>Q v H
theorem zW(hN:X.N[i]?=ς x)(hv:Vis X.env.scope x)(W:(x==("__debug__":Str))=ξ:=by decide)(Z:(x==("__classdict__":Str))=ξ:=by decide):PE X (.Name x pos) (qO i):=by
 intro J0 s σ H Q I h;obtain⟨v,e,h⟩:=h;obtain⟨m,hn,hl⟩:=I.loc;obtain⟨u,r,l⟩:=hl i x v hN e hv;have fin:EP X J0 σ Q u s:=⟨v,H,I,r,h⟩;rcases l with ⟨U,hm⟩|⟨U,c,hc,O⟩
 .exact wpAny_Name (wpAny_loadName_local I.ok.kind U hn hm fin) W
 .rcases U with U|U
  .exact wpAny_Name (wpAny_loadName_cell I.ok.kind U hc O fin) W
  .exact wpAny_Name (wpAny_loadName_free I.ok.kind U hc O fin Z) W
theorem zX{i j pos}:PE X (.Constant (.int i) j pos) (tC (.int i)):=fun _ _ _ H _ I h=>wpAny_Constant_int ⟨.int i,H,I.tok _,⟨_,rfl⟩,h⟩
theorem Du{b j pos}:PE X (.Constant (.bool b) j pos) (tC (.bl b)):=fun _ _ _ H _ I h=>Constant_bool ⟨.bl b,H,I,rfl,h⟩
theorem zY{j pos}:PE X (.Constant .none j pos) (tC .non):=fun _ _ _ H _ I h=>Constant_none ⟨.non,H,I,rfl,h⟩
theorem zZ{x j pos}:PE X (.Constant (.str x) j pos) (tC (.str x)):=fun _ _ _ H _ I h=>Calls.Constant_str ⟨.str x,H,I.tok _,⟨_,rfl⟩,h⟩
def Gl(X:Cx)(x:Str):Prop:=X.env.kindOf x=ς .globalImplicit
theorem et{E:Value->qb0->Prop}{s:qb0}(I:Inv X J0 σ H s)(W:Gl X x)(U:X.mg x=ς u)(h:Q u s)
 (O:(x==("__debug__":Str))=ξ:=by decide):wpAny (model X.prog X.w) X.A (eval (.Name x pos) X.env) Q E s:=
 qv0 I.ok.kind W (Calls.loadGlobal_global (by rw[I.ok.glob];exact I.mod.glob.keeps I.bk) U h) O
theorem gV{E:Value->qb0->Prop}{s:qb0}(I:Inv X J0 σ H s)(W:Gl X x)(hm:X.mg x=ψ)(Z:qf4 x=ς u)(h:Q u s)
 (U:x≠"__name__":=by decide) (O:(x==("__debug__":Str))=ξ:=by decide):wpAny (model X.prog X.w) X.A (eval (.Name x pos) X.env) Q E s:=by
 obtain⟨mb,h1,h2⟩:=I.mod.blt;exact qv0 I.ok.kind W (Calls.loadGlobal_builtin (by rw[I.ok.glob];exact I.mod.glob.keeps I.bk) hm (by rw[I.ok.blt];exact h1.keeps I.bk) ((h2 x U).trans Z) h) O
theorem vD{v:V}(W:Gl X x)(U:X.mg x=ς u)(r:RelV v u)(O:(x==("__debug__":Str))=ξ:=by decide):PE X (.Name x pos) (tC v):=fun _ _ _ H _ I h=>et I W U ⟨v,H,I,r,h⟩ O
theorem vE{v:V}(hg:Gl X x)(Z:X.mg x=ψ)(W:qf4 x=ς u)(r:RelV v u)(U:x≠"__name__":=by decide)(O:(x==("__debug__":Str))=ξ:=by decide):PE X (.Name x pos) (tC v):=fun _ _ _ H _ I h=>gV I hg Z W ⟨v,H,I,r,h⟩ U O
variable{a b:J6}{ta tb:TE}{pos:Pos}
variable{tA tB':TT}{rest:η J6}
def tAnd(t u:TT):TT:=fun σ H Q=>t σ H fun c H1=>if c=θ then u σ H1 Q else Q ξ H1
def tOr(t u:TT):TT:=fun σ H Q=>t σ H fun c H1=>if c=θ then Q θ H1 else u σ H1 Q
def tNot(t:TT):TT:=fun σ H Q=>t σ H fun c H1=>Q (!c) H1
theorem vF(O:PT X a tA):PW X (.BoolOp .And [a] pos) tA:=by
 intro wh J0 s σ H Q I h;refine isTrue_and (thn (O J0 s σ H Q I h) fun c s1 e=>?_);cases c with
 |true=>exact isTrue_and_nil e
 |false=>exact e
theorem z0(O:PT X a tA):PW X (.BoolOp .Or [a] pos) tA:=by
 intro wh J0 s σ H Q I h;refine isTrue_or (thn (O J0 s σ H Q I h) fun c s1 e=>?_);cases c with
 |false=>exact isTrue_or_nil e
 |true=>exact e
theorem z6(U:PT X a tA)(hb:PW X (.BoolOp .And (b::rest) pos) tB'):PW X (.BoolOp .And (a::b::rest) pos) (tAnd tA tB'):=by
 intro wh J0 s σ H Q I h;refine isTrue_and (thn (U J0 s σ H _ I h) fun c s1 ⟨H1,O,q1⟩=>?_);cases c with
 |true=>exact hb wh J0 s1 σ H1 Q O q1
 |false=>exact⟨H1,O,q1⟩
theorem Dv(U:PT X a tA)(hb:PW X (.BoolOp .Or (b::rest) pos) tB'):PW X (.BoolOp .Or (a::b::rest) pos) (tOr tA tB'):=by
 intro wh J0 s σ H Q I h;refine isTrue_or (thn (U J0 s σ H _ I h) fun c s1 ⟨H1,O,q1⟩=>?_);cases c with
 |true=>exact⟨H1,O,q1⟩
 |false=>exact hb wh J0 s1 σ H1 Q O q1
theorem z7(O:PT X a tA):PT X (.UnaryOp .Not a pos) (tNot tA):=by intro J0 s σ H Q I h;exact isTrue_not (O J0 s σ H (fun c H1=>Q (!c) H1) I h)
def Dw(ta tb:TE):TE:=fun σ H Q=>ta σ H fun x H1=>∃c,x=.bl c/\if c=θ then tb σ H1 Q else Q (.bl ξ) H1
def Dx(ta:TE):TE:=fun σ H Q=>ta σ H fun x H1=>∃c,x=.bl c/\Q (.bl (!c)) H1
theorem z8{op}{t:TE}(h:PE X a t):PE X (.BoolOp op [a] pos) t:=fun J0 s σ H Q I O=>BoolOp_one (h J0 s σ H Q I O)
theorem z9(W:PE X a ta)(hb:PE X (.BoolOp .And (b::rest) pos) tb):PE X (.BoolOp .And (a::b::rest) pos) (Dw ta tb):=by
 intro J0 s σ H Q I h;refine BoolOp_and (thn (W J0 s σ H _ I h) fun v s1 ⟨x,H1,O,U,q1⟩=>?_);obtain⟨c,rfl,q1⟩:=q1;cases U;refine qs2 ?_;cases c with
 |true=>exact hb J0 s1 σ H1 Q O q1
 |false=>exact⟨.bl ξ,H1,O,rfl,q1⟩
theorem Aa(W:PE X a ta):PE X (.UnaryOp .Not a pos) (Dx ta):=by intro J0 s σ H Q I h;refine UnaryOp_ (thn (W J0 s σ H _ I h) fun v s1 ⟨x,H1,O,U,q1⟩=>?_);obtain⟨c,rfl,q1⟩:=q1;cases U;exact not_of (qs2 ⟨.bl (!c),H1,O,rfl,q1⟩)
def tIf(t:TT)(ta tb:TE):TE:=fun σ H Q=>t σ H fun c H1=>if c=θ then ta σ H1 Q else tb σ H1 Q
theorem qP{c:J6}(hc:PT X c tA)(U:PE X a ta)(hb:PE X b tb):PE X (.IfExp c a b pos) (tIf tA ta tb):=by
 intro J0 s σ H Q I h;refine wpAny_IfExp (thn (hc J0 s σ H _ I h) fun d s1 ⟨H1,O,q1⟩=>?_);cases d with
 |true=>exact U J0 s1 σ H1 Q O q1
 |false=>exact hb J0 s1 σ H1 Q O q1
end
def SqL(K:xA9)(H:Hp)(a:J4)(xs:η V):Prop:=Rd H a (.e xs)∨∃(o:Obj)(J3:Array Value)(n:Nat),K.lookup a=ς o/\o.cls=.type "list"/\o.dict=ψ/\o.data=.seq J3 n/\J3.size<=qa9/\Vals xs J3.toList
def SqT(K:xA9)(H:Hp)(a:J4)(xs:η V):Prop:=H a=ς (.t xs)∨∃(o:Obj)(J3:Array Value)(n:Nat),K.lookup a=ς o/\o.cls=.type "tuple"/\(o.data=.seq J3 n/\o.dict=ψ)/\J3.size<=qa9/\Vals xs J3.toList
def absV:Value->ζ V
 |.none=>ς .non
 |.bool b=>ς (.bl b)
 |.int i _=>ς (.int i)
 |.str x _=>ς (.str x)
 |.bytes b _=>ς (.byt b)
 |.float b _=>ς (.flt b)
 |.ref a=>ς (.ref a)
 |.type n=>ς (.ty n)
 |_=>ψ
theorem RelV.abs{x:V}(r:RelV x u):absV u=ς x:=by
 cases x with
 |non=>cases r;rfl
 |bl _=>cases r;rfl
 |int _=>obtain⟨t,rfl⟩:=r;rfl
 |str _=>obtain⟨t,rfl⟩:=r;rfl
 |byt _=>obtain⟨t,rfl⟩:=r;rfl
 |flt _=>obtain⟨t,rfl⟩:=r;rfl
 |ref _=>cases r;rfl
 |ty _=>cases r;rfl
variable{y:V}
theorem RelV.inj{x:V}(r:RelV x u)(q:RelV y u):x=y:=qc9 (r.abs.symm.trans q.abs)
theorem Vals.inj:∀{xs ys:η V}{us:η Value},Vals xs us->Vals ys us->xs=ys
 |_,_,_,.nil,.nil=>rfl
 |_,_,_,.cons r t,.cons O t'=>by rw[r.inj O,Vals.inj t t']
variable{K:xA9}
section
variable{X:Cx}{J0:η (J4×Obj)}{σ:af}{H:Hp}{s:qb0}{a:J4}{xs ys:η V}
theorem SqL.of(h:H a=ς (.e xs)):SqL K H a xs:=.inl (.inl h)
theorem SqT.of(h:H a=ς (.t xs)):SqT K H a xs:=.inl h
theorem Inv.list(I:Inv X J0 σ H s)(h:SqL X.K H a xs):∃J3:η Value,Vals xs J3/\PlainL s.heap a J3.toArray/\xs.length<=qa9:=by
 rcases h with h|⟨o,J3,n,W,hc,U,O,Z,r⟩
 .obtain⟨z,J3,n,r,e⟩:=h.ok I.hok;exact⟨J3,r,⟨_,n,e,rfl,rfl,rfl⟩,z⟩
 .refine⟨J3.toList,r,⟨o,n,I.kIn a o W,hc,U,by simpa using O⟩,?_⟩;have e:=r.length;simp only[qq1]at e;lia
theorem Inv.tup(I:Inv X J0 σ H s)(h:SqT X.K H a xs):∃J3:η Value,Vals xs J3/\IsTu s.heap a J3.toArray/\xs.length<=qa9:=by
 rcases h with h|⟨o,J3,n,U,hc,O,W,r⟩
 .obtain⟨z,J3,r,p⟩:=(Rd.of h).ok I.hok;exact⟨J3,r,p,z⟩
 .refine⟨J3.toList,r,.of (n:=n) (I.kIn a o U) hc (by simpa using O.1) O.2,?_⟩;have e:=r.length;simp only[qq1]at e;lia
theorem Inv.tuple(I:Inv X J0 σ H s)(h:SqT X.K H a xs):∃J3:η Value,Vals xs J3/\IsTup s.heap a J3.toArray/\xs.length<=qa9:=let ⟨J3,r,p,z⟩:=I.tup h;⟨J3,r,p.1,z⟩
theorem Inv.list_inj(I:Inv X J0 σ H s)(h:SqL X.K H a xs)(h':SqL X.K H a ys):xs=ys:=by
 obtain⟨J3,r,⟨o,n,e,_,_,d⟩,_⟩:=I.list h;obtain⟨its',U,⟨o',n',O,_,_,d'⟩,_⟩:=I.list h';rw[e]at O;cases O
 rw[d]at d';injection d' with d1 _;have:J3=its':=by simpa using congrArg zf2 d1
 subst this;exact r.inj U
theorem Inv.tuple_inj(I:Inv X J0 σ H s)(h:SqT X.K H a xs)(h':SqT X.K H a ys):xs=ys:=by
 obtain⟨J3,r,⟨o,e,_,n,d⟩,_⟩:=I.tuple h;obtain⟨its',U,⟨o',O,_,n',d'⟩,_⟩:=I.tuple h';rw[e]at O;cases O
 rw[d]at d';injection d' with d1 _;have:J3=its':=by simpa using congrArg zf2 d1
 subst this;exact r.inj U
end
abbrev Cx.wish(X:Cx)(E:Value->qb0->Prop):Cx:={X with xe:=E}
abbrev Cx.nox(X:Cx):Cx:=X.wish fun _ _=>False
theorem Cx.Ok.wish(ok:X.Ok)(E:Value->qb0->Prop):(X.wish E).Ok:=⟨ok.mod,ok.kind,ok.glob,ok.blt,ok.above,ok.inj,ok.has,ok.cab,ok.hd,ok.frames,ok.stk,ok.exf,ok.bs,ok.bsz,ok.noex,ok.exfs,ok.funs,ok.frf,ok.tb⟩
theorem Cx.Ok.unwish{E:Value->qb0->Prop}(ok:(X.wish E).Ok):X.Ok:=⟨ok.mod,ok.kind,ok.glob,ok.blt,ok.above,ok.inj,ok.has,ok.cab,ok.hd,ok.frames,ok.stk,ok.exf,ok.bs,ok.bsz,ok.noex,ok.exfs,ok.funs,ok.frf,ok.tb⟩
section
variable{X:Cx}{J0:η (J4×Obj)}{σ:af}{H:Hp}{s:qb0}{E:Value->qb0->Prop}
theorem Inv.wish(I:Inv X J0 σ H s)(E:Value->qb0->Prop):Inv (X.wish E) J0 σ H s:=⟨I.ok.wish E,I.os,I.bare,I.base,I.loc,I.cell,I.free,I.freeC,I.pin,I.hok,I.len⟩
theorem Inv.unwish(I:Inv (X.wish E) J0 σ H s):Inv X J0 σ H s:=⟨I.ok.unwish,I.os,I.bare,I.base,I.loc,I.cell,I.free,I.freeC,I.pin,I.hok,I.len⟩
theorem SP.unwish{D:Ends}{f:Flow}(h:SP (X.wish E) J0 D f s'):SP X J0 D f s':=by
 cases f with
 |next=>obtain⟨O,H',I,q⟩:=h;exact⟨O,H',I.unwish,q⟩
 |brk=>obtain⟨O,H',I,q⟩:=h;exact⟨O,H',I.unwish,q⟩
 |cont=>obtain⟨O,H',I,q⟩:=h;exact⟨O,H',I.unwish,q⟩
 |ret u=>obtain⟨v,O,H',I,r,q⟩:=h;exact⟨v,O,H',I.unwish,r,q⟩
theorem PSs.nox{st:η Stmt}{t:TS}(h:PSs X.nox st t):PSs X st t:=fun J0 s σ H D I O=>qn5 (h J0 s σ H D (I.wish _) O) (fun _ _ q=>q.unwish) fun _ _ z=>qk2 z
end
variable{tc:TT}
section
variable{X:Cx}{st:Stmt}{rest:η Stmt}{t u:TS}{e:J6}{te:TE}{pos:Pos}
def qQ:TS:=fun D σ H=>D.nx σ H
def tSeq(t u:TS):TS:=fun D σ H=>t {D with nx:=u D} σ H
theorem vG:PSs X [] qQ:=fun _ _ σ H _ I h=>za9 ⟨σ,H,I,h⟩
theorem qR(h1:PSBq X st t)(h2:PSs X rest u):PSs X (st::rest) (tSeq t u):=by
 intro J0 s σ H D I h;refine wpAny_execs_cons (thn (h1 J0 s σ H {D with nx:=u D} I h) fun f s1 q=>?_);cases f with
 |next=>obtain⟨O,H',U,q⟩:=q;exact h2 J0 s1 O H' D U q
 |ret v=>exact q
 |brk=>exact q
 |cont=>exact q
theorem vH:PSBq X (.Pass pos) qQ:=fun _ _ σ H _ I h=>wpAny_Pass ⟨σ,H,I,h⟩
theorem Inv.quiet{s:qb0}(I:Inv X J0 σ H s):interactive X.env=ξ:=by simp[interactive,I.ok.kind]
theorem Ab{x j pos pos'}:PSBq X (.Expr (.Constant (.str x) j pos) pos') qQ:=fun _ s σ H _ I h=>wpAny_Expr (Calls.Constant_str (show SP X _ _ .next {s with toks:=s.toks+1} from⟨σ,H,I.tok _,h⟩)) I.quiet
def Dy(te:TE):TS:=fun D σ H=>te σ H fun _ H1=>D.nx σ H1
theorem dB(U:PE X e te)(hs:qi6 e ψ pos.line X.env=pure ξ:=by rfl):PSBq X (.Expr e pos) (Dy te):=by intro J0 s σ H D I h;exact wpAny_Expr_any (thn (U J0 s σ H _ I h) fun v s1 ⟨x,H1,O,W,q1⟩=>⟨σ,H1,O,q1⟩) I.quiet hs
def tRet(te:TE):TS:=fun D σ H=>te σ H D.rt
theorem Ac(W:PE X e te):PSBq X (.Return (ς e) pos) (tRet te):=by intro J0 s σ H D I h;exact wpAny_Return_some (thn (W J0 s σ H _ I h) fun v s1 ⟨x,H1,O,U,q1⟩=>⟨x,σ,H1,O,U,q1⟩)
def Dz:TS:=fun D _ H=>D.rt .non H
theorem vI:PSBq X (.Return ψ pos) Dz:=fun _ _ σ H _ I h=>wpAny_Return_none ⟨.non,σ,H,I,rfl,h⟩
def tIfS(c:TT)(t u:TS):TS:=fun D σ H=>c σ H fun b H1=>if b=θ then t D σ H1 else u D σ H1
theorem DA{c:J6}{a b:η Stmt}(hc:PT X c tc)(U:PSs X a t)(hb:PSs X b u):PSBq X (.If c a b pos) (tIfS tc t u):=by
 intro J0 s σ H D I h;refine wpAny_If (thn (hc J0 s σ H _ I h) fun d s1 ⟨H1,O,q1⟩=>?_);cases d with
 |true=>exact U J0 s1 σ H1 D O q1
 |false=>exact hb J0 s1 σ H1 D O q1
end
abbrev TG:=V->af->Hp->(af->Hp->Prop)->Prop
abbrev TGs:=η V->af->Hp->(af->Hp->Prop)->Prop
def PG(X:Cx)(O:J6)(t:TG):Prop:=
 ∀(J0:η (J4×Obj))(s:qb0)(σ:af)(H:Hp)(v:V)(u:Value)(Q:af->Hp->Prop),Inv X J0 σ H s->RelV v u->t v σ H Q→
  wpAny (model X.prog X.w) X.A (qz3 O X.env u) (fun _ s'=>∃U H',Inv X J0 U H' s'/\Q U H') X.xe s
def PGs(X:Cx)(ts:η J6)(t:TGs):Prop:=
 ∀(J0:η (J4×Obj))(s:qb0)(σ:af)(H:Hp)(vs:η V)(us:η Value)(Q:af->Hp->Prop),Inv X J0 σ H s->Vals vs us->t vs σ H Q→
  wpAny (model X.prog X.w) X.A (assignInOrder ((qi1 ts X.env).map (·.2)) us) (fun _ s'=>∃O H',Inv X J0 O H' s'/\Q O H') X.xe s
abbrev qS:=V->V->V->Hp->(Hp->Prop)->Prop
def PSet(X:Cx)(t:qS):Prop:=
 ∀(J0:η (J4×Obj))(s:qb0)(σ:af)(H:Hp)(o i v:V)(O U u:Value)(Q:Hp->Prop),Inv X J0 σ H s->RelV o O->RelV i U->RelV v u->t o i v H Q→
  wpAny (model X.prog X.w) X.A (setItem O U u) (fun _ s'=>∃H',Inv X J0 σ H' s'/\Q H') X.xe s
abbrev TIp:=V->V->Hp->VK->Prop
def PIp(X:Cx)(op:qv3)(t:TIp):Prop:=
 ∀(J0:η (J4×Obj))(s:qb0)(σ:af)(H:Hp)(x y:V)(v u:Value)(Q:VK),Inv X J0 σ H s->RelV x v->RelV y u->t x y H Q→
  wpAny (model X.prog X.w) X.A (inplaceOp op v u) (EP X J0 σ Q) X.xe s
variable{es:η J6}{tg:J6}{te:TE}{pos':Pos}
section
variable{X:Cx}{pos:Pos}
def eu(i:Nat):TG:=fun v σ H Q=>Q (σ.set i (ς v)) H
theorem nU(W:X.N.Nodup)(hi:X.N[i]?=ς x)(O:Loc X.env.scope x)(U:X.fn x=θ∨X.env.scope.names.lookup x=ς .local:=by first|exact .inl rfl|exact .inr rfl|assumption):PG X (.Name x pos) (eu i):=by intro J0 s σ H v u Q I r h;exact wpAny_assign_Name (dR I W hi O r (fun s' Z=>⟨_,H,Z,h⟩) U)
def gNil:TGs:=fun vs σ H Q=>vs=[]/\Q σ H
def DB(t:TG)(u:TGs):TGs:=fun vs σ H Q=>∃v r,vs=v::r/\t v σ H fun O H'=>u r O H' Q
theorem vJ:PGs X [] gNil:=by intro J0 s σ H vs us Q I r h;obtain⟨e,h⟩:=h;subst e;cases r;exact assignInOrder_nil ⟨σ,H,I,h⟩
theorem qT{t:TG}{u:TGs}(h1:PG X e t)(h2:PGs X es u)
 (hs:(qi1 (e::es) X.env).map (·.2)=qz3 e X.env::(qi1 es X.env).map (·.2):=by rfl):PGs X (e::es) (DB t u):=by
 intro J0 s σ H vs us Q I r h;obtain⟨v,vr,Z,h⟩:=h;subst Z;cases r with
 |cons r U=>rw[hs];refine assignInOrder_cons (thn (h1 J0 s σ H _ _ _ I r h) fun _ s1 ⟨O,H1,W,q1⟩=>?_);exact h2 J0 s1 O H1 _ _ Q W U q1
def gTup(K:xA9)(n:Nat)(t:TGs):TG:=fun v σ H Q=>∃a xs,v=.ref a/\SqT K H a xs/\xs.length=n/\t xs σ H Q
theorem Ad{k:Nat}{t:TGs}(hc:X.calm=θ)(h:PGs X es t)
 (hn:(qi1 es X.env).length=n:=by rfl) (O:(qi1 es X.env).findIdx? (·.1)=ψ:=by rfl):PG X (.Tuple es k pos) (gTup X.K n t):=by
 intro J0 s σ H v u Q I r U;obtain⟨a,xs,e1,hq,hl,U⟩:=U;subst e1;cases r;obtain⟨J3,W,ht,hz⟩:=I.tuple hq;refine assign_Tuple_tuple (I.ok.hd hc) ht (by simp[hn,<- hl,W.length]) O fun h' Z=>?_
 have I1:Inv X J0 σ H {s with heap:=h'}:=I.kept (t':=s.toks) fun b o e=>Z b o (qc2 (qb5 e)) e
 exact h J0 _ σ H xs _ Q I1 (by simpa using W) U
def gSub(to U:TE)(t:qS):TG:=fun v σ H Q=>to σ H fun o H1=>U σ H1 fun i H2=>t o i v H2 fun O=>Q σ O
theorem Ae {o i:J6} {to W:TE} {t:qS} (ho:PE X o to) (hi:PE X i W) (hs:PSet X t)
  (ha:∀v,qz3 (.Subscript o i pos) X.env v=(do
   let O <- qp1 [v] (eval o X.env);let U <- qp1 [v,O] (eval i X.env)
   qw5 pos
   qp1 [v,O,U] (setItem O U v)
   release [v,O,U] []):=by intro _;rfl):PG X (.Subscript o i pos) (gSub to W t):=by
 intro J0 s σ H v u Q I r h;rw[ha];refine wB (qn0 (thn (ho J0 s σ H _ I h) fun O s1 ⟨x,H1,I1,r1,q1⟩=>?_));refine wB (qn0 (thn (hi J0 s1 σ H1 _ I1 q1) fun U s2 ⟨y,H2,I2,r2,q2⟩=>?_));refine wB (zd9 (wB (qn0 (thn (hs J0 s2 σ H2 x y v O U u _ I2 r1 r2 r q2) fun _ s3 ⟨Z,I3,q3⟩=>?_))));exact wpAny_release ⟨σ,Z,I3,q3⟩
def vK(te:TE)(g:TG):TS:=fun D σ H=>te σ H fun x H1=>g x σ H1 D.nx
theorem qU{g:TG}(Z:PE X e te)(hg:PG X tg g)(hs:qt8 [tg] e pos.line X.env=pure ξ:=by rfl)(W:ze0 [tg] e X.env=pure ψ:=by rfl)
 (h1:(qi1 [tg] X.env).map (·.2)=[qz3 tg X.env]:=by rfl):PSBq X (.Assign [tg] e pos) (vK te g):=by
 intro J0 s σ H D I h;refine wpAny_Assign_stores (thn (Z J0 s σ H _ I h) fun v s1 ⟨x,H1,O,U,q1⟩=>?_) hs W;rw[h1];exact thn (hg J0 s1 σ H1 x v _ O U q1) fun _ s2 q=>q
theorem Af (hN:X.N.Nodup) (hi:X.N[i]?=ς x) (O:Loc X.env.scope x) (he:PE X e te) (hs:qi6 e (ς (.Name x pos')) pos.line X.env=pure ξ:=by rfl) (hf:X.fn x=θ∨X.env.scope.names.lookup x=ς .local:=by first | exact .inl rfl | exact .inr rfl | assumption) :
  PSBq X (.Assign [.Name x pos'] e pos) (vK te (eu i)):=by
 intro J0 s σ H D I h;refine wpAny_Assign_Name (thn (he J0 s σ H _ I h) fun v s1 ⟨y,H1,W,Z,q1⟩=>?_) hs;exact dR W hN hi O Z (fun s2 U=>⟨_,H1,U,q1⟩) hf
def tAug(i:Nat)(te:TE)(O:TIp):TS:=fun D σ H=>∃x,σ[i]?=ς (ς x)/\te σ H fun y H1=>O x y H1 fun z H2=>D.nx (σ.set i (ς z)) H2
theorem Ag {op:qv3} {ti:TIp} (hN:X.N.Nodup) (hi:X.N[i]?=ς x) (hx:Loc X.env.scope x) (he:PE X e te) (ho:PIp X op ti) (hf:X.fn x=θ∨X.env.scope.names.lookup x=ς .local:=by first | exact .inl rfl | exact .inr rfl | assumption) :
  PSBq X (.AugAssign (.Name x pos') op e pos) (tAug i te ti):=by
 intro J0 s σ H D I h;obtain⟨v,e1,h⟩:=h;obtain⟨m,hn,hl⟩:=I.loc;have Z:Vis X.env.scope x:=by rcases hx with k|k;exact .inl k;exact .inr (.inl k)
 obtain⟨u,r,l⟩:=hl i x v hi e1 Z;refine wpAny_AugAssign_Name ?_
 have go:wpAny (model X.prog X.w) X.A (eval e X.env) (fun w W=>wpAny (model X.prog X.w) X.A (inplaceOp op u w) (fun r s₃=>wpAny (model X.prog X.w) X.A (storeName X.env x r) (fun _=>SP X J0 D .next) X.xe s₃) X.xe W) X.xe s:=by
  refine thn (he J0 s σ H _ I h) fun w s1 ⟨y,H1,I1,r1,q1⟩=>?_
  refine thn (ho J0 s1 σ H1 v y u w _ I1 r r1 q1) fun z s2 ⟨zv,H2,I2,r2,q2⟩=>?_
  exact dR I2 hN hi hx r2 (fun s3 I3=>⟨_,H2,I3,q2⟩) hf
 rcases l with ⟨O,hm⟩|⟨O,c,hc,U⟩
 .exact wpAny_loadName_local I.ok.kind O hn hm go
 .rcases O with O|O
  .exact wpAny_loadName_cell I.ok.kind O hc U go
  .rcases hx with k|k
   .have:X.env.scope.names.lookup x=ς .free:=O;rw[k]at this;cases this
   .have:X.env.scope.names.lookup x=ς .free:=O;rw[k]at this;cases this
def ipI(f:Int->Int->Int):TIp:=fun x y H Q=>∃i j,x=.int i/\y=.int j/\Q (.int (f i j)) H
theorem Ah:PIp X .Add (ipI fun i j=>i+j):=by intro J0 s σ H x y v u Q I U O h;obtain⟨i,j,W,e2,q⟩:=h;subst W;subst e2;obtain⟨t,rfl⟩:=U;obtain⟨t',rfl⟩:=O;exact iadd_int ⟨.int _,H,I.tok _,⟨_,rfl⟩,q⟩
end
variable{body:η Stmt}{tb:TS}
section
variable{X:Cx}{pos:Pos}
def Ai(c:TT)(tb:TS):TS:=fun D σ H=>∃W:Nat->af->Hp->Prop,(∃m,W m σ H)/\∀m σ H,W m σ H→
 c σ H fun b H1=>if b=θ then ∃N:af->Hp->Prop,(∀O H',N O H'->∃U,U<m/\W U O H')/\tb {D with nx:=N,ct:=N,bk:=D.nx} σ H1 else D.nx σ H1
theorem qV{c:J6}(hp:zb0 (model X.prog X.w) X.A X.env X.xe)(hc:PT X c tc)(hb:PSs X body tb):PSBq X (.While c body [] pos) (Ai tc tb):=by
 intro J0 s σ H D I h;obtain⟨W,⟨m0,w0⟩,turn⟩:=h;refine wpAny_While (codeAny_whileLoop (fun n s'=>∃ σ' H',Inv X J0 σ' H' s'/\W n σ' H') ?_ m0 ⟨σ,H,I,w0⟩);rintro n s1 ⟨U,H1,I1,w1⟩;refine qm5 hp (thn (hc J0 s1 U H1 _ I1 (turn n U H1 w1)) fun b s2 ⟨H2,I2,q2⟩=>?_);cases b with
 |true=>
  obtain⟨N,hN,q2⟩:=q2;rw[if_pos rfl];refine qm5 hp (thn (hb J0 s2 U H2 _ I2 q2) fun f s3 q3=>?_);cases f with
  |next=>obtain⟨O,Z,I3,n3⟩:=q3;obtain⟨m',hm,w3⟩:=hN O Z n3;exact⟨m',hm,O,Z,I3,w3⟩
  |cont=>obtain⟨O,Z,I3,n3⟩:=q3;obtain⟨m',hm,w3⟩:=hN O Z n3;exact⟨m',hm,O,Z,I3,w3⟩
  |brk=>exact q3
  |ret v=>exact q3
 |false=>rw[if_neg qb7];exact za9 ⟨U,H2,I2,q2⟩
end
structure It where
 go:Nat->Hp->Prop
 yld:Nat->Hp->V->Hp->Prop
 stop:Nat->Hp->Prop
def dS(X:Cx)(J0:η (J4×Obj))(H:Hp)(b:J4):Prop:=H b=ψ/\b≠X.env.locals/\b∉X.fs/\(b∈X.ex∨X.s₀.heap.objs.size<=b)/\(∀x c,X.env.cells.lookup x=ς c->c≠b)/\∀p∈X.pn++J0,p.1≠b
theorem Inv.fpOk{H':Hp}{s:qb0}(I:Inv X J0 σ H s)(hb:s.heap.objs.size<=b)(O:H' b=ψ):dS X J0 H' b:=by
 refine⟨O,qi7 (qc6 I.lt hb),I.nofs hb,.inr (qd1 I.sz hb),fun x c e z=>?_,fun p hp z=>?_⟩
 .obtain⟨v,q⟩:=I.cell x c e;exact absurd (qc6 q.lt (by rw[z];exact hb)) (qm9 _)
 .exact absurd (qc6 (qb5 (I.pin p hp).1) (by rw[z];exact hb)) (qm9 _)
structure Turn(P:qe7)(w:J5)(K:xA9)(tg:J6)(J:It)(fp:List J4)(it:J4)(tn:Nat->Heap->Prop):Prop where
 mem:it∈fp
 obj:∀i h,tn i h->∀b∈fp,∃o,h.get? b=ς o/\∀v,o.data≠.cell v
 keep:∀i h h',tn i h->(∀b∈fp,∀o,h.get? b=ς o->h'.get? b=ς o)->tn i h'
 item:∀(X:Cx),X.prog=P->X.w=w->X.K=K->X.calm=θ->∀(i:Nat)(J0:List (J4×Obj))(s:qb0)(σ:af)(H:Hp)(E:Value->qb0->Prop),Inv X J0 σ H s->(∀b∈fp,dS X J0 H b)->tn i s.heap->J.go i H→
  wpAny (model P w) X.A (qz4 (.ref it)) (fun r s1=>∃u,r=ς u∧wpAny (model P w) X.A (qu3 tg (.ref it) u) (fun _ s2=>∃x H',Inv X J0 σ H' s2/\RelV x u/\J.yld i H x H'/\tn (i+1) s2.heap/\∀b∈fp,H' b=ψ) E s1) E s
 done:∀(X:Cx),X.prog=P->X.w=w->X.K=K->X.calm=θ->∀(i:Nat)(J0:List (J4×Obj))(s:qb0)(σ:af)(H:Hp)(E:Value->qb0->Prop),Inv X J0 σ H s->(∀b∈fp,dS X J0 H b)->tn i s.heap->J.stop i H→
  wpAny (model P w) X.A (qz4 (.ref it)) (fun r s1=>r=ψ/\Inv X J0 σ H s1) E s
 self:∀(A:ql3)(i:Nat)(s:qb0)(Q E:Value->qb0->Prop),tn i s.heap->Q (.ref it) s->wpAny (model P w) A (pyIter (.ref it)) Q E s
abbrev TI:=af->Hp->(It->Hp->Prop)->Prop
def PIE(X:Cx)(J0:η (J4×Obj))(σ:af)(tg:J6)(R:It->Hp->Prop)(O:Value)(U:qb0):Prop:=∃(it:J4)(fp:η J4)(tn:Nat->Heap->Prop)(J:It)(H':Hp),O=.ref it/\Inv X J0 σ H' U/\Turn X.prog X.w X.K tg J fp it tn/\tn 0 U.heap/\(∀b∈fp,dS X J0 H' b)/\R J H'
def PI(X:Cx)(tg iter:J6)(wi:TI):Prop:=
 ∀(J0:η (J4×Obj))(s:qb0)(σ:af)(H:Hp)(R:It->Hp->Prop),Inv X J0 σ H s->wi σ H R→
  wpAny (model X.prog X.w) X.A (eval iter X.env) (fun v s1=>wpAny (model X.prog X.w) X.A (pyIter v) (PIE X J0 σ tg R) X.xe s1) X.xe s
theorem qW{E:Value->qb0->Prop}{s:qb0}{it:J4}{o:Obj}{n:String}{vs:Array Value}{Q:Unit->qb0->Prop}(Z:s.heap.get? it=ς o)(hc:o.cls=.type n)(U:o.data=.fields vs)
 (W:["enumerate","zip","dict_itemiterator","dict_reverseitemiterator","odict_iterator","itertools.zip_longest","itertools.pairwise"].contains n=ξ) (O:Q () s):wpAny M A (qu3 tg (.ref it) u) Q E s:=by
 unfold qu3
 cases tg<;>first
  |exact qa6 O
  | (cases u<;>first
      |exact qa6 O
      | (refine wB (wpAny_load Z ?_)
         rw[hc,U];show wpAny M A (if(["enumerate","zip","dict_itemiterator","dict_reverseitemiterator","odict_iterator","itertools.zip_longest","itertools.pairwise"].contains n&&vs[0]?==ς (qv4 _))=θ then _ else _) Q E s;rw[if_neg (by intro h;rw[W,zd0]at h;cases h)];exact qa6 O))
def Itl(K:xA9)(a:J4):It:=⟨fun i H=>∃xs x,SqL K H a xs/\xs[i]?=ς x,fun i H x H'=>H'=H/\∀xs,SqL K H a xs->xs[i]?=ς x,fun i H=>∃xs,SqL K H a xs/\xs.length<=i⟩
def Itt(K:xA9)(a:J4):It:=⟨fun i H=>∃xs x,SqT K H a xs/\xs[i]?=ς x,fun i H x H'=>H'=H/\∀xs,SqT K H a xs->xs[i]?=ς x,fun i H=>∃xs,SqT K H a xs/\xs.length<=i⟩
def Itr(lo:Int)(n:Nat):It:=⟨fun i _=>i<n,fun i H x H'=>H'=H/\x=.int (lo+i),fun i _=>n<=i⟩
theorem pM{w:J5}(a it:J4):Turn P w K tg (Itl K a) [it] it (fun i h=>h.IsListIter it a i) where
 mem:=by simp
 obj:=fun i h st b hb=>by
  have e:b=it:=by simpa using hb
  subst e;obtain⟨o,e,c,d⟩:=st;exact⟨o,e,fun v z=>by rw[d]at z;cases z⟩
 keep:=fun i h h' st k=>st.at fun o e=>k it Ξ o e
 item:=by
  intro X hP hw hK hc i J0 s σ H E I W st hg;subst hP hw hK;obtain⟨xs,x,U,hx⟩:=hg;obtain⟨J3,rv,p,hz⟩:=I.list U;obtain⟨u,hu,ru⟩:=rv.get hx;obtain⟨f0,f1,f2,f3,Z,f5⟩:=W it Ξ;refine qz8 st p.isList (x:=u) (by simpa using hu) fun h' O sb=>?_
  have I1:Inv X J0 σ H {s with heap:=h'}:=I.turned (t':=s.toks) (fun b o hb e=>(sb.2 b hb).trans e) f0 f1 f3 Z f5;obtain⟨o,e,c,d⟩:=id O;exact⟨u,rfl,qW (s:={s with heap:=h'}) e c d Ω ⟨x,H,I1,ru,⟨rfl,fun ys hy=>by rw[I.list_inj hy U];exact hx⟩,O,fun b hb=>(W b hb).1⟩⟩
 done:=by intro X hP hw hK hc i J0 s σ H E I W st hg;subst hP hw hK;obtain⟨xs,U,hx⟩:=hg;obtain⟨J3,rv,p,hz⟩:=I.list U;obtain⟨f0,f1,f2,f3,Z,f5⟩:=W it Ξ;have hl:=rv.length;exact zb1 (I.ok.hd hc) st p.isList (by simp;lia) fun h' eb=>⟨rfl,I.turned (t':=s.toks) (fun b o hb e=>eb b o hb e) f0 f1 f3 Z f5⟩
 self:=fun _ _ _ _ _ st h=>wpAny_pyIter_listiter st h
theorem mz{w:J5}(a it:J4):Turn P w K tg (Itt K a) [it] it (fun i h=>h.IsTupleIter it a i) where
 mem:=by simp
 obj:=fun i h st b hb=>by
  have e:b=it:=by simpa using hb
  subst e;obtain⟨o,e,c,d⟩:=st;exact⟨o,e,fun v z=>by rw[d]at z;cases z⟩
 keep:=fun i h h' st k=>st.at fun o e=>k it Ξ o e
 item:=by
  intro X hP hw hK hc i J0 s σ H E I W st hg;subst hP hw hK;obtain⟨xs,x,U,hx⟩:=hg;obtain⟨J3,rv,p,hz⟩:=I.tuple U;obtain⟨u,hu,ru⟩:=rv.get hx;obtain⟨f0,f1,f2,f3,Z,f5⟩:=W it Ξ;refine qy6 st (show s.heap.IsTuple a J3.toArray from p) (x:=u) (by simpa using hu) fun h' O sb=>?_
  have I1:Inv X J0 σ H {s with heap:=h'}:=I.turned (t':=s.toks) (fun b o hb e=>(sb.2 b hb).trans e) f0 f1 f3 Z f5;obtain⟨o,e,c,d⟩:=id O;exact⟨u,rfl,qW (s:={s with heap:=h'}) e c d Ω ⟨x,H,I1,ru,⟨rfl,fun ys hy=>by rw[I.tuple_inj hy U];exact hx⟩,O,fun b hb=>(W b hb).1⟩⟩
 done:=by intro X hP hw hK hc i J0 s σ H E I W st hg;subst hP hw hK;obtain⟨xs,U,hx⟩:=hg;obtain⟨J3,rv,p,hz⟩:=I.tuple U;obtain⟨f0,f1,f2,f3,Z,f5⟩:=W it Ξ;have hl:=rv.length;exact qz9 (I.ok.hd hc) st (show s.heap.IsTuple a J3.toArray from p) (by simp;lia) fun h' eb=>⟨rfl,I.turned (t':=s.toks) (fun b o hb e=>eb b o hb e) f0 f1 f3 Z f5⟩
 self:=fun _ _ _ _ _ st h=>wpAny_pyIter_tupleiter st h
theorem mB{w:J5}(it:J4)(lo:Int)(n:Nat):Turn P w K tg (Itr lo n) [it] it (fun i h=>IsRangeIter h it (lo+(i:Nat)*1) ((n:Int)-(i:Nat)) 1) where
 mem:=by simp
 obj:=fun i h st b hb=>by
  have e:b=it:=by simpa using hb
  subst e
  exact⟨_,st,fun v z=>by have z':Data.fields _=Data.cell v:=z;cases z'⟩
 keep:=fun i h h' st k=>k it Ξ _ st
 item:=by
  intro X hP hw hK hc i J0 s σ H E I U st hg;subst hP hw hK;obtain⟨f0,f1,f2,f3,Z,f5⟩:=U it Ξ;have W:=Walks.range (prog:=X.prog) (w:=X.w) (I.ok.hd hc) it lo 1 n;refine W.item i s _ _ hg st fun v h' tk hv O kk=>?_
  obtain⟨t,rfl⟩:=hv;have I1:Inv X J0 σ H {s with heap:=h',toks:=tk}:=I.turned (fun b o hb e=>kk b o (by simpa using hb) e) f0 f1 f3 Z f5;refine⟨_,rfl,qW (s:={s with heap:=h',toks:=tk}) (n:="range_iterator") O rfl rfl Ω ⟨.int (lo+i),H,I1,⟨t,?_⟩,⟨rfl,rfl⟩,O,fun b hb=>(U b hb).1⟩⟩;rw[Int.mul_one]
 done:=by intro X hP hw hK hc i J0 s σ H E I U st hg;subst hP hw hK;obtain⟨f0,f1,f2,f3,Z,f5⟩:=U it Ξ;exact wpAny_pyNext_range_end (I.ok.hd hc) st (by have:n<=i:=hg;lia) fun h' eb=>⟨rfl,I.turned (t':=s.toks) (fun b o hb e=>eb b o hb e) f0 f1 f3 Z f5⟩
 self:=fun _ _ _ _ _ st h=>wpAny_pyIter_rangeiter st h
variable{l:J6}{fp:η J4}
section
variable{X:Cx}{tg:J6}
def DC(K:xA9)(tl:TE):TI:=fun σ H R=>tl σ H fun x H1=>∃a,x=.ref a/\(∃xs,SqL K H1 a xs)/\R (Itl K a) H1
def iTup(K:xA9)(tl:TE):TI:=fun σ H R=>tl σ H fun x H1=>∃a,x=.ref a/\(∃xs,SqT K H1 a xs)/\R (Itt K a) H1
theorem vL{tl:TE}(hl:PE X l tl):PI X tg l (DC X.K tl):=by
 intro J0 s σ H R I h;refine thn (hl J0 s σ H _ I h) fun v s1 ⟨x,H1,O,U,q1⟩=>?_
 obtain⟨a,e,⟨xs,W⟩,q⟩:=q1;subst e;cases U;obtain⟨J3,Z,p,hz⟩:=O.list W;refine wpAny_pyIter_list p.isList ?_;refine⟨s1.heap.objs.size,[s1.heap.objs.size],_,_,H1,rfl,O.kept (t':=s1.toks) fun b o e=>gP _ e,pM a _,⟨_,qb9 _ rfl,rfl,rfl⟩,fun b hb=>?_,q⟩;have e:b=s1.heap.objs.size:=by simpa using hb
 subst e;exact O.fpOk (nL _) (O.hok.fresh (nL _))
theorem Aj{tl:TE}(hl:PE X l tl):PI X tg l (iTup X.K tl):=by
 intro J0 s σ H R I h;refine thn (hl J0 s σ H _ I h) fun v s1 ⟨x,H1,O,U,q1⟩=>?_
 obtain⟨a,e,⟨xs,W⟩,q⟩:=q1;subst e;cases U;obtain⟨J3,Z,p,hz⟩:=O.tuple W;refine qr3 (show s1.heap.IsTuple a J3.toArray from p) ?_;refine⟨s1.heap.objs.size,[s1.heap.objs.size],_,_,H1,rfl,O.kept (t':=s1.toks) fun b o e=>gP _ e,mz a _,⟨_,qb9 _ rfl,rfl,rfl⟩,fun b hb=>?_,q⟩;have e:b=s1.heap.objs.size:=by simpa using hb
 subst e;exact O.fpOk (nL _) (O.hok.fresh (nL _))
theorem qX{s:qb0}{R:It->Hp->Prop}{E:Value->qb0->Prop}{lo hi:Int}{t u v:Tok}{O:Nat}(I:Inv X J0 σ H s)(h1:-(2^62)<=lo)(h2:lo<2^62)(W:-(2^62)<=hi)(h4:hi<2^62)
 (q:R (Itr lo (hi-lo).toNat) H):wpAny (model X.prog X.w) X.A (pyIter (.ref s.heap.objs.size)) (PIE X J0 σ tg R) E {s with heap:=s.heap.push {cls:=.type "range",data:=.fields #[.int lo t,.int hi u,.int 1 v]},toks:=O}:=by
 refine wpAny_pyIter_range (IsRange.new ..) (small_one h1 h2 W h4) ?_;have U:Inv X J0 σ H {s with heap:=s.heap.push {cls:=.type "range",data:=.fields #[.int lo t,.int hi u,.int 1 v]},toks:=O}:=I.kept fun b o e=>gP _ e
 refine⟨(s.heap.push {cls:=.type "range",data:=.fields #[.int lo t,.int hi u,.int 1 v]}).objs.size,[(s.heap.push {cls:=.type "range",data:=.fields #[.int lo t,.int hi u,.int 1 v]}).objs.size],_,_,H,rfl,U.kept (t':=O) fun b o e=>gP _ e,mB _ lo (hi-lo).toNat,?_,fun b hb=>?_,q⟩
 .have Z:lo+((0:Nat):Int)*1=lo:=by simp
  have e2:(((hi-lo).toNat:Nat):Int)-((0:Nat):Int)=qj1.Range.rangeSize lo hi 1:=by rw[rangeSize_one];split<;>lia
  show IsRangeIter _ _ (lo+((0:Nat):Int)*1) ((((hi-lo).toNat:Nat):Int)-((0:Nat):Int)) 1;rw[Z,e2];exact qb9 _ rfl
 .have e:b=(s.heap.push {cls:=.type "range",data:=.fields #[.int lo t,.int hi u,.int 1 v]}).objs.size:=by simpa using hb
  subst e;exact U.fpOk (nL _) (U.hok.fresh (nL _))
def yI(ta:TA):TI:=fun σ H R=>ta σ H fun vs H1=>∃j:Int,vs=[.int j]/\-(2^62)<=j/\j<2^62/\R (Itr 0 j.toNat) H1
theorem pN{a:J6}{ta:TA}{p:Pos}(hg:Gl X "range")(Z:X.mg "range"=ψ)(ha:PA X [a] ta)(hs:qb3 [a] X.env=[(ξ,eval a X.env)]:=by rfl):PI X tg (.Call (.Name "range" p) [a] [] pos) (yI ta):=by
 intro J0 s σ H R I h;refine Call_ (gV I hg Z boot_range (qo2 (thn (ha pos J0 s σ H _ I h) fun us s1 ⟨vs,H1,O,W,q1⟩=>?_) hs rfl));obtain⟨j,e,q1,q2,q⟩:=q1;subst e;cases W with
 |cons r U=>cases U;obtain⟨t,rfl⟩:=r;exact call_range_1 (qX O Θ Θ q1 q2 (by simpa using q))
def tFor(wi:TI)(g:TG)(tb:TS):TS:=fun D σ H=>wi σ H fun J H1=>∃W:Nat->Nat->af->Hp->Prop,(∃m,W 0 m σ H1)/\∀i m σ H,W i m σ H→ (J.stop i H/\D.nx σ H)∨(J.go i H/\∃N:af->Hp->Prop,(∀O H',N O H'->∃Z,Z<m/\W (i+1) Z O H')/\∀x H',J.yld i H x H'->g x σ H' fun U H2=>tb {D with nx:=N,ct:=N,bk:=D.nx} U H2)
def fF(fp:η J4)(h:Heap):η (J4×Obj):=fp.filterMap fun b=>(h.get? b).map fun o=>(b,o)
theorem cJ{o:Obj}(hb:b∈fp)(e:h.get? b=ς o):(b,o)∈fF fp h:=qv5.mpr ⟨b,hb,by rw[e];rfl⟩
theorem pO{p:J4×Obj}(hp:p∈fF fp h):p.1∈fp/\h.get? p.1=ς p.2:=by
 obtain⟨b,hb,e⟩:=qv5.mp hp;cases q:h.get? b with
 |none=>rw[q]at e;cases e
 |some o=>rw[q]at e;have O:(b,o)=p:=qc9 e;subst O;exact⟨hb,q⟩
theorem Inv.pinned{s:qb0}(I:Inv X J0 σ H s)(hf:∀b∈fp,dS X J0 H b)(ho:∀b∈fp,∃o,s.heap.get? b=ς o/\∀v,o.data≠.cell v):Inv X (J0++fF fp s.heap) σ H s:=
 I.pins_of fun p hp=>(qf5.mp hp).elim (fun z=>I.pin p (qe3 _ z)) fun z=>by
  obtain⟨hb,e⟩:=pO z;obtain⟨Z,U,W,_⟩:=hf p.1 hb;obtain⟨o,O,d⟩:=ho p.1 hb;rw[e]at O;cases O
  exact⟨e,Z,U,W,d⟩
theorem Inv.unpinned{pl:η (J4×Obj)}{s:qb0}(I:Inv X (J0++pl) σ H s):Inv X J0 σ H s:=I.pins_of fun p hp=>I.pin p (qe3 _ (List.mem_append_left _ hp))
theorem Ak{iter:J6}{wi:TI}{g:TG}(hp:zb0 (model X.prog X.w) X.A X.env X.xe)(hc:X.calm=θ)(hi:PI X tg iter wi)(hg:PG X tg g)(hb:PSs X body tb)
 (hs:∀x,qh0 iter X.env x=pure x:=by intro _;rfl):PSBq X (.For tg iter body [] pos) (tFor wi g tb):=by
 intro J0 s σ H D I h;refine wpAny_For (thn (hi J0 s σ H _ I h) fun v s1 h1=>thn h1 fun itv s2 h2=>?_) hs;obtain⟨it,fp,tn,J,H2,e,I2,T,st2,f2,W,⟨m0,w0⟩,turn⟩:=h2;subst e
 -- what stays θ of the iterator's objects through the loop
 have Z:∀{H':Hp},(∀b∈fp,H' b=ψ)->∀b∈fp,dS X J0 H' b:=fun hn b hb=>⟨hn b hb,(f2 b hb).2⟩
 refine codeAny_forLoop_any (fun n s'=>∃i σ' H',Inv X J0 σ' H' s'/\tn i s'.heap/\(∀b∈fp,H' b=ψ)/\W i n σ' H') ?_ m0 ⟨0,σ,H2,I2,st2,fun b hb=>(f2 b hb).1,w0⟩;rintro n s3 ⟨i,σ3,H3,I3,st3,fr3,w3⟩;rcases turn i n σ3 H3 w3 with ⟨stop,qn⟩|⟨go,N,hN,step⟩
 .refine qm5 hp (thn (T.done X rfl rfl rfl hc i J0 s3 σ3 H3 X.xe I3 (Z fr3) st3 stop) fun r s4 ⟨hr,I4⟩=>?_);subst hr;exact za9 ⟨σ3,H3,I4,qn⟩
 .refine qm5 hp (thn (T.item X rfl rfl rfl hc i J0 s3 σ3 H3 X.xe I3 (Z fr3) st3 go) fun r s4 ⟨u,hr,h4⟩=>?_);subst hr;refine qm5 hp (thn h4 fun _ s5 ⟨x,H5,I5,r5,y5,st5,fr5⟩=>?_);have I5':=I5.pinned (Z fr5) (T.obj _ _ st5);refine qm5 hp (thn (hg _ s5 σ3 H5 x u _ I5' r5 (step x H5 y5)) fun _ s6 ⟨σ6,H6,I6,q6⟩=>?_);refine qm5 hp (thn (hb _ s6 σ6 H6 _ I6 q6) fun f s7 q7=>?_)
  have again:∀{O:af}{U:Hp},Inv X (J0++fF fp s5.heap) O U s7->N O U->∃m,m<n/\∃i σ' H',Inv X J0 σ' H' s7/\tn i s7.heap/\(∀b∈fp,H' b=ψ)/\W i m σ' H':=fun {O U} I7 n7=>by obtain⟨m',hm,w7⟩:=hN O U n7;refine⟨m',hm,i+1,O,U,I7.unpinned,T.keep _ _ _ st5 fun b hb o e=>(I7.pin (b,o) (qe3 _ (qe3 _ (cJ hb e)))).1,fun b hb=>?_,w7⟩;obtain⟨o,e,d⟩:=T.obj _ _ st5 b hb;exact(I7.pin (b,o) (qe3 _ (qe3 _ (cJ hb e)))).2.1
  cases f with
  |next=>obtain⟨O,U,I7,n7⟩:=q7;exact again I7 n7
  |cont=>obtain⟨O,U,I7,n7⟩:=q7;exact again I7 n7
  |brk=>obtain⟨O,U,I7,q7⟩:=q7;exact⟨O,U,I7.unpinned,q7⟩
  |ret v=>obtain⟨x7,O,U,I7,r7,q7⟩:=q7;exact⟨x7,O,U,I7.unpinned,r7,q7⟩
end
abbrev R2:=V->V->Hp->VK->Prop
def OpR(X:Cx)(f:Value->Value->Sem Value)(r:R2):Prop:=
 ∀(J0:η (J4×Obj))(s:qb0)(σ:af)(H:Hp)(x y:V)(v u:Value)(Q:VK),Inv X J0 σ H s->RelV x v->RelV y u->r x y H Q→
  wpAny (model X.prog X.w) X.A (f v u) (EP X J0 σ Q) X.xe s
def UnR(X:Cx)(f:Value->Sem Value)(r:V->Hp->VK->Prop):Prop:=
 ∀(J0:η (J4×Obj))(s:qb0)(σ:af)(H:Hp)(x:V)(v:Value)(Q:VK),Inv X J0 σ H s->RelV x v->r x H Q→
  wpAny (model X.prog X.w) X.A (f v) (EP X J0 σ Q) X.xe s
def CallR(X:Cx)(f:Value)(r:η V->Hp->VK->Prop):Prop:=
 ∀(J0:η (J4×Obj))(s:qb0)(σ:af)(H:Hp)(xs:η V)(us:η Value)(Q:VK),Inv X J0 σ H s->Vals xs us->r xs H Q→
  wpAny (model X.prog X.w) X.A (call f us) (EP X J0 σ Q) X.xe s
def TruR(X:Cx)(r:V->Hp->(Bool->Hp->Prop)->Prop):Prop:=
 ∀(J0:η (J4×Obj))(s:qb0)(σ:af)(H:Hp)(x:V)(v:Value)(Q:Bool->Hp->Prop),Inv X J0 σ H s->RelV x v->r x H Q→
  wpAny (model X.prog X.w) X.A (truthy v) (TP X J0 σ Q) X.xe s
def tOp(r:R2)(ta tb:TE):TE:=fun σ H Q=>ta σ H fun x H1=>tb σ H1 fun y H2=>r x y H2 Q
def tUn(r:V->Hp->VK->Prop)(ta:TE):TE:=fun σ H Q=>ta σ H fun x H1=>r x H1 Q
def gW(C:Int->Int->Prop)(g:Int->Int->V):R2:=fun x y H Q=>∃i j,x=.int i/\y=.int j/\C i j/\Q (g i j) H
def rI0(g:Int->Int->V):R2:=fun x y H Q=>∃i j,x=.int i/\y=.int j/\Q (g i j) H
def rU(g:Int->V):V->Hp->VK->Prop:=fun x H Q=>∃i,x=.int i/\Q (g i) H
variable{f:Value->Value->Sem Value}{r:R2}
section
variable{X:Cx}{a b c:J6}{ta tb tc:TE}{pos:Pos}
theorem Al(ha:PE X a ta)(hb:PE X b tb){s:qb0}(I:Inv X J0 σ H s)
 (h:ta σ H fun x H1=>tb σ H1 fun y H2=>R x y H2) 
 (hf:∀v u W x y H2,Inv X J0 σ H2 W->RelV x v->RelV y u->R x y H2->wpAny (model X.prog X.w) X.A (f v u) Q X.xe W) :
  wpAny (model X.prog X.w) X.A (eval a X.env) (fun v U=>wpAny (model X.prog X.w) X.A (eval b X.env) (fun u O=>wpAny (model X.prog X.w) X.A (f v u) Q X.xe O) X.xe U) X.xe s:=by
 refine thn (ha J0 s σ H _ I h) fun v s1 ⟨x,H1,I1,r1,q1⟩=>?_
 refine thn (hb J0 s1 σ H1 _ I1 q1) fun u W ⟨y,H2,Z,r2,q2⟩=>?_
 exact hf v u W x y H2 Z r1 r2 q2
theorem DD{op:qv3}(ho:OpR X (qh4 op) r)(ha:PE X a ta)(hb:PE X b tb):PE X (.BinOp a op b pos) (tOp r ta tb):=by intro J0 s σ H Q I h;exact wpAny_BinOp (Al ha hb I h fun v u O x y H2 U Z W q=>ho J0 O σ H2 x y v u Q U Z W q)
theorem DE{op:UnaryOp}{r:V->Hp->VK->Prop}(W:UnR X (unaryOp op) r)(Z:PE X a ta):PE X (.UnaryOp op a pos) (tUn r ta):=by intro J0 s σ H Q I h;exact UnaryOp_ (thn (Z J0 s σ H _ I h) fun v s1 ⟨x,H1,O,U,q1⟩=>W J0 s1 σ H1 x v Q O U q1)
theorem opI{C:Int->Int->Prop}{g:Int->Int->Int}
 (O:∀(i j:Int)(t u:Tok)(s:qb0)(Q E:Value->qb0->Prop),C i j->Q (.int (g i j) s.toks) {s with toks:=s.toks+1}->wpAny (model X.prog X.w) X.A (f (.int i t) (.int j u)) Q E s) :
  OpR X f (gW C fun i j=>.int (g i j)):=by
 intro J0 s σ H x y v u Q I W U h;obtain⟨i,j,rfl,rfl,hc,q⟩:=h;obtain⟨t,rfl⟩:=W;obtain⟨t',rfl⟩:=U;exact O i j t t' s _ _ hc ⟨.int (g i j),H,I.tok _,⟨_,rfl⟩,q⟩
theorem qY{g:Int->Int->Int}
 (O:∀(i j:Int)(t u:Tok)(s:qb0)(Q E:Value->qb0->Prop),Q (.int (g i j) s.toks) {s with toks:=s.toks+1}->wpAny (model X.prog X.w) X.A (f (.int i t) (.int j u)) Q E s) :
  OpR X f (rI0 fun i j=>.int (g i j)):=by
 intro J0 s σ H x y v u Q I W U h;obtain⟨i,j,rfl,rfl,q⟩:=h;obtain⟨t,rfl⟩:=W;obtain⟨t',rfl⟩:=U;exact O i j t t' s _ _ ⟨.int (g i j),H,I.tok _,⟨_,rfl⟩,q⟩
theorem opB0{g:Int->Int->Bool}
 (O:∀(i j:Int)(t u:Tok)(s:qb0)(Q E:Value->qb0->Prop),Q (.bool (g i j)) s->wpAny (model X.prog X.w) X.A (f (.int i t) (.int j u)) Q E s) :
  OpR X f (rI0 fun i j=>.bl (g i j)):=by
 intro J0 s σ H x y v u Q I W U h;obtain⟨i,j,rfl,rfl,q⟩:=h;obtain⟨t,rfl⟩:=W;obtain⟨t',rfl⟩:=U;exact O i j t t' s _ _ ⟨.bl (g i j),H,I,rfl,q⟩
def Am(i j:Int):Prop:=0<=j/\j<=1000000/\i.natAbs<2^64
def CMul(i j:Int):Prop:=(-(2^64)<i/\i<2^64)∨(-(2^64)<j/\j<2^64)
theorem CMul.ok{i j:Int}(h:CMul i j):IntMulOk i j:=by
 rcases h with ⟨h1,h2⟩|⟨h1,h2⟩
 .exact .of_left (intBits_le_64 h1 h2)
 .exact .of_right (intBits_le_64 h1 h2)
theorem mC(k:Nat):(0:Int)<=2^k:=by rw[two_pow_cast];exact Int.natCast_nonneg _
theorem An:OpR X (qh4 .Add) (rI0 fun i j=>.int (i+j)):=qY fun _ _ _ _ _ _ _ q=>add_int q
theorem Ao:OpR X (qh4 .Sub) (rI0 fun i j=>.int (i-j)):=qY fun _ _ _ _ _ _ _ q=>sub_int q
theorem Ap:OpR X (qh4 .Mult) (gW CMul fun i j=>.int (i*j)):=opI fun _ _ _ _ _ _ _ hc q=>mul_int q hc.ok
theorem Aq:OpR X (qh4 .Mod) (gW (fun _ j=>0<j) fun i j=>.int (i%j)):=opI fun i j _ _ _ _ _ hc q=>by have h1:(0:Int)<j:=hc;exact mod_int' Θ (by rw[Int.fmod_eq_emod_of_nonneg i Θ];exact q)
theorem Ar:OpR X (qh4 .Pow) (gW Am fun i j=>.int (i^j.toNat)):=opI fun _ _ _ _ _ _ _ hc q=>pow_int_small hc.1 hc.2.1 hc.2.2 q
theorem As:OpR X (qh4 .RShift) (gW (fun _ j=>0<=j) fun i j=>.int (i/2^j.toNat)):=opI fun i j _ _ _ _ _ hc q=>rshift_int hc (by rw[qv1 i (mC _)];exact q)
theorem Au:OpR X (qh4 .BitAnd) (rI0 fun i j=>.int (qw6 i j)):=qY fun _ _ _ _ _ _ _ q=>and_int q
theorem DF:OpR X (qh4 .BitOr) (rI0 fun i j=>.int (qj1.bitOr i j)):=qY fun _ _ _ _ _ _ _ q=>or_int q
theorem Av:OpR X (qh4 .BitXor) (rI0 fun i j=>.int (qj1.bitXor i j)):=qY fun _ _ _ _ _ _ _ q=>xor_int q
theorem unI {f:Value->Sem Value} {g:Int->Int}
  (O:∀(i:Int)(t:Tok)(s:qb0)(Q E:Value->qb0->Prop),Q (.int (g i) s.toks) {s with toks:=s.toks+1}->wpAny (model X.prog X.w) X.A (f (.int i t)) Q E s) :
  UnR X f (rU fun i=>.int (g i)):=by
 intro J0 s σ H x v Q I U h;obtain⟨i,rfl,q⟩:=h;obtain⟨t,rfl⟩:=U;exact O i t s _ _ ⟨.int (g i),H,I.tok _,⟨_,rfl⟩,q⟩
theorem Aw:UnR X (unaryOp .USub) (rU fun i=>.int (-i)):=unI fun _ _ _ _ _ q=>neg_int q
end
def Ax:V->V->Bool
 |.non,.non=>θ|.non,.int _=>θ|.int _,.non=>θ|.non,.bl _=>θ|.bl _,.non=>θ|.non,.str _=>θ|.str _,.non=>θ
 |.int _,.int _=>θ|.bl _,.bl _=>θ|.str _,.str _=>θ|.byt _,.byt _=>θ
 |.int _,.str _=>θ|.str _,.int _=>θ|.bl _,.str _=>θ|.str _,.bl _=>θ
 |_,_=>ξ
def rEq:R2:=fun x y H Q=>Ax x y=θ/\Q (.bl (decide (x=y))) H
def rNe:R2:=fun x y H Q=>Ax x y=θ/\Q (.bl (!decide (x=y))) H
theorem nV{i j:Int}:decide (V.int i=V.int j)=(i==j):=by rw[qr4];simp
theorem qZ{i j:Bool}:decide (V.bl i=V.bl j)=(i==j):=by rw[qr4];simp
theorem nW{i j:Str}:decide (V.str i=V.str j)=(i==j):=by rw[qr4];simp
theorem nX{i j:Array UInt8}:decide (V.byt i=V.byt j)=(i.toList==j.toList):=by rw[qr4];cases i;cases j;simp
section
variable{X:Cx}{a b c:J6}{ta tb tc:TE}{pos:Pos}
theorem aw{s:qb0}{Q:VK}{k k':Bool}(I:Inv X J0 σ H s)(q:Q (.bl k) H)(e:k=k'):EP X J0 σ Q (.bool k') s:=by subst e;exact⟨.bl k,H,I,rfl,q⟩
theorem DG:OpR X (qf0 .Eq) rEq:=by
 intro J0 s σ H x y v u Q I Z O h;obtain⟨U,q⟩:=h;cases x with
 |non=>
  cases Z;cases y with
  |non=>cases O;exact PySem.EqNone.eq_none_none (aw I q Ξ)
  |bl j=>cases O;exact PySem.EqNone.eq_none_bool (aw I q Ξ)
  |int j=>obtain⟨t',rfl⟩:=O;exact PySem.EqNone.eq_none_int (aw I q Ξ)
  |str j=>obtain⟨t',rfl⟩:=O;exact PySem.EqNone.eq_none_str (aw I q Ξ)
  |_=>exact absurd (show ξ=θ from U) qb7
 |bl i=>
  cases Z;cases y with
  |non=>cases O;exact PySem.EqNone.eq_bool_none (aw I q Ξ)
  |bl j=>cases O;exact eq_bool (aw I q qZ)
  |str j=>obtain⟨t',rfl⟩:=O;exact PySem.EqMixed.eq_bool_str (aw I q Ξ)
  |_=>exact absurd (show ξ=θ from U) qb7
 |int i=>
  obtain⟨t,rfl⟩:=Z;cases y with
  |non=>cases O;exact PySem.EqNone.eq_int_none (aw I q Ξ)
  |int j=>obtain⟨t',rfl⟩:=O;exact eq_int (aw I q nV)
  |str j=>obtain⟨t',rfl⟩:=O;exact PySem.EqMixed.eq_int_str (aw I q Ξ)
  |_=>exact absurd (show ξ=θ from U) qb7
 |str i=>
  obtain⟨t,rfl⟩:=Z;cases y with
  |non=>cases O;exact PySem.EqNone.eq_str_none (aw I q Ξ)
  |bl j=>cases O;exact PySem.EqMixed.eq_str_bool (aw I q Ξ)
  |int j=>obtain⟨t',rfl⟩:=O;exact PySem.EqMixed.eq_str_int (aw I q Ξ)
  |str j=>obtain⟨t',rfl⟩:=O;exact eq_str (aw I q nW)
  |_=>exact absurd (show ξ=θ from U) qb7
 |byt i=>
  obtain⟨t,rfl⟩:=Z;cases y with
  |byt j=>obtain⟨t',rfl⟩:=O;exact PySem.W.eq_bytes (aw I q nX)
  |_=>exact absurd (show ξ=θ from U) qb7
 |_=>cases y<;>exact absurd (show ξ=θ from U) qb7
theorem DH:OpR X (qf0 .NotEq) rNe:=by
 intro J0 s σ H x y v u Q I Z O h;obtain⟨U,q⟩:=h;cases x with
 |non=>
  cases Z;cases y with
  |non=>cases O;exact PySem.EqNone.ne_none_none (aw I q Ξ)
  |bl j=>cases O;exact PySem.EqNone.ne_none_bool (aw I q Ξ)
  |int j=>obtain⟨t',rfl⟩:=O;exact PySem.EqNone.ne_none_int (aw I q Ξ)
  |str j=>obtain⟨t',rfl⟩:=O;exact PySem.EqNone.ne_none_str (aw I q Ξ)
  |_=>exact absurd (show ξ=θ from U) qb7
 |bl i=>
  cases Z;cases y with
  |non=>cases O;exact PySem.EqNone.ne_bool_none (aw I q Ξ)
  |bl j=>cases O;exact ne_bool (aw I q (congrArg not qZ))
  |str j=>obtain⟨t',rfl⟩:=O;exact PySem.EqMixed.ne_bool_str (aw I q Ξ)
  |_=>exact absurd (show ξ=θ from U) qb7
 |int i=>
  obtain⟨t,rfl⟩:=Z;cases y with
  |non=>cases O;exact PySem.EqNone.ne_int_none (aw I q Ξ)
  |int j=>obtain⟨t',rfl⟩:=O;exact ne_int (aw I q (congrArg not nV))
  |str j=>obtain⟨t',rfl⟩:=O;exact PySem.EqMixed.ne_int_str (aw I q Ξ)
  |_=>exact absurd (show ξ=θ from U) qb7
 |str i=>
  obtain⟨t,rfl⟩:=Z;cases y with
  |non=>cases O;exact PySem.EqNone.ne_str_none (aw I q Ξ)
  |bl j=>cases O;exact PySem.EqMixed.ne_str_bool (aw I q Ξ)
  |int j=>obtain⟨t',rfl⟩:=O;exact PySem.EqMixed.ne_str_int (aw I q Ξ)
  |str j=>obtain⟨t',rfl⟩:=O;exact ne_str (aw I q (congrArg not nW))
  |_=>exact absurd (show ξ=θ from U) qb7
 |byt i=>
  obtain⟨t,rfl⟩:=Z;cases y with
  |byt j=>obtain⟨t',rfl⟩:=O;exact PySem.W.ne_bytes (aw I q (congrArg not nX))
  |_=>exact absurd (show ξ=θ from U) qb7
 |_=>cases y<;>exact absurd (show ξ=θ from U) qb7
theorem DI:OpR X (qf0 .Lt) (rI0 fun i j=>.bl (decide (i<j))):=opB0 fun _ _ _ _ _ _ _ q=>lt_int q
theorem DJ:OpR X (qf0 .Gt) (rI0 fun i j=>.bl (decide (j<i))):=opB0 fun _ _ _ _ _ _ _ q=>gt_int q
theorem pP:OpR X (qf0 .In) (fun x y H Q=>∃i j,x=.str i/\y=.str j/\Q (.bl (!(qr5 j i 0 j.length 1).isEmpty)) H):=by intro J0 s σ H x y v u Q I U O h;obtain⟨i,j,rfl,rfl,q⟩:=h;obtain⟨t,rfl⟩:=U;obtain⟨t',rfl⟩:=O;exact in_str (aw I q rfl)
theorem Ay:OpR X (qf0 .Is) (fun x y H Q=>y=.non/\Q (.bl (decide (x=.non))) H):=by
 intro J0 s σ H x y v u Q I O U h;obtain⟨rfl,q⟩:=h;cases U;refine is_none_gen (aw I q ?_)
 cases x<;>first
  |(cases O;rfl)
  |(obtain⟨t,rfl⟩:=O;rfl)
theorem vM:OpR X (qf0 .IsNot) (fun x y H Q=>y=.non/\Q (.bl (!decide (x=.non))) H):=by
 intro J0 s σ H x y v u Q I O U h;obtain⟨rfl,q⟩:=h;cases U;refine isnot_none_gen (aw I q ?_)
 cases x<;>first
  |(cases O;rfl)
  |(obtain⟨t,rfl⟩:=O;rfl)
theorem OpR.or{W:R2}(h:OpR X f r)(h':OpR X f W):OpR X f (fun x y H Q=>r x y H Q∨W x y H Q):=by
 intro J0 s σ H x y v u Q I U O q;rcases q with q|q
 .exact h J0 s σ H x y v u Q I U O q
 .exact h' J0 s σ H x y v u Q I U O q
theorem vN{op:CmpOp}(ho:OpR X (qf0 op) r)(ha:PE X a ta)(hb:PE X b tb)(hm:qy7 op b=ξ):PE X (.Compare a [op] [b] pos) (tOp r ta tb):=by intro J0 s σ H Q I h;exact wpAny_Compare1 (Al ha hb I h fun v u O x y H2 U Z W q=>ho J0 O σ H2 x y v u Q U Z W q) hm
def DK(t:TE):TT:=fun σ H Q=>t σ H fun x H'=>∃k,x=.bl k/\Q k H'
theorem vO{op:CmpOp}(ho:OpR X (qf0 op) r)(ha:PE X a ta)(hb:PE X b tb)(W:qy7 op b=ξ):PT X (.Compare a [op] [b] pos) (DK (tOp r ta tb)):=by
 intro J0 s σ H Q I h
 refine wpAny_isTrue_Compare1 (thn (ha J0 s σ H _ I h) fun v s1 ⟨x,H1,I1,r1,q1⟩=>thn (hb J0 s1 σ H1 _ I1 q1) fun u s2 ⟨y,H2,I2,U,q2⟩=>thn (ho J0 s2 σ H2 x y v u _ I2 r1 U q2) fun c s3 ⟨z,O,Z,r3,k,e,q3⟩=>?_) W
 subst e;cases r3;exact qs2 ⟨O,Z,q3⟩
def Az(K:xA9)(x:V)(H:Hp)(k:Bool):Prop:=
 match x with
 |.non=>k=ξ
 |.bl b=>k=b
 |.int i=>k=(i != 0)
 |.str y=>y.length<=qa9/\k=((y.length:Int) != 0)
 |.byt y=>y.size<=qa9/\k=((y.size:Int) != 0)
 |.ref p=>(∃xs,SqL K H p xs/\k=!xs.isEmpty)∨(∃xs,SqT K H p xs/\k=!xs.isEmpty)∨∃J1,H p=ς (.dK J1)/\k=!J1.isEmpty
 |_=>False
theorem mD{κ:Type}{J1:η (κ×V)}{vs:η (κ×Value)}(r:KV J1 vs):(!vs.isEmpty)=!J1.isEmpty:=by cases r<;>rfl
theorem gY{J3:η Value}(r:Vals xs J3):(!J3.toArray.isEmpty)=!xs.isEmpty:=by cases r<;>simp
theorem fG:(qa9:Nat)<2^63:=by rw[qa7];decide
theorem AA:TruR X (fun x H Q=>∃k,Az X.K x H k/\Q k H):=by
 intro J0 s σ H x v Q I rx h;obtain⟨k,e,q⟩:=h;have hl:=fG;have hs:qa9=16777216:=qa7;cases x with
 |non=>cases rx;have e':k=ξ:=e;subst e';exact truthy_none ⟨H,I,q⟩
 |bl b=>cases rx;have e':k=b:=e;subst e';exact qs2 ⟨H,I,q⟩
 |int i=>obtain⟨t,rfl⟩:=rx;have e':k=(i != 0):=e;subst e';exact PySem.P.truthy_int ⟨H,I,q⟩
 |str y=>obtain⟨t,rfl⟩:=rx;obtain⟨hy,e'⟩:y.length<=qa9/\k=((y.length:Int) != 0):=e;subst e';exact PySem.P.truthy_str Θ ⟨H,I.tok _,q⟩
 |byt y=>obtain⟨t,rfl⟩:=rx;obtain⟨hy,e'⟩:y.size<=qa9/\k=((y.size:Int) != 0):=e;subst e';exact PySem.W.truthy_bytes Θ ⟨H,I.tok _,q⟩
 |ref p=>
  cases rx;have e':(∃xs,SqL X.K H p xs/\k=!xs.isEmpty)∨(∃xs,SqT X.K H p xs/\k=!xs.isEmpty)∨∃J1,H p=ς (.dK J1)/\k=!J1.isEmpty:=e;rcases e' with ⟨xs,hx,e'⟩|⟨xs,hx,e'⟩|⟨J1,hx,e'⟩
  .subst e';obtain⟨J3,r,pl,hz⟩:=I.list hx;have hlen:=r.length;exact wpAny_truthy_list pl.isList (by simp only[qb6];lia) ⟨H,I.tok _,by rw[gY r];exact q⟩
  .subst e';obtain⟨J3,r,pl,hz⟩:=I.tuple hx;have hlen:=r.length;exact truthy_tuple pl (by simp only[qb6];lia) ⟨H,I.tok _,by rw[gY r];exact q⟩
  .subst e';obtain⟨hz,hS,vs,r,m⟩:J1.length<=qa9/\(p==qk1)=ξ/\∃vs,KV J1 vs/\s.heap.DictOf (av X.prog X.w) p vs:=I.hok p _ hx;have hlen:J1.length=vs.length:=Paired.length r;exact wpAny_truthy_dict hS m Θ ⟨H,I.tok _,by rw[mD r];exact q⟩
 |_=>exact(show False from e).elim
theorem re (ha:PE X a ta) (Z:∀ O,isTrue a X.env O=(do let v <- O;qw5 a.pos;qp1 [v] (truthy v))) :
  PT X a (fun σ H Q=>ta σ H fun x H'=>∃k,Az X.K x H' k/\Q k H'):=by
 intro J0 s σ H Q I h;exact isTrue_plain (thn (ha J0 s σ H _ I h) fun v s1 ⟨x,H1,U,W,q1⟩=>AA J0 s1 σ H1 x v Q U W q1) (Z _)
theorem mE:OpR X (qh4 .Add) (fun x y H Q=>∃i j,x=.str i/\y=.str j/\i.length+j.length<=qa9/\Q (.str (i++j)) H):=by intro J0 s σ H x y v u Q I U O h;obtain⟨i,j,rfl,rfl,W,q⟩:=h;obtain⟨t,rfl⟩:=U;obtain⟨t',rfl⟩:=O;exact add_str (fun t' Z=>⟨.str (i++j),H,I.tok _,⟨_,rfl⟩,q⟩) W
theorem cY{x:V}(r:Vals [x] us):∃u,us=[u]/\RelV x u:=by
 cases r with
 |cons U O=>cases O;exact⟨_,rfl,U⟩
theorem rh{x:V}(r:Vals [x,y] us):∃u w',us=[u,w']/\RelV x u/\RelV y w':=by
 cases r with
 |cons Z U=>
  cases U with
  |cons W O=>cases O;exact⟨_,_,rfl,Z,W⟩
theorem pQ(hc:X.calm=θ):CallR X (.builtin "min") (fun xs H Q=>∃i j,xs=[.int i,.int j]/\Q (.int (if j<i then j else i)) H):=by
 intro J0 s σ H xs us Q I r h;obtain⟨i,j,rfl,q⟩:=h;obtain⟨u,W,rfl,⟨t,rfl⟩,⟨t',rfl⟩⟩:=rh r;refine min_two_ints (I.ok.hd hc) fun h' U k=>⟨_,H,I.kept k,?_,q⟩
 by_cases O:j<i
 .rw[if_pos O,if_pos O];exact⟨_,rfl⟩
 .rw[if_neg O,if_neg O];exact⟨_,rfl⟩
theorem pR:CallR X (.type "int") (fun xs H Q=>(∃i,xs=[.int i]/\Q (.int i) H)∨∃k,xs=[.bl k]/\Q (.int (if k then 1 else 0)) H):=by
 intro J0 s σ H xs us Q I r h;rcases h with ⟨i,rfl,q⟩|⟨k,rfl,q⟩
 .obtain⟨u,rfl,t,rfl⟩:=cY r;exact call_int_int ⟨.int i,H,I,⟨_,rfl⟩,q⟩
 .obtain⟨u,rfl,O⟩:=cY r;cases O;exact call_int_bool ⟨.int (if k then 1 else 0),H,I.tok _,⟨_,rfl⟩,q⟩
def LenV(K:xA9)(x:V)(H:Hp)(n:Nat):Prop:=
 match x with
 |.str y=>y.length<=qa9/\n=y.length
 |.byt y=>y.size<=qa9/\n=y.size
 |.ref p=>(∃xs,SqL K H p xs/\n=xs.length)∨∃xs,SqT K H p xs/\n=xs.length
 |_=>False
theorem rj:CallR X (.builtin "len") (fun xs H Q=>∃x n,xs=[x]/\LenV X.K x H n/\Q (.int n) H):=by
 intro J0 s σ H xs us Q I r h;obtain⟨x,n,rfl,e,q⟩:=h;obtain⟨u,rfl,rx⟩:=cY r;have hl:=fG;have hs:qa9=16777216:=qa7;cases x with
 |str y=>obtain⟨t,rfl⟩:=rx;obtain⟨hy,e'⟩:y.length<=qa9/\n=y.length:=e;subst e';exact len_str Θ ⟨.int _,H,I.tok _,⟨_,rfl⟩,q⟩
 |byt y=>obtain⟨t,rfl⟩:=rx;obtain⟨hy,e'⟩:y.size<=qa9/\n=y.size:=e;subst e';exact PySem.W.len_bytes Θ ⟨.int _,H,I.tok _,⟨_,rfl⟩,q⟩
 |ref p=>
  cases rx;have e':(∃xs,SqL X.K H p xs/\n=xs.length)∨∃xs,SqT X.K H p xs/\n=xs.length:=e;rcases e' with ⟨xs,hx,e'⟩|⟨xs,hx,e'⟩
  .subst e';obtain⟨J3,r',pl,hz⟩:=I.list hx;have hlen:=r'.length;exact Calls.call_len_list pl.isList (by simp only[qb6];lia) ⟨.int xs.length,H,I.tok _,⟨_,by simp only[qb6];rw[hlen]⟩,q⟩
  .subst e';obtain⟨J3,r',pl,hz⟩:=I.tuple hx;have hlen:=r'.length;exact len_tuple pl (by simp only[qb6];lia) ⟨.int xs.length,H,I.tok _,⟨_,by simp only[qb6];rw[hlen]⟩,q⟩
 |_=>exact(show False from e).elim
end
structure ObjM(h:Heap)(x dx C:J4)(mA:Str->Option Value):Prop where
 obj:h.get? x=ς (xG9 C dx)
 ns:h.Ns1 dx mA
 ne:dx≠x
variable{dx:J4}{mA:Str->ζ Value}
theorem pS(n:h.Ns1 dx mA):∃U,h.get? dx=ς U/\∀name,xL9 name U=ς (mA name):=by
 obtain⟨o,es,ep,ho,Z,hk,_,hm⟩:=n;refine⟨o,ho,fun name=>?_⟩;have e:=hm name;unfold nsFind findBy at e;rw[<- Array.find?_toList]at e;unfold xL9;rw[Z];dsimp only;split
 .rename_i y q;rw[q]at e;exact congrArg ς e
 .rename_i q;rw[q]at e
  have a:es.toList.any (·.refKey)=ξ:=by rw[List.any_eq_false];intro y hy;obtain⟨z,t,O⟩:=hk y (Array.mem_toList_iff.mp hy);simp[DictEntry.refKey,O]
  have a':¬ es.toList.any (·.refKey)=θ:=by rw[a];exact qb7
  rw[if_neg a'];exact congrArg ς e
variable{C:J4}
theorem ObjM.look{x:J4}(I:ObjM h x dx C mA):∃O,PySem.W.InstAt h x (xG9 C dx) C (ς O)/\∀name,xL9 name O=ς (mA name):=
 let ⟨O,ho,hl⟩:=pS I.ns
 ⟨O,⟨I.obj,rfl,rfl,ho⟩,hl⟩
variable{kw:η (Str×Value)}
section
variable{prog:qe7}{w:J5}{A:ql3}{E:Value->qb0->Prop}{s:qb0}{K:xA9}{x dx C f:J4}{mA:Str->ζ Value}{name:Str}{v:Value}
theorem vP{O:Bool}(X:K.In s.heap)(I:ObjM s.heap x dx C mA)(hg:xJ9 K C name=θ)(Z:xM9 K C=θ)
 (ha:xB9 K (.ref C) name=ς ψ) (hv:mA name=ς v) (U:PySem.W.handedIn v=θ) (h:Q v {s with toks:=s.toks+1}) :
  wpAny (model prog w) A (getAttr (.ref x) name O) Q E s:=by
 obtain⟨od,J,hl⟩:=I.look;exact PySem.W.get_value X J (xP9 hg).1 (PySem.W.findObj_own Z ha rfl (by rw[hl,hv])) U h
theorem rA {pl:Sem Bool} {Q:Value×η Value->qb0->Prop} (X:K.In s.heap) (I:ObjM s.heap x dx C mA) (O:xJ9 K C name=θ)
  (U:xB9 K (.ref C) name=ς (ς (.ref f))) (Z:xH9 K (.ref f)=θ) (hv:mA name=ψ) (h:Q (.ref f,[.ref x]) s) :
  wpAny (model prog w) A (qu4 (.ref x) name pl) Q E s:=by
 obtain⟨od,J,hl⟩:=I.look;exact PySem.W.method_fn X J (xP9 O).1 (xP9 O).2 U (beq_iff_eq.mp Z) (by show(xL9 name od).map (·.isSome)=ς ξ;rw[hl,hv];rfl) h
theorem vQ {ns:η Str} {Q:Unit->qb0->Prop} (X:K.In s.heap) (I:ObjM s.heap x dx C mA)
  (hs:xB9 K (.ref C) "__setattr__"=ς (ς (.builtin "object.__setattr__"))) (hp:xQ9 K C=θ) (ht:xR9 K C name=ς ψ) (hh:xM9 K C=θ)
  (hw:PySem.Within mA ns) (hsz:ns.length<=qa9)
  (h:∀h',ObjM h' x dx C (fun y=>if y=name then ς v else mA y)->qg0 dx s.heap h'->Q () {s with heap:=h',toks:=s.toks+2}) :
  wpAny (model prog w) A (setAttr (.ref x) name v) Q E s:=by
 obtain⟨od,J,hl⟩:=I.look;refine PySem.W.set_plain X J hs (PySem.W.osa_open (s:={s with toks:=s.toks+1}) (r:=ψ) X J hp ht fun b=>?_);obtain⟨cd,hc,hd'⟩:=PySem.W.any_some hh;have hx:s.heap.get? x=ς ⟨.ref C,ς dx,.plain,#[]⟩:=I.obj;refine wB (qa6 (wB (wB (wpAny_loadPart hx (wB (PySem.W.Looks.here (s:={s with toks:=s.toks+1}) (PySem.W.looks_clsIn X hc) ?_))))));rw[hd'];refine qa6 (a:=ς dx) (wB (qa6 (wB ?_)));refine wpAny_nsSet1 (s:={s with toks:=s.toks+1}) I.ns fun h' O U=>?_
 obtain⟨oD,esD,epD,hoD,hdD,Z⟩:=O.count (PySem.Within.cons name v hw);refine wB (wpAny_lookBehind hoD (by rw[hdD];exact pastItsLine_dict (qd1 Z (by rw[qb8];lia))) ?_);exact qa6 (h _ ⟨(U.2 _ (qk5 I.ne)).trans I.obj,O,I.ne⟩ U)
theorem rB{R:Result->qb0->Prop}{vs:η Value}(X:K.In s.heap)(Z:xS9 K C=θ)
 (hi:xB9 K (.ref C) "__init__"=ς (ς (.ref f))) (U:PySem.W.typeIn K (.ref f)=ς (.type "function"))
 (h:qu5 (model prog w) (A.under (.builtin "type.__call__" ⟨.ref C::vs,kw⟩)) (.call (.ref f) ⟨.ref (s.heap.objs.size+1)::vs,kw⟩) (PySem.W.InitBack (s.heap.objs.size+1) R)
 {s with heap:=(s.heap.push xF9).push (xG9 C s.heap.objs.size)}) :
  qu5 (model prog w) A (.call (.ref C) ⟨vs,kw⟩) R s:=by
 obtain⟨hh,g,d,t,os⟩:=s;exact PySem.W.make_core (PySem.W.makes_of X Z) (PySem.W.looks_findIn X hi) (fun O=>PySem.W.bind_fn X O U) (.inl rfl) h
end
def bI(f:Str)(v:V):η (Str×V)->η (Str×V)
 |[]=>[(f,v)]
 |(g,x)::r=>if g=f then(g,v)::r else(g,x)::bI f v r
theorem gf(f g:Str)(v:V):∀fs:η (Str×V),(bI f v fs).lookup g=if g=f then ς v else fs.lookup g
 |[]=>by
  show qg8 g [(f,v)]=_;by_cases h:g=f
  .have hb:(g==f)=θ:=beq_iff_eq.mpr h;simp only[qg8,hb,if_pos h]
  .have hb:(g==f)=ξ:=beq_eq_false_iff_ne.mpr h;simp only[qg8,hb,if_neg h]
 |(k,x)::r=>by
  have U:=gf f g v r;rw[show bI f v ((k,x)::r)=(if k=f then(k,v)::r else(k,x)::bI f v r)from rfl];by_cases O:k=f
  .rw[if_pos O];by_cases h:g=k
   .have hb:(g==k)=θ:=beq_iff_eq.mpr h;simp only[qg8,hb,if_pos (h.trans O)]
   .have hb:(g==k)=ξ:=beq_eq_false_iff_ne.mpr h;simp only[qg8,hb,if_neg (fun e:g=f=>h (e.trans O.symm))]
  .rw[if_neg O];by_cases h:g=k
   .have hb:(g==k)=θ:=beq_iff_eq.mpr h;simp only[qg8,hb,if_neg (fun e:g=f=>O (h.symm.trans e))]
   .have hb:(g==k)=ξ:=beq_eq_false_iff_ne.mpr h;simp only[qg8,hb];exact U
theorem fH(f:Str)(v:V):∀fs:η (Str×V),f∈(bI f v fs).map (·.1)/\∀g,g∈fs.map (·.1)->g∈(bI f v fs).map (·.1)
 |[]=>⟨by simp[bI],fun g h=>by simp at h⟩
 |(k,x)::r=>by
  obtain⟨U,W⟩:=fH f v r;rw[show bI f v ((k,x)::r)=(if k=f then(k,v)::r else(k,x)::bI f v r)from rfl];by_cases O:k=f
  .rw[if_pos O];subst O;exact⟨Ξ,fun g h=>by simpa using h⟩
  .rw[if_neg O];refine⟨?_,fun g h=>?_⟩
   .rw[qa3];exact qe6 _ U
   .rw[qa3]at h ⊢;rcases qc4.mp h with e|e
    .exact qc4.mpr (.inl e)
    .exact qe6 _ (W g e)
theorem gi(f:Str)(v:V):∀fs:η (Str×V),(bI f v fs).length<=fs.length+1
 |[]=>by simp[bI]
 |(k,x)::r=>by
  have U:=gi f v r;rw[show bI f v ((k,x)::r)=(if k=f then(k,v)::r else(k,x)::bI f v r)from rfl];by_cases O:k=f
  .rw[if_pos O,qb8,qb8];lia
  .rw[if_neg O,qb8,qb8];lia
theorem RelO.some_of{v:V}{o:ζ Value}(r:RelO (ς v) o):∃u,o=ς u/\RelV v u:=by
 cases o with
 |none=>exact(show False from r).elim
 |some u=>exact⟨u,rfl,r⟩
theorem RelO.none_of{o:ζ Value}(r:RelO ψ o):o=ψ:=by
 cases o with
 |none=>rfl
 |some u=>exact(show False from r).elim
theorem pT{v:V}(r:RelV v u):PySem.W.handedIn u=θ:=by
 cases v with
 |non=>cases (show u=qg2 from r);rfl
 |bl b=>cases (show u=qs1 b from r);rfl
 |int i=>obtain⟨t,e⟩:=(show ∃t,u=zd7 i t from r);cases e;rfl
 |str x=>obtain⟨t,e⟩:=(show ∃t,u=zd8 x t from r);cases e;rfl
 |byt b=>obtain⟨t,e⟩:=(show ∃t,u=Value.bytes b t from r);cases e;rfl
 |flt b=>obtain⟨t,e⟩:=(show ∃t,u=Value.float b t from r);cases e;rfl
 |ref a=>cases (show u=qc1 a from r);rfl
 |ty n=>cases (show u=qo7 n from r);rfl
section
variable{P:qe7}{w:J5}{H H':Hp}{h h':Heap}{a C dx:J4}{fs fs':η (Str×V)}
theorem gw(O:HOk P w H h)(e:H a=ς (.ins C dx fs)):∃mA,ObjM h a dx C mA/\(∀f,RelO (fs.lookup f) (mA f))/\PySem.Within mA (fs.map (·.1))/\fs.length<=1000/\H dx=ς (.own a):=by obtain⟨d,z,U,ob,mA,n,r,q⟩:=(show ObjOk P w H h a (.ins C dx fs)from O a _ e);exact⟨mA,⟨ob,n,U⟩,r,q,z,d⟩
end
structure Cls(K:xA9)(C:J4):Prop where
 pg:xJ9 K C Str.empty=θ
 hd:xM9 K C=θ
 po:xQ9 K C=θ
 sa:xB9 K (.ref C) "__setattr__"=ς (ς (.builtin "object.__setattr__"))
theorem Cls.get(c:Cls K C)(f:Str):xJ9 K C f=θ:=c.pg
def NoAttr(K:xA9)(C:J4)(f:Str):Prop:=xB9 K (.ref C) f=ς ψ
theorem NoAttr.taker{f:Str}(n:NoAttr K C f):xR9 K C f=ς ψ:=by unfold xR9;rw[show xB9 K (.ref C) f=ς ψ from n];rfl
structure Meth(K:xA9)(C:J4)(m:Str)(f:J4):Prop where
 at_:xB9 K (.ref C) m=ς (ς (.ref f))
 fn:xH9 K (.ref f)=θ
 kp:xD9 K (.ref f)=θ
variable{m:Str}
section
variable{X:Cx}{J0:η (J4×Obj)}{σ:af}{H:Hp}{s:qb0}{a C dx:J4}{fs:η (Str×V)}{f:Str}{v:V}{A:ql3}{E:Value->qb0->Prop}
theorem gZ{b:Bool}(I:Inv X J0 σ H s)(e:H a=ς (.ins C dx fs))(c:Cls X.K C)(n:NoAttr X.K C f)(l:fs.lookup f=ς v)
 (h:∀u s',Inv X J0 σ H s'->RelV v u->Q u s'):wpAny (model X.prog X.w) A (getAttr (.ref a) f b) Q E s:=by
 obtain⟨mA,O,r,_,_,_⟩:=gw I.hok e;obtain⟨u,W,U⟩:=RelO.some_of (v:=v) (o:=mA f) (by rw[<- l];exact r f);exact vP I.kIn O (c.get f) c.hd n W (pT U) (h u _ (I.tok _) U)
theorem dU{g:J4}{pl:Sem Bool}{Q:Value×η Value->qb0->Prop}(I:Inv X J0 σ H s)(e:H a=ς (.ins C dx fs))(c:Cls X.K C)(k:Meth X.K C m g)(l:fs.lookup m=ψ)
 (h:Q (.ref g,[.ref a]) s):wpAny (model X.prog X.w) A (qu4 (.ref a) m pl) Q E s:=by
 obtain⟨mA,O,r,_,_,_⟩:=gw I.hok e;have U:mA m=ψ:=RelO.none_of (by rw[<- l];exact r m);exact rA I.kIn O (c.get m) k.at_ k.fn U h
theorem g9{Q:Unit->qb0->Prop}(I:Inv X J0 σ H s)(e:H a=ς (.ins C dx fs))(c:Cls X.K C)(n:NoAttr X.K C f)(hl:fs.length<1000)(ry:RelV y u)
 (h:∀s',Inv X J0 σ (upd H a (.ins C dx (bI f y fs))) s'->Q () s'):wpAny (model X.prog X.w) A (setAttr (.ref a) f u) Q E s:=by
 obtain⟨mA,O,r,wi,_,W⟩:=gw I.hok e;have hz:(fs.map (·.1)).length<=qa9:=by rw[qa4,qa7];lia
 refine vQ I.kIn O c.sa c.po n.taker c.hd wi hz fun h' U sb=>h _ ?_
 have Z:∃o,h'.get? dx=ς o:=let ⟨o,_,_,e',_⟩:=U.ns;⟨o,e'⟩;refine I.write (x:=a) (e:=dx) (by rw[e];exact qk8) (.inr W) (fun b q hb z=>(sb.2 b hb).trans z) Z ?_;refine⟨by rw[ai O.ne];exact W,?_,O.ne,U.obj,_,U.ns,fun g=>?_,fun g hg=>?_⟩
 .have:=gi f y fs;lia
 .show RelO ((bI f y fs).lookup g) (if g=f then ς u else mA g);rw[gf];by_cases q:g=f
  .rw[if_pos q,if_pos q];exact ry
  .rw[if_neg q,if_neg q];exact r g
 .by_cases q:g=f
  .rw[q];exact(fH f y fs).1
  .refine(fH f y fs).2 g (wi g fun z=>hg ?_);show(if g=f then ς u else mA g)=ψ;rw[if_neg q];exact z
theorem Inv.made (I:Inv X J0 σ H s):Inv X J0 σ (upd (upd H s.heap.objs.size (.own (s.heap.objs.size+1))) (s.heap.objs.size+1) (.ins C s.heap.objs.size []))
  {s with heap:=(s.heap.push xF9).push (xG9 C s.heap.objs.size)}:=by
 have U:(s.heap.push xF9).get? s.heap.objs.size=ς xF9:=qb9 s.heap rfl
 have e2:((s.heap.push xF9).push (xG9 C s.heap.objs.size)).get? (s.heap.objs.size+1)=ς (xG9 C s.heap.objs.size):=by
  have:=qb9 (s.heap.push xF9) (o:=xG9 C s.heap.objs.size) rfl
  rwa [qn6]at this
 have e3:(s.heap.push xF9).Ns s.heap.objs.size (fun _=>ψ):=⟨xF9,#[],_,U,rfl,(fun e he=>absurd he Ξ),fun _=>rfl⟩;have Z:=I.laid (a:=s.heap.objs.size) (o:=.own (s.heap.objs.size+1)) (h':=s.heap.push xF9) (t':=s.toks) (fun b u q=>gP _ q) (nL _) ⟨_,U⟩;refine Z.laid (a:=s.heap.objs.size+1) (o:=.ins C s.heap.objs.size []) (t':=s.toks) (fun b u q=>gP _ q) (Nat.le_of_eq (qn6 _ _)) ?_;have O:s.heap.objs.size≠s.heap.objs.size+1:=qc2 (qp7 _);refine⟨by rw[ai O,ah],qg9 _,O,e2,fun _=>ψ,(Heap.Ns1.of_empty e3).at fun o q=>gP _ q,fun _=>qk8,fun y hy=>absurd rfl hy⟩
theorem vR{prog:qe7}{w:J5}{env:Env}{f:Str}{s:qb0}(hb:qh5 e f env (eval e env)=eval e env)
 (h:wpAny (model prog w) A (eval e env) (fun o O=>wpAny (model prog w) A (getAttr o f θ) Q E O) E s):wpAny (model prog w) A (eval (.Attribute e f pos) env) Q E s:=
 Attribute_any_ h (by rw[arm_eval_Attribute,hb])
end
def tFld(K:xA9)(ta:TE)(f:Str):TE:=fun σ H Q=>ta σ H fun x H1=>∃a C dx fs v,x=.ref a/\H1 a=ς (.ins C dx fs)/\Cls K C/\NoAttr K C f/\fs.lookup f=ς v/\Q v H1
def sFld(K:xA9)(ta tv:TE)(f:Str):TS:=fun D σ H=>tv σ H fun y H1=>ta σ H1 fun x H2=>∃a C dx fs,x=.ref a/\H2 a=ς (.ins C dx fs)/\Cls K C/\NoAttr K C f/\fs.length<1000∧D.nx σ (upd H2 a (.ins C dx (bI f y fs)))
def InOp(X:Cx)(op:qv3)(rd:V->V->Hp->VK->Prop):Prop:=∀(J0:η (J4×Obj))(s:qb0)(σ:af)(H:Hp)(x y:V)(u v:Value)(Q:VK),Inv X J0 σ H s->RelV x u->RelV y v->rd x y H Q->wpAny (model X.prog X.w) X.A (inplaceOp op u v) (EP X J0 σ Q) X.xe s
def vS(K:xA9)(ta tv:TE)(rd:V->V->Hp->VK->Prop)(f:Str):TS:=fun D σ H=>ta σ H fun x H1=>∃a C dx fs v,x=.ref a/\H1 a=ς (.ins C dx fs)/\Cls K C/\NoAttr K C f/\fs.lookup f=ς v∧tv σ H1 fun y H2=>rd v y H2 fun z U=>∃O fs',U a=ς (.ins C O fs')/\fs'.length<1000/\D.nx σ (upd U a (.ins C O (bI f z fs')))
section
variable{X:Cx}{o e value:J6}{f:Str}{pos pos' tpos:Pos}{ta tv:TE}
theorem AB(he:PE X e ta)(hb:qh5 e f X.env (eval e X.env)=eval e X.env):PE X (.Attribute e f pos) (tFld X.K ta f):=by intro J0 s σ H Q I h;refine vR hb (thn (he J0 s σ H _ I h) fun u s1 ⟨x,H1,U,Z,a,C,dx,fs,v,ex,ea,c,n,l,q⟩=>?_);subst ex;obtain rfl:u=qc1 a:=Z;exact gZ U ea c n l fun u' s2 O W=>⟨v,H1,O,W,q⟩
theorem AC(ha:PE X o ta)(hv:PE X value tv)(hs:qi6 value (ς (.Attribute o f pos')) pos.line X.env=pure ξ):PSBq X (.Assign [.Attribute o f pos'] value pos) (sFld X.K ta tv f):=by intro J0 s σ H D I h;refine plainObj_wpAny_Assign_Attribute (thn (hv J0 s σ H _ I h) fun u s1 ⟨y,H1,I1,U,q⟩=>thn (ha J0 s1 σ H1 _ I1 q) fun O s2 ⟨x,H2,I2,W,a,C,dx,fs,ex,Z,c,n,l,q2⟩=>?_) hs;subst ex;obtain rfl:O=qc1 a:=W;exact g9 I2 Z c n l U fun s3 I3=>⟨σ,_,I3,q2⟩
theorem pU{op:qv3}{rd:V->V->Hp->VK->Prop}(ha:PE X o ta)(hv:PE X value tv)(O:InOp X op rd):PSBq X (.AugAssign (.Attribute o f tpos) op value pos) (vS X.K ta tv rd f):=by
 intro J0 s σ H D I h;refine wpAny_AugAssign_AttributeAny (thn (ha J0 s σ H _ I h) fun W s1 ⟨x,H1,I1,rx,a,C,dx,fs,v,ex,ea,c,n,l,q⟩=>?_);subst ex;obtain rfl:W=qc1 a:=rx;refine gZ I1 ea c n l fun u s2 I2 ru=>thn (hv J0 s2 σ H1 _ I2 q) fun Z s3 ⟨y,H2,I3,ry,q3⟩=>thn (O J0 s3 σ H2 v y u Z _ I3 ru ry q3) fun w4 s4 ⟨z,H3,I4,rz,dx',fs',U,l',q4⟩=>?_
 exact g9 I4 U c n l' rz fun s5 I5=>⟨σ,_,I5,q4⟩
theorem yJ{pl:Sem Bool}{apos:Pos}{args:η J6}{s:qb0}(he:PE X e te)(I:Inv X J0 σ H s)
 (h:te σ H fun x H1=>∃a C dx fs g,x=.ref a/\H1 a=ς (.ins C dx fs)/\Cls X.K C/\Meth X.K C m g/\fs.lookup m=ψ∧
 ∀s1,Inv X J0 σ H1 s1->wpAny (model X.prog X.w) X.A (zc7 pos (.ref g) [.ref a] (qh3 pos (qb3 args X.env)) (qo8 pos (qi2 [] X.env))) Q X.xe s1)
 (ht:eval (.Call (.Attribute e m apos) args [] pos) X.env=(do
 let ov <- eval e X.env
 qw5 apos.atName
 let (f,first) <- qp1 [ov] (qu4 ov m pl)
 zc7 pos f first (qh3 pos (qb3 args X.env)) (qo8 pos (qi2 [] X.env)))) :
  wpAny (model X.prog X.w) X.A (eval (.Call (.Attribute e m apos) args [] pos) X.env) Q X.xe s:=by
 refine xT9 (pl:=pl) (thn (he J0 s σ H _ I h) fun u s1 ⟨x,H1,O,U,a,C,dx,fs,g,ex,Z,c,k,l,q⟩=>?_) ht;subst ex;obtain rfl:u=qc1 a:=U;exact dU O Z c k l (q s1 O)
end
section
variable{X:Cx}{J0:η (J4×Obj)}{σ:af}{H:Hp}{s:qb0}{A:ql3}{E Q:Value->qb0->Prop}{c:Value}{b:Bool}
inductive TyOf(K:xA9)(H:Hp):V->Value->Prop where
 |non:TyOf K H .non (.type "NoneType")
 |bl (x:Bool):TyOf K H (.bl x) (.type "bool")
 |int (i:Int):TyOf K H (.int i) (.type "int")
 |str (x:Str):TyOf K H (.str x) (.type "str")
 |flt (x:UInt64):TyOf K H (.flt x) (.type "float")
 |e {a:J4} {xs:List V} (e:H a=ς (.e xs)):TyOf K H (.ref a) (.type "list")
 |frz {a:J4} {o:Obj} {xs:List V} (e:H a=ς (.frz o (.e xs))):TyOf K H (.ref a) (.type "list")
 |t {a:J4} {xs:List V} (e:H a=ς (.t xs)):TyOf K H (.ref a) (.type "tuple")
 |dK {a:J4} {J1:List (Key×V)} (e:H a=ς (.dK J1)):TyOf K H (.ref a) (.type "dict")
 |dT {a:J4} {J1:List (List Key×V)} (e:H a=ς (.dT J1)):TyOf K H (.ref a) (.type "dict")
 | ins {a C dx:J4} {fs:List (Str×V)} (e:H a=ς (.ins C dx fs)) (cl:Cls K C) (ha:xB9 K (.ref C) "__class__"=ς (ς (.builtin "object.__class__")))
     (hn:PySem.W.specialIn K (.builtin "object.__class__") "__get__"=ς (ς (.builtin "getset_descriptor.__get__"))) (htk:PySem.W.takesIn K (.builtin "object.__class__")=ς θ)
     (hm:PySem.W.mroIn K C (.type "object")=ς θ):TyOf K H (.ref a) (.ref C)
theorem dC {x:V} {t:Value} (I:Inv X J0 σ H s) (U:RelV x u) (ty:TyOf X.K H x t) (e:xI9 X.K t c=ς b) (h:∀ tk,Q (.bool b) {s with toks:=tk}) :
  wpAny (model X.prog X.w) A (call (.builtin "isinstance") [u,c]) Q E s:=by
 cases ty with
 |non=>cases (show u=qg2 from U);exact xC9 PySem.W.kitx_none I.kIn qk8 e (fun z=>nomatch z) h
 |bl y=>cases (show u=qs1 y from U);exact xC9 PySem.W.kitx_bool I.kIn qk8 e (fun z=>nomatch z) h
 |int i=>obtain⟨t,q⟩:=(show ∃t,u=zd7 i t from U);cases q;exact xC9 PySem.W.kitx_int I.kIn qk8 e (fun z=>nomatch z) h
 |str y=>obtain⟨t,q⟩:=(show ∃t,u=zd8 y t from U);cases q;exact xC9 PySem.W.kitx_str I.kIn qk8 e (fun z=>nomatch z) h
 |flt y=>obtain⟨t,q⟩:=(show ∃t,u=Value.float y t from U);cases q;exact xC9 PySem.W.kitx_float I.kIn qk8 e (fun z=>nomatch z) h
 |@e a xs Z=>cases (show u=qc1 a from U);obtain⟨_,_,n,_,h1⟩:=(show ObjOk X.prog X.w H s.heap a (.e xs)from I.hok a _ Z);exact xC9 xU9 I.kIn ⟨_,h1,rfl⟩ e (fun z=>nomatch z) h
 |@frz a ob xs Z=>cases (show u=qc1 a from U);obtain⟨_,_,_,n,_,h1⟩:=(show ObjOk X.prog X.w H s.heap a (.frz ob (.e xs))from I.hok a _ Z);exact xC9 xU9 I.kIn ⟨_,h1,rfl⟩ e (fun z=>nomatch z) h
 |@t a xs Z=>cases (show u=qc1 a from U);obtain⟨_,_,_,p⟩:=(show ObjOk X.prog X.w H s.heap a (.t xs)from I.hok a _ Z);obtain⟨o,h1,h2,_⟩:=p.1;exact xC9 PySem.W.kitx_tuple I.kIn ⟨o,h1,h2⟩ e (fun z=>nomatch z) h
 |@dK a J1 Z=>cases (show u=qc1 a from U);obtain⟨_,_,vs,_,p⟩:=(show ObjOk X.prog X.w H s.heap a (.dK J1)from I.hok a _ Z);obtain⟨o,es,ep,h1,h2,_⟩:=p;exact xC9 xN9 I.kIn ⟨o,h1,h2.1⟩ e (fun z=>nomatch z) h
 |@dT a J1 Z=>cases (show u=qc1 a from U);obtain⟨_,_,xs,_,o,es,ep,h1,h2,_⟩:=(show ObjOk X.prog X.w H s.heap a (.dT J1)from I.hok a _ Z);exact xC9 xN9 I.kIn ⟨o,h1,h2.1⟩ e (fun z=>nomatch z) h
 |@ins a C dx fs Z cl ha hn htk hm=>cases (show u=qc1 a from U);obtain⟨mA,O,_⟩:=gw I.hok Z;obtain⟨od,J,_⟩:=O.look;exact xC9 (PySem.W.kitx_own (cl.get _) cl.hd ha hn htk hm) I.kIn J e (fun z=>nomatch z) h
end
structure Room(k:Nat)(A:ql3):Prop where
 hd:A.handled=ψ
 dp:A.depth+3*k+5<recursionLimit
 un:A.units+16*k+200<cLine
theorem Room.mono{k:Nat}(r:Room k A)(h:j<=k):Room j A:=⟨r.hd,by have:=r.dp;lia,by have:=r.un;lia⟩
theorem Room.deeper{k:Nat}(r:Room (k+1) A)(env:Env):Room k (A.deeper env):=⟨r.hd,by have:=r.dp;show A.depth+1+3*k+5<_;lia,by have:=r.un;show A.units+3+16*k+200<_;lia⟩
theorem mF:(A.under (.builtin "type.__call__" ⟨.ref C::us,kw⟩)).depth=A.depth+1:=by first|rfl|simp[zf3,Code.weight,Code.isCreation,Code.isGuard,Code.isCaller,Code.frames,zf4,guardIds]
theorem mG:(A.under (.builtin "type.__call__" ⟨.ref C::us,kw⟩)).units=A.units+1:=by first|rfl|simp[zf3,Code.cUnits,Code.frames,zf4]
theorem Room.make{k:Nat}(r:Room (k+1) A)(C:J4)(us:η Value)(kw:η (Str×Value)):Room k (A.under (.builtin "type.__call__" ⟨.ref C::us,kw⟩)):=⟨r.hd,by have:=r.dp;rw[mF];lia,by have:=r.un;rw[mG];lia⟩
theorem Room.depth{k:Nat}(r:Room k A):A.depth<recursionLimit:=by have:=r.dp;lia
theorem Room.units{k:Nat}(r:Room k A):A.units+64<cLine:=by have:=r.un;lia
def mH:TA:=fun _ H Q=>Q [] H
def DL(ta:TE)(tr:TA):TA:=fun σ H Q=>ta σ H fun x H1=>tr σ H1 fun xs H2=>Q (x::xs) H2
section
variable{X:Cx}{e:J6}{es:η J6}{te:TE}{t:TA}{pos:Pos}
theorem cK:PA X [] mH:=fun _ _ _ _ H Q I h=>Calls.spliced_nil ⟨[],H,I,.nil,h⟩
theorem bF(ha:PE X e te)(Z:PA X es t)(hs:qb3 (e::es) X.env=(ξ,eval e X.env)::qb3 es X.env:=by rfl):PA X (e::es) (DL te t):=by intro pos J0 s σ H Q I h;rw[hs];show wpAny _ _ (spliced ((ξ,eval e X.env)::qh3 pos (qb3 es X.env))) _ _ s;refine qv6 (thn (ha J0 s σ H _ I h) fun u s1 ⟨x,H1,U,r1,q1⟩=>?_);exact thn (Z pos J0 s1 σ H1 _ U q1) fun us s2 ⟨xs,H2,O,W,q2⟩=>⟨x::xs,H2,O,.cons r1 W,q2⟩
def tTup(t:TA):TE:=fun σ H Q=>t σ H fun xs H1=>xs.length<=qa9/\∀p,H1 p=ψ->Q (.ref p) (upd H1 p (.t xs))
def tLst(t:TA):TE:=fun σ H Q=>t σ H fun xs H1=>xs.length<=qa9/\∀p,H1 p=ψ->Q (.ref p) (upd H1 p (.e xs))
theorem AD{x1}(h:PA X es t):PE X (.Tuple es x1 pos) (tTup t):=by intro J0 s σ H Q I U;refine wpAny_Tuple_spliced (thn (h pos J0 s σ H _ I U) fun us s1 ⟨xs,H1,O,r,z,q⟩=>⟨by rw[<- r.length];exact z,?_⟩);have W:H1 s1.heap.objs.size=ψ:=O.hok.fresh (nL _);refine⟨.ref s1.heap.objs.size,upd H1 s1.heap.objs.size (.t xs),O.laid (t':=s1.toks) (fun b u e=>gP _ e) (nL _) ?_,rfl,q _ W⟩;exact⟨z,us,r,.new _ _⟩
theorem AE(h:PA X es t):PE X (.List es pos) (tLst t):=by intro J0 s σ H Q I U;refine wpAny_List_spliced (thn (h pos J0 s σ H _ I U) fun us s1 ⟨xs,H1,O,r,z,q⟩=>⟨by rw[<- r.length];exact z,?_⟩);have W:H1 s1.heap.objs.size=ψ:=O.hok.fresh (nL _);refine⟨.ref s1.heap.objs.size,upd H1 s1.heap.objs.size (.e xs),O.laid (t':=s1.toks) (fun b u e=>gP _ e) (nL _) ?_,rfl,q _ W⟩;exact⟨z,us,0,r,qb9 _ rfl⟩
end
abbrev Sp:=η V->Hp->VK->XK->Prop
abbrev CXT:=η Env->Hp->qb0->XK->Value->qb0->Prop
structure Env0(P:qe7)(w:J5)(K:xA9)(mg:Str->Option Value)(base:Heap)(A:ql3)(outer:List Env)(s:qb0)(H:Hp):Prop where
 frames:A.frames=ς outer
 mod:Mod K mg base
 bs:∀b o,base.get? b=ς o->s.heap.get? b=ς o/\H b=ψ
 bsz:base.objs.size<=s.heap.objs.size
 funs:s.heap.FunFrames base outer
 frf:∀b∈frs outer,H b=ψ
 hok:HOk P w H s.heap
 bare:za8 s.gens
 tb:∀p∈k8 K,H p.1=ς (.ctab p.2)
def CE(outer:η Env)(P:qe7)(w:J5)(H:Hp)(s:qb0)(Q:VK)(u:Value)(s':qb0):Prop:=∃v H',s'.os=s.os/\za8 s'.gens/\Un (frs outer) [] H H' s.heap s'.heap/\HOk P w H' s'.heap/\RelV v u/\Q v H'
def CR(CX:CXT)(outer:η Env)(P:qe7)(w:J5)(H:Hp)(s:qb0)(Q:VK)(E:XK)(r:Result)(s':qb0):Prop:=
 match r with
 |.ok (.ret u)=>CE outer P w H s Q u s'
 |.ok _=>False
 |.error e=>CX outer H s E e s'
structure FnOk(P:qe7)(w:J5)(K:xA9)(mg:Str->Option Value)(base:Heap)(CX:CXT)(k:Nat)(f:J4)(fd:qn1)(ps:List Str)(sp:Sp):Prop where
 len:∀vs H Q E,sp vs H Q E->vs.length=ps.length
 run:∀(A:ql3)(outer:List Env)(s:qb0)(H:Hp)(args:Args)(us:List Value)(vs:List V)(Q:VK)(E:XK),Room k A->Env0 P w K mg base A outer s H->zg3 s fd args (ps.zip us)->Vals vs us->sp vs H Q E→
  qu5 (model P w) A (.call (.ref f) args) (CR CX outer P w H s Q E) s
variable{mg:Str->ζ Value}{base:Heap}{CX:CXT}{ps:η Str}{sp:Sp}
theorem FnOk.mono {w:J5} {k:Nat} {f:J4} {fd:qn1} (F:FnOk P w K mg base CX j f fd ps sp) (h:j<=k) :
  FnOk P w K mg base CX k f fd ps sp:=⟨F.len,fun A outer s H args us vs Q E O=>F.run A outer s H args us vs Q E (O.mono h)⟩
theorem FnOk.imp{w:J5}{k:Nat}{f:J4}{fd:qn1}{O:Sp}(F:FnOk P w K mg base CX k f fd ps sp)
 (h:∀vs H Q E,O vs H Q E->sp vs H Q E):FnOk P w K mg base CX k f fd ps O:=
 ⟨fun vs H Q E q=>F.len vs H Q E (h _ _ _ _ q),fun A outer s H args us vs Q E U he hb Z W=>F.run A outer s H args us vs Q E U he hb Z (h _ _ _ _ W)⟩
variable{outer:η Env}
theorem Env0.make {w:J5} {s:qb0} (e:Env0 P w K mg base A outer s H) (C:J4) (us:η Value) (kw:η (Str×Value)) :
  Env0 P w K mg base (A.under (.builtin "type.__call__" ⟨.ref C::us,kw⟩)) outer s H:=⟨by first|exact e.frames|(simpa[zf3,Code.envs,zf4,pushEnvs] using e.frames),e.mod,e.bs,e.bsz,e.funs,e.frf,e.hok,e.bare,e.tb⟩
section
variable{X:Cx}{J0:η (J4×Obj)}{σ:af}{H:Hp}{s s':qb0}
theorem Inv.env0(I:Inv X J0 σ H s):Env0 X.prog X.w X.K X.mg X.base X.A X.stack s H:=⟨I.ok.frames,I.ok.mod,I.bs,qd1 I.ok.bsz I.sz,I.stack,I.stkFree,I.hok,I.bare,fun p hp=>I.base.cts _ _ (I.ok.tb p hp)⟩
theorem Inv.after{Q:VK}(I:Inv X J0 σ H s)(h:CE X.stack X.prog X.w H s Q u s'):EP X J0 σ Q u s':=by obtain⟨v,H',os,O,un,U,r,q⟩:=h;obtain⟨Z,g,d,t,W⟩:=s';obtain rfl:W=s.os:=os;exact⟨v,H',I.call (h':=Z) (g':=g) (d':=d) (t':=t) (ch:=[]) un U O (fun b z=>absurd z Ξ),r,q⟩
end
def i7(sp:Sp)(dvs:η V)(E:XK)(t:TA):TE:=fun σ H Q=>t σ H fun vs H1=>sp (vs++dvs) H1 Q E
def rC(C:J4)(m:Str)(sp:Sp)(dvs:η V)(E:XK)(ta:TE)(t:TA):TE:=fun σ H Q=>ta σ H fun x H1=>∃a dx fs,x=.ref a/\H1 a=ς (.ins C dx fs)/\fs.lookup m=ψ∧t σ H1 fun vs H2=>sp (x::(vs++dvs)) H2 Q E
def rD(C:J4)(sp:Sp)(dvs:η V)(E:XK)(t:TA):TE:=fun σ H Q=>t σ H fun vs H1=>∀x dx,H1 x=ψ->H1 dx=ψ->dx≠x→
 sp (.ref x::(vs++dvs)) (upd (upd H1 dx (.own x)) x (.ins C dx [])) (fun v H2=>v=.non/\Q (.ref x) H2) E
def Binds(K:xA9)(fd:qn1)(ps:η Str)(ds:η Value):Prop:=∀(s:qb0)(us:η Value),K.In s.heap->(us++ds).length=ps.length->zg3 s fd ⟨us,[]⟩ (ps.zip (us++ds))
theorem Binds.all{fd:qn1}(h:∀us:η Value,us.length=ps.length->ze1 fd ⟨us,[]⟩=pure (ps.zip us)):Binds K fd ps []:=fun s us _ hl=>by rw[qh6]at hl ⊢;exact .of_eq (h us hl)
def cL(CX:CXT)(X:Cx)(E:XK):Prop:=∀(J0:η (J4×Obj))(σ:af)(H:Hp)(s:qb0)(e:Value)(s':qb0),Inv X J0 σ H s->CX X.stack H s E e s'->X.xe e s'
variable{vs:η V}
section
variable{X:Cx}{CX:CXT}{k:Nat}{f C:J4}{fd:qn1}{ps:η Str}{sp:Sp}{dvs:η V}{ds:η Value}{E:XK}{x m:Str}{p pos apos:Pos}{e o:J6}{es:η J6}{ta:TE}{t:TA}
theorem jO{s:qb0}{Q:VK}(F:FnOk X.prog X.w X.K X.mg X.base CX k f fd ps sp)(hr:Room k X.A)(hb:Binds X.K fd ps ds)(Z:Vals dvs ds)(W:cL CX X E)
 (I:Inv X J0 σ H s) (r:Vals vs us) (h:sp (vs++dvs) H Q E):wpAny (model X.prog X.w) X.A (call (.ref f) us) (EP X J0 σ Q) X.xe s:=by
 have U:Vals (vs++dvs) (us++ds):=r.append Z;have hl:(us++ds).length=ps.length:=by rw[<- U.length];exact F.len _ _ _ _ h
 refine wpAny_call (zb2 (F.run X.A X.stack s H ⟨us,[]⟩ (us++ds) (vs++dvs) Q E hr I.env0 (hb s us I.kIn hl) U h) fun r s' O=>?_);cases r with
 |error e=>exact W J0 σ H s e s' I O
 |ok fl=>
  cases fl with
  |ret u=>exact I.after O
  |next=>exact qk2 O
  |brk=>exact qk2 O
  |cont=>exact qk2 O
theorem nY (F:FnOk X.prog X.w X.K X.mg X.base CX k f fd ps sp) (hr:Room k X.A) (hg:Gl X x) (hm:X.mg x=ς (.ref f)) (hk:xD9 X.K (.ref f)=θ) (hb:Binds X.K fd ps ds) (hd:Vals dvs ds) (hx:cL CX X E)
  (ha:PA X (e::es) t) (O:(x==("__debug__":Str))=ξ:=by decide) (he:qb3 (e::es) X.env=(ξ,eval e X.env)::qb3 es X.env:=by rfl) (U:(qh3 pos (qb3 es X.env)).any (·.1)=ξ:=by rfl) :
  PE X (.Call (.Name x p) (e::es) [] pos) (i7 sp dvs E t):=by
 intro J0 s σ H Q I h;refine ql4 (et I hg hm ?_ O);refine xV9 (h₀:=X.base) I.ok.mod.kin hk (thn (ha pos J0 s σ H _ I h) fun us s1 ⟨vs,H1,Z,r,q⟩=>⟨Z.kIn,?_⟩) he U;exact jO F hr hb hd hx Z r q
theorem rE (F:FnOk X.prog X.w X.K X.mg X.base CX k f fd ps sp) (hr:Room k X.A) (hg:Gl X x) (hm:X.mg x=ς (.ref f)) (hk:xD9 X.K (.ref f)=θ) (hb:Binds X.K fd ps ds) (Z:Vals dvs ds) (U:cL CX X E)
  (O:(x==("__debug__":Str))=ξ:=by decide):PE X (.Call (.Name x p) [] [] pos) (i7 sp dvs E mH):=by
 intro J0 s σ H Q I h;refine ql4 (et I hg hm ?_ O);exact xW9 I.kIn hk (jO (us:=[]) F hr hb Z U I .nil h)
theorem vT {pl:Sem Bool} (he:PE X o ta) (c:Cls X.K C) (Z:Meth X.K C m f) (F:FnOk X.prog X.w X.K X.mg X.base CX k f fd ps sp) (hr:Room k X.A) (hb:Binds X.K fd ps ds) (hd:Vals dvs ds) (hx:cL CX X E) (ha:PA X (e::es) t)
  (O:qb3 (e::es) X.env=(ξ,eval e X.env)::qb3 es X.env:=by rfl) (U:(qh3 pos (qb3 es X.env)).any (·.1)=ξ:=by rfl)
  (ht:eval (.Call (.Attribute o m apos) (e::es) [] pos) X.env=(do
   let ov <- eval o X.env
   qw5 apos.atName
   let (f,first) <- qp1 [ov] (qu4 ov m pl)
   zc7 pos f first (qh3 pos (qb3 (e::es) X.env)) (qo8 pos (qi2 [] X.env))):=by rfl) :
  PE X (.Call (.Attribute o m apos) (e::es) [] pos) (rC C m sp dvs E ta t):=by
 intro J0 s σ H Q I h;refine xT9 (pl:=pl) (thn (he J0 s σ H _ I h) fun u s1 ⟨x,H1,I1,rx,a,dx,fs,ex,ea,l,q⟩=>?_) ht;subst ex;obtain rfl:u=qc1 a:=rx;refine dU I1 ea c Z l ?_;refine xV9 (first:=[.ref a]) (h₀:=X.base) I.ok.mod.kin Z.kp (thn (ha pos J0 s1 σ H1 _ I1 q) fun us s2 ⟨vs,H2,I2,r,q2⟩=>⟨I2.kIn,?_⟩) O U;exact jO (us:=.ref a::us) (vs:=.ref a::vs) F hr hb hd hx I2 (.cons rfl r) q2
theorem rF {pl:Sem Bool} (he:PE X o ta) (c:Cls X.K C) (U:Meth X.K C m f) (F:FnOk X.prog X.w X.K X.mg X.base CX k f fd ps sp) (hr:Room k X.A) (hb:Binds X.K fd ps ds) (hd:Vals dvs ds) (Z:cL CX X E)
  (ht:eval (.Call (.Attribute o m apos) [] [] pos) X.env=(do
   let ov <- eval o X.env
   qw5 apos.atName
   let (f,first) <- qp1 [ov] (qu4 ov m pl)
   zc7 pos f first (qh3 pos (qb3 [] X.env)) (qo8 pos (qi2 [] X.env))):=by rfl) :
  PE X (.Call (.Attribute o m apos) [] [] pos) (rC C m sp dvs E ta mH):=by
 intro J0 s σ H Q I h;refine xT9 (pl:=pl) (thn (he J0 s σ H _ I h) fun u s1 ⟨x,H1,O,rx,a,dx,fs,ex,ea,l,q⟩=>?_) ht;subst ex;obtain rfl:u=qc1 a:=rx;refine dU O ea c U l ?_;exact xW9 (first:=[.ref a]) O.kIn U.kp (jO (us:=[.ref a]) (vs:=[.ref a]) F hr hb hd Z O (.cons rfl .nil) q)
structure Mk(K:xA9)(C f:J4):Prop where
 makes:xS9 K C=θ
 init:xB9 K (.ref C) "__init__"=ς (ς (.ref f))
 fn:xH9 K (.ref f)=θ
 kp:xD9 K (.ref C)=θ
theorem k9{s:qb0}{Q:VK}(M:Mk X.K C f)(F:FnOk X.prog X.w X.K X.mg X.base CX k f fd ps sp)(hr:Room (k+1) X.A)(hb:Binds X.K fd ps ds)(hd:Vals dvs ds)
 (hx:cL CX X E) (I:Inv X J0 σ H s) (r:Vals vs us)
 (h:∀x dx,H x=ψ->H dx=ψ->dx≠x->sp (.ref x::(vs++dvs)) (upd (upd H dx (.own x)) x (.ins C dx [])) (fun v H2=>v=.non/\Q (.ref x) H2) E) :
  wpAny (model X.prog X.w) X.A (call (.ref C) us) (EP X J0 σ Q) X.xe s:=by
 have Z:=h (s.heap.objs.size+1) s.heap.objs.size (I.hok.fresh (qi3 _)) (I.hok.fresh (nL _)) (qc2 (qp7 _));have U:=Inv.made (C:=C) I;have W:Vals (V.ref (s.heap.objs.size+1)::(vs++dvs)) (qc1 (s.heap.objs.size+1)::(us++ds)):=.cons rfl (r.append hd)
 have hl:(qc1 (s.heap.objs.size+1)::us++ds).length=ps.length:=by have e:=W.length;rw[F.len _ _ _ _ Z]at e;exact e.symm
 refine wpAny_call (rB (f:=f) I.kIn M.makes M.init (beq_iff_eq.mp M.fn) (zb2 (F.run _ X.stack _ _ ⟨qc1 (s.heap.objs.size+1)::us,[]⟩ (qc1 (s.heap.objs.size+1)::(us++ds)) _ _ E (hr.make C us [])
  (U.env0.make C us []) (hb _ (qc1 (s.heap.objs.size+1)::us) U.kIn hl) W Z) fun r s' O=>?_))
 cases r with
 |error e=>exact hx J0 σ _ _ e s' U O
 |ok fl=>
  cases fl with
  |ret u=>obtain⟨v,H',I3,rv,ev,q3⟩:=U.after O;subst ev;exact⟨rv,⟨V.ref (s.heap.objs.size+1),H',I3,rfl,q3⟩⟩
  |next=>exact qk2 O
  |brk=>exact qk2 O
  |cont=>exact qk2 O
theorem vU (M:Mk X.K C f) (F:FnOk X.prog X.w X.K X.mg X.base CX k f fd ps sp) (hr:Room (k+1) X.A) (hg:Gl X x) (hm:X.mg x=ς (.ref C)) (hb:Binds X.K fd ps ds) (hd:Vals dvs ds) (hx:cL CX X E)
  (ha:PA X (e::es) t) (O:(x==("__debug__":Str))=ξ:=by decide) (he:qb3 (e::es) X.env=(ξ,eval e X.env)::qb3 es X.env:=by rfl) (U:(qh3 pos (qb3 es X.env)).any (·.1)=ξ:=by rfl) :
  PE X (.Call (.Name x p) (e::es) [] pos) (rD C sp dvs E t):=by
 intro J0 s σ H Q I h;refine ql4 (et I hg hm ?_ O);refine xV9 (h₀:=X.base) I.ok.mod.kin M.kp (thn (ha pos J0 s σ H _ I h) fun us s1 ⟨vs,H1,Z,r,q⟩=>⟨Z.kIn,?_⟩) he U;exact k9 M F hr hb hd hx Z r q
theorem rG (M:Mk X.K C f) (F:FnOk X.prog X.w X.K X.mg X.base CX k f fd ps sp) (hr:Room (k+1) X.A) (hg:Gl X x) (hm:X.mg x=ς (.ref C)) (hb:Binds X.K fd ps ds) (Z:Vals dvs ds) (U:cL CX X E)
  (O:(x==("__debug__":Str))=ξ:=by decide):PE X (.Call (.Name x p) [] [] pos) (rD C sp dvs E mH):=by
 intro J0 s σ H Q I h;refine ql4 (et I hg hm ?_ O);exact xW9 I.kIn M.kp (k9 (us:=[]) M F hr hb Z U I .nil h)
end
structure FnScope(N P:List Str)(sc:J8):Prop where
 kind:sc.kind=.function
 co:sc.isCoroutine=ξ
 gen:sc.isGenerator=ξ
 nd:N.Nodup
 pre:N.take P.length=P
 par:∀x∈P,sc.names.lookup x=ς .local∨sc.names.lookup x=ς .cell
 nofree:∀y∈sc.names,y.2≠.free
variable{kindOf:Str->ζ qv7}
theorem i8:∀{binds:η (Str×Value)}{m:Str->ζ Value},(∀v,(x,v)∉binds)->bindL kindOf binds m x=m x
 |[],_,_=>rfl
 |(n,v)::r,m,h=>by
  unfold bindL;rw[i8 fun w hw=>h w (qe6 _ hw)];split
  .have:x≠n:=by rintro rfl;exact h v qj0
   simp[this]
  .rfl
theorem i9:∀{binds:η (Str×Value)}{m:Str->ζ Value},(∀v,(x,v)∉binds)->bindC kindOf binds m x=m x
 |[],_,_=>rfl
 |(n,v)::r,m,h=>by
  unfold bindC;rw[i9 fun w hw=>h w (qe6 _ hw)];split
  .rfl
  .have:x≠n:=by rintro rfl;exact h v qj0
   simp[this]
theorem ja {v:Value}:∀ {P:η Str} {vs:η Value} {i:Nat} {m:Str->ζ Value},P.Nodup->P[i]?=ς x->vs[i]?=ς v->kindOf x=ς .local→
  bindL kindOf (P.zip vs) m x=ς v
 |[],_,_,_,_,h,_,_=>by simp at h
 |_::_,[],_,_,_,_,h,_=>by simp at h
 |p::P,w::vs,0,m,nd,h1,h2,hk=>by
  simp at h1 h2;subst h1;subst h2
  show bindL kindOf ((p,w)::P.zip vs) m p=_;unfold bindL;rw[i8 fun v hv=>(qd6.mp nd).1 (zb3 hv).1,if_pos hk];simp
 |p::P,w::vs,i+1,m,nd,h1,h2,hk=>by show bindL kindOf ((p,w)::P.zip vs) m x=_;unfold bindL;exact ja (i:=i) (qd6.mp nd).2 (by simpa using h1) (by simpa using h2) hk
theorem jb {v:Value}:∀ {P:η Str} {vs:η Value} {i:Nat} {m:Str->ζ Value},P.Nodup->P[i]?=ς x->vs[i]?=ς v->kindOf x≠ς .local→
  bindC kindOf (P.zip vs) m x=ς v
 |[],_,_,_,_,h,_,_=>by simp at h
 |_::_,[],_,_,_,_,h,_=>by simp at h
 |p::P,w::vs,0,m,nd,h1,h2,hk=>by
  simp at h1 h2;subst h1;subst h2
  show bindC kindOf ((p,w)::P.zip vs) m p=_;unfold bindC;rw[i9 fun v hv=>(qd6.mp nd).1 (zb3 hv).1,if_neg hk];simp
 |p::P,w::vs,i+1,m,nd,h1,h2,hk=>by show bindC kindOf ((p,w)::P.zip vs) m x=_;unfold bindC;exact jb (i:=i) (qd6.mp nd).2 (by simpa using h1) (by simpa using h2) hk
def dN(N:η Str)(vs:η V):af:=vs.map ς++qb1 (N.length-vs.length) ψ
def pV(CX:CXT)(P:qe7)(w:J5)(K:xA9)(mg:Str->ζ Value)(base:Heap)(N:η Str)(qual:Str)(scope:J8)(f:J4)(cd:Value)(A:ql3)(outer:η Env)(s:qb0)(H:Hp)(E:XK):Cx where
 prog:=P
 w:=w
 K:=K
 mg:=mg
 base:=base
 A:=A.deeper (zg4 qual scope s.heap.objs.size f cd)
 N:=N
 s₀:=s
 H₀:=H
 env:=zg4 qual scope s.heap.objs.size f cd
 outer:=outer
 stack:=zg4 qual scope s.heap.objs.size f cd::outer
 ex:=[]
 calm:=true
 fn:=fun _=>θ
 pn:=[]
 xe:=fun e s'=>wpAny (model P w) (A.deeper (zg4 qual scope s.heap.objs.size f cd)) (leaving (zg4 qual scope s.heap.objs.size f cd) e) (fun _ O=>CX outer H s E e O) (fun U O=>CX outer H s E U O) s'
theorem lb{sc:J8}(h:sc.names.lookup x=ς .cell):∃c,(cellsFrom n sc.names []).lookup x=ς c:=by have q:=PySem.W.cellsFrom_some sc.names n [] (.inl h);exact qd5.mp q
variable{qual:Str}{scope:J8}
theorem pW{w:J5}{f:J4}{cd:Value}{s s1:qb0}{E:XK} 
 (S:FnScope N ps scope) (hd:A.handled=ψ) (O:Env0 P w K mg base A outer s H) (hl:vs.length=ps.length) (r:Vals vs us)
 (x:InCallC s s.heap.objs.size (bindL (zg4 qual scope s.heap.objs.size f cd).kindOf (ps.zip us) fun _=>ψ) (cellsFrom (s.heap.objs.size+1) scope.names []) (bindC (zg4 qual scope s.heap.objs.size f cd).kindOf (ps.zip us) fun _=>ψ) s1) :
  Inv (pV CX P w K mg base N qual scope f cd A outer s H E) [] (dN N vs) H s1:=by
 have hpl:ps.length<=N.length:=by have:=congrArg qm0 S.pre;rw[qk9]at this;lia
 obtain⟨h1,tk,rfl,hk⟩:=x.done;have U:∀b:J4,b∉(pV CX P w K mg base N qual scope f cd A outer s H E).ex:=fun b z=>absurd (show b∈([]:η J4)from z) Ξ
 refine⟨⟨O.mod,S.kind,rfl,rfl,nL _,fun y z c h1 h2=>?_,fun y W=>?_,fun y c _ h=>?_,fun _=>hd,ql3.frames_deeper O.frames,.inr ⟨rfl,rfl⟩,fun b z=>absurd z (U b),O.bs,O.bsz,fun b _ _=>U b,fun b z=>absurd z (U b),O.funs,O.frf,O.tb⟩,rfl,O.bare,Un.kept hk,⟨_,x.toInCall.ns,fun i y v h1 h2 h3=>?_⟩,fun y c h=>⟨_,x.cell y c h⟩,O.hok.fresh (qu2 _),fun y c h=>?_,fun p hp=>absurd (show p∈([]:η (J4×Obj))from hp) Ξ,O.hok.kept hk,?_⟩
 .exact name_of_addr x.apart (PySem.mem_of_lookup h1) (PySem.mem_of_lookup h2)
 .have W:scope.names.lookup y=ς .cell∨scope.names.lookup y=ς .free:=W;rcases W with W|W
  .exact lb W
  .exact absurd rfl (S.nofree _ (PySem.mem_of_lookup W))
 .exact qq6 (x.above y c (PySem.mem_of_lookup h))
 .have hi:i<vs.length:=by
   unfold dN at h2;by_cases hi:i<vs.length
   .exact hi
   .rw[qe1 (by simpa using hi)]at h2;rw[List.getElem?_replicate]at h2;split at h2<;>cases h2
  have ha:vs[i]?=ς v:=by
   unfold dN at h2;rw[qg3 (by simpa using hi),qa8]at h2;cases e:vs[i]? with
   |none=>rw[e]at h2;cases h2
   |some a=>rw[e]at h2;cases h2;rfl
  obtain⟨u,hu,rv⟩:=r.get ha
  have hp:ps[i]?=ς y:=by rw[<- S.pre,qq7 Θ];exact h1
  have Z:ps.Nodup:=by rw[<- S.pre];exact S.nd.sublist (qo9 _ _)
  refine⟨u,rv,?_⟩;rcases S.par y (qa5 hp)with k|k
  .exact .inl ⟨k,ja Z hp hu k⟩
  .obtain⟨c,e⟩:=lb (n:=s.heap.objs.size+1) k;refine .inr ⟨.inl k,c,e,?_⟩;have q:=x.cell y c e;rw[jb Z hp hu (by show scope.names.lookup y≠_;rw[k];decide)]at q;exact q
 .exact O.hok.fresh (qq6 (x.above y c (PySem.mem_of_lookup h)))
 .unfold dN;show _=N.length;rw[qc5,qa4,List.length_replicate];lia
theorem DM{w:J5}{k:Nat}{f:J4}{name:Str}{U:Arguments}{dV kV doc pm O ct oc:Value}{an od:ζ J4}
 {osl:Array (ζ Value)} (lk:K.lookup f=ς ⟨oc,od,.func (PySem.W.fnOf name qual U body scope dV kV doc pm an O ct),osl⟩) (hcd:PySem.W.codeIn K O qual=θ) (S:FnScope N ps scope)
 (len:∀vs H Q E,sp vs H Q E->vs.length=ps.length)
 (hbody:∀(A:ql3)(outer:η Env)(s:qb0)(H:Hp)(vs:η V)(Q:VK)(E:XK),Room k (A.deeper (zg4 qual scope s.heap.objs.size f O))->sp vs H Q E→
 ∃t,PSs (pV CX P w K mg base N qual scope f O A outer s H E) body t/\t {nx:=fun _ H'=>Q .non H',rt:=Q} (dN N vs) H) :
  FnOk P w K mg base CX (k+1) f (PySem.W.fnOf name qual U body scope dV kV doc pm an O ct) ps sp:=by
 refine⟨len,fun A outer s H args us vs Q E hr e0 hb r hsp=>?_⟩;have hl:=len _ _ _ _ hsp;have KX:K.In s.heap:=e0.mod.kin.keeps fun b o e=>(e0.bs b o e).1
 have lim:s.heap.NoLimit:=e0.mod.nolimit.keeps fun b o e=>(e0.bs b o e).1
 have hkind:∀y∈ps.zip us,scope.names.lookup y.1=ς .local∨(scope.names.lookup y.1=ς .cell/\((cellsFrom (s.heap.objs.size+1) scope.names []).lookup y.1).isSome=θ):=fun⟨n,v⟩ hy=>by
  rcases S.par n (zb3 hy).1 with q|q
  .exact .inl q
  .exact .inr ⟨q,PySem.W.cellsFrom_some _ _ _ (.inl q)⟩
 refine codeAny_call_function hr.depth (KX _ _ lk) rfl S.co S.gen rfl (PySem.W.codeRec_of KX hcd) (hb _ _ _ _ ?_);refine wpAny_newFunctionEnv_cells S.kind hkind fun env he s1 x=>?_
 subst he;refine⟨lim.keeps x.toInCall.keep,codeAny_func ?_⟩;obtain⟨t,ht,hq⟩:=hbody A outer s H vs Q E (hr.deeper _) hsp;have I:Inv (pV CX P w K mg base N qual scope f O A outer s H E) [] (dN N vs) H s1:=pW S hr.hd e0 hl r x;refine qn5 (ht [] s1 (dN N vs) H _ I hq) (fun fl s' hs=>?_) fun e s' hs=>hs
 have fin:∀{Z:af}{H':Hp}{v:V}{u:Value},Inv (pV CX P w K mg base N qual scope f O A outer s H E) [] Z H' s'->RelV v u->Q v H'->CE outer P w H s Q u s':=fun {Z H' v u} J rv q=>⟨v,H',J.os,J.bare,J.base,J.hok,rv,q⟩
 cases fl with
 |ret u=>obtain⟨v,Z,H',J,rv,q⟩:=hs;exact fin J rv q
 |next=>obtain⟨Z,H',J,q⟩:=hs;exact fin (v:=V.non) (u:=qg2) J rfl q
 |brk=>obtain⟨_,_,_,q⟩:=hs;exact qk2 q
 |cont=>obtain⟨_,_,_,q⟩:=hs;exact qk2 q
section
variable{X:Cx}{x:Str}{p pos:Pos}{e:J6}{es:η J6}{t:TA}{id T:String}{r:η V->Hp->VK->Prop}
def tCB(r:η V->Hp->VK->Prop)(t:TA):TE:=fun σ H Q=>t σ H fun vs H1=>r vs H1 Q
theorem rH (hc:CallR X (.builtin id) r) (hg:Gl X x) (hm:X.mg x=ψ) (hv:qf4 x=ς (.builtin id)) (ha:PA X (e::es) t) (hn:x≠"__name__":=by decide) (O:(x==("__debug__":Str))=ξ:=by decide)
  (Z:qb3 (e::es) X.env=(ξ,eval e X.env)::qb3 es X.env:=by rfl) (U:(qh3 pos (qb3 es X.env)).any (·.1)=ξ:=by rfl):PE X (.Call (.Name x p) (e::es) [] pos) (tCB r t):=by
 intro J0 s σ H Q I h;refine ql4 (gV I hg hm hv ?_ hn O);exact PyProof.Rows.callWith_builtin1 (thn (ha pos J0 s σ H _ I h) fun us s1 ⟨vs,H1,W,r1,q1⟩=>hc J0 s1 σ H1 vs us Q W r1 q1) Z U
theorem pX (hc:CallR X (.type T) r) (hg:Gl X x) (hm:X.mg x=ψ) (hv:qf4 x=ς (.type T)) (ha:PA X (e::es) t) (hn:x≠"__name__":=by decide) (O:(x==("__debug__":Str))=ξ:=by decide)
  (Z:qb3 (e::es) X.env=(ξ,eval e X.env)::qb3 es X.env:=by rfl) (U:(qh3 pos (qb3 es X.env)).any (·.1)=ξ:=by rfl):PE X (.Call (.Name x p) (e::es) [] pos) (tCB r t):=by
 intro J0 s σ H Q I h;refine ql4 (gV I hg hm hv ?_ hn O);exact qo2 (thn (ha pos J0 s σ H _ I h) fun us s1 ⟨vs,H1,W,r1,q1⟩=>hc J0 s1 σ H1 vs us Q W r1 q1) Z U
end
end L2
namespace HT
open PySem PyProof.Rows
variable{Q:Value->qb0->Prop}{vl vu:Value}{lo hi:ζ Int}
section
variable{prog:qe7}{w:J5}{A:ql3}{E:Value->qb0->Prop}{s:qb0}
theorem FB{t b:J4}{vs ws:η Value}(ht:IsTup s.heap t vs.toArray)(hb:IsTup s.heap b ws.toArray)(hv:vs≠[])
 (h1:ws=[]->Q (.ref t) s) (h2:ws≠[]->Q (.ref s.heap.objs.size) {s with heap:=s.heap.push {cls:=.type "tuple",data:=.seq (vs++ws).toArray}})
 (hsz:vs.length+ws.length<=qa9):wpAny (model prog w) A (qh4 .Add (.ref t) (.ref b)) Q E s:=by
 obtain⟨⟨cls,dd,data,sl⟩,ho,hc,n,hd⟩:=id ht;obtain⟨⟨cls2,U,data2,W⟩,O,Z,n2,hd2⟩:=id hb;simp only at hc hd Z hd2;subst hc hd Z hd2;have e:vs.toArray++ws.toArray=(vs++ws).toArray:=by simp
 by_cases hw:ws=[]
 .exact qv8 ⟨_,ho,rfl⟩ ⟨_,O,rfl⟩ qt1 qy8 PySem.F.slot_tuple_add PySem.F.entry_tuple_add (PySem.F.args_tuple_add_2 _ _)
   (tuple_addW1 t b vs.toArray ws.toArray n n2 dd U sl W (by simpa using hv) (by simp[hw])) ⟨ho,O,h1 hw⟩
 .refine qv8 ⟨_,ho,rfl⟩ ⟨_,O,rfl⟩ qt1 qy8 PySem.F.slot_tuple_add PySem.F.entry_tuple_add (PySem.F.args_tuple_add_2 _ _)
   (tuple_addW2 t b vs.toArray ws.toArray n n2 dd U sl W (by simpa using hv) (by simpa using hw) (by rw[qb6,qb6];exact hsz)) ⟨ho,O,?_⟩
  rw[e];exact h2 hw
def sIx(n d:Nat):ζ Int->Nat
 |none=>d
 |some v=>if v<0 then(v+(n:Int)).toNat else min v.toNat n
theorem FC(n d k:Nat):sIx n d (ς (k:Int))=min k n:=by show(if(k:Int)<0 then((k:Int)+(n:Int)).toNat else min (k:Int).toNat n)=min k n;rw[if_neg Θ,qi4]
theorem AF(n d:Nat)(U:d<=n)(o:ζ Int):sIx n d o<=n:=by
 cases o with
 |none=>exact U
 |some v=>
  show(if v<0 then(v+(n:Int)).toNat else min v.toNat n)<=n;by_cases O:v<0
  .rw[if_pos O];lia
  .rw[if_neg O];exact Nat.min_le_right _ _
theorem nZ(v:Int)(n d:Nat):(if v<0 then max (v+(n:Int)) 0 else min v (n:Int))=((sIx n d (ς v):Nat):Int):=by
 show(if v<0 then max (v+(n:Int)) 0 else min v (n:Int))=(((if v<0 then(v+(n:Int)).toNat else min v.toNat n):Nat):Int);by_cases O:v<0
 .simp only[if_pos O];lia
 .simp only[if_neg O];lia
theorem mI(lo hi:ζ Int)(n:Nat):qp4 lo hi 1 (n:Int)=(((sIx n 0 lo:Nat):Int),((sIx n n hi:Nat):Int)):=by
 have h1:¬ ((1:Int)<0):=by lia
 unfold qp4;simp only[h1,if_false];refine Prod.ext ?_ ?_
 .cases lo with
  |none=>rfl
  |some v=>exact nZ v n 0
 .cases hi with
  |none=>rfl
  |some v=>exact nZ v n n
theorem mJ(i j:Nat):qm1 (i:Int) (j:Int) 1=j-i:=by
 unfold qm1;have h1:(1:Int) > 0:=by lia
 simp only[h1,if_true,Int.ediv_one];split<;>lia
theorem hJ{v:Value}{o:ζ Int}{Q:ζ Int->qb0->Prop}(p:zf5 v o)(h:Q o s):wpAny (model prog w) A (qj1.Slice.slicePartIndex v) Q E s:=by
 cases p with
 |none=>exact slicePart_none h
 |int i t=>exact slicePart_int h
theorem fJ{sl:J4}{n:Nat}{Q:Int×Int×Nat->qb0->Prop}(hs:s.heap.IsSliceOf sl vl vu .none)(pl:zf5 vl lo)(W:zf5 vu hi)
 (h:Q (((sIx n 0 lo:Nat):Int),1,sIx n n hi-sIx n 0 lo) s):wpAny (model prog w) A (qv2 (.ref sl) (pure (n:Int))) Q E s:=by
 obtain⟨os,O,Z,U⟩:=id hs;unfold qv2 qj1.Slice.sliceFields;refine wB (wB (qj2 O U (x:=vl) rfl (wB (qj2 O U (x:=vu) rfl (wB (qj2 O U (x:=.none) rfl (qa6 ?_)))))));refine wB (slicePart_none ?_);show wpAny _ _ (if((1:Int)==0)=θ then _ else _) _ _ s;rw[if_neg Ω];refine wB (hJ pl (wB (hJ W (wB (qa6 ?_)))));show wpAny _ _ (match qp4 lo hi 1 (n:Int)with|(lo,hi)=>pure (lo,(1:Int),qm1 lo hi 1)) _ _ s;rw[mI lo hi n];show wpAny _ _ (pure (((sIx n 0 lo:Nat):Int),(1:Int),qm1 ((sIx n 0 lo:Nat):Int) ((sIx n n hi:Nat):Int) 1)) _ _ s;rw[mJ];exact qa6 h
theorem rJ(xs:Array Value)(i k:Nat):((qd7 k).filterMap fun(m:Nat)=>xs[((i:Int)+(m:Int)*1).toNat]?).toArray=((xs.toList.drop i).take k).toArray:=by
 have e:(fun(m:Nat)=>xs[((i:Int)+(m:Int)*1).toNat]?)=fun m=>xs[i+m]?:=by
  funext m;have:((i:Int)+(m:Int)*1).toNat=i+m:=by lia
  rw[this]
 rw[e];have:=pick_run xs i k;rw[List.filterMap_map]at this;have e2:((fun x=>xs[x]?) ∘ fun x=>i+x)=fun m=>xs[i+m]?:=rfl
 rw[e2]at this;rw[this]
theorem n0{t sl:J4}{items:Array Value}(U:IsTup s.heap t items)(hs:s.heap.IsSliceOf sl vl vu .none)(pl:zf5 vl lo)(pu:zf5 vu hi)
 (hw:¬ (sIx items.size 0 lo=0/\sIx items.size items.size hi=items.size))
 (h:Q (.ref s.heap.objs.size) {s with heap:=s.heap.push {cls:=.type "tuple",data:=.seq ((items.toList.drop (sIx items.size 0 lo)).take (sIx items.size items.size hi-sIx items.size 0 lo)).toArray}})
 (hsz:items.size<=qa9):wpAny (model prog w) A (zg5 (.ref t) (.ref sl)) Q E s:=by
 have O:sizeOk (.seq ((items.toList.drop (sIx items.size 0 lo)).take (sIx items.size items.size hi-sIx items.size 0 lo)).toArray):=by show((items.toList.drop (sIx items.size 0 lo)).take (sIx items.size items.size hi-sIx items.size 0 lo)).toArray.size<=qa9;rw[qb6,qk9,qt2,qq1];lia
 have hj:sIx items.size items.size hi<=items.size:=AF _ _ (nL _) hi;obtain⟨os,Z,hcs,hds⟩:=id hs;have W:s.TypeIs (.ref sl) "slice":=⟨os,Z,hcs⟩;unfold zg5
 try with_reducible refine qn0 ?_
 first|refine wB (qa6 ?_)|skip
 refine wB (wpAny_sequenceKey U.typeIs Ω ?_)
 refine wB (qj5 (name:=qa2 "__getitem__") U.typeIs qm6
  (qj3 qm6 U.typeIs entry_tuple_getitem ?_ (args_tuple_getitem _ _)))
 show wpAny _ _ (qj1.Tuple.tupleItemsOf (.ref t) >>= _) _ _ s;refine wB (tupleItemsOf_ U ?_);refine wB (zb4 W ?_);rw[if_pos Ω];refine wB (fJ hs pl pu ?_)
 have hno:¬ ((((sIx items.size 0 lo:Nat):Int)==0&&(1:Int)==1&&(sIx items.size items.size hi-sIx items.size 0 lo)==items.size)=θ):=by intro q;rw[qa1,qa1]at q;have q1:((sIx items.size 0 lo:Nat):Int)=0:=eq_of_beq q.1.1;have q2:sIx items.size items.size hi-sIx items.size 0 lo=items.size:=eq_of_beq q.2;exact hw ⟨Θ,Θ⟩
 show wpAny _ _ (if(((sIx items.size 0 lo:Nat):Int)==0&&(1:Int)==1&&(sIx items.size items.size hi-sIx items.size 0 lo)==items.size)=θ then _ else _) _ _ s;rw[if_neg hno,rJ]
 first
  |exact wB (m:=qm7 _) (qf2 (qa6 ⟨_,rfl,qa6 h⟩) O)
  |exact wB (m:=qm7 _) (qf2 (wB (qa6 (qa6 ⟨_,rfl,qa6 h⟩))) O)
  |exact wB (wB (m:=qm7 _) (qf2 (qa6 (qa6 ⟨_,rfl,qa6 h⟩)) O))
  |exact wB (wB (m:=qm7 _) (qf2 (qa6 ⟨_,rfl,qa6 h⟩) O))
end
end HT
namespace L2
open PySem PySem.Spec PyProof.Rows
abbrev TO:=af->Hp->(ζ Int->Hp->Prop)->Prop
def jP(X:Cx)(e:ζ J6)(t:TO):Prop:=
 ∀(J0:η (J4×Obj))(s:qb0)(σ:af)(H:Hp)(Q:ζ Int->Hp->Prop),Inv X J0 σ H s->t σ H Q→
  wpAny (model X.prog X.w) X.A (evalPart e X.env) (fun u s'=>∃o H',Inv X J0 σ H' s'/\zf5 u o/\Q o H') X.xe s
def vW:TO:=fun _ H Q=>Q ψ H
def DN(t:TE):TO:=fun σ H Q=>t σ H fun x H1=>∃i,x=.int i/\Q (ς i) H1
theorem mK{ns:η Int}:∀{us:η Value},Vals (ns.map V.int) us->zf0 us ns:=by
 induction ns with
 |nil=>intro us r;rw[qe0]at r;cases r;exact .nil
 |cons n ns U=>
  intro us r;rw[qa3]at r;cases r with
  |cons W O=>obtain⟨t,e⟩:=W;subst e;exact .cons n t (U O)
variable{r:V->ζ Int->ζ Int->Hp->VK->Prop}{xs:η V}{us:η Value}
section
variable{X:Cx}{e:J6}{te:TE}{lo hi:ζ J6}{tl th:TO}{pos p2:Pos}
theorem vX:jP X ψ vW:=by intro J0 s σ H Q I h;rw[evalPart_none];exact qa6 ⟨ψ,H,I,.none,h⟩
theorem vY(h:PE X e te):jP X (ς e) (DN te):=by
 intro J0 s σ H Q I W;rw[evalPart_some];refine thn (h J0 s σ H _ I W) fun u s1 ⟨x,H1,O,U,q1⟩=>?_
 obtain⟨i,rfl,q⟩:=q1;obtain⟨t,rfl⟩:=U;exact⟨ς i,H1,O,.int i t,q⟩
def SlR(X:Cx)(r:V->ζ Int->ζ Int->Hp->VK->Prop):Prop:=
 ∀(J0:η (J4×Obj))(s:qb0)(σ:af)(H:Hp)(x:V)(v vl vu:Value)(lo hi:ζ Int)(sl:J4)(Q:VK),Inv X J0 σ H s->RelV x v->s.heap.IsSliceOf sl vl vu .none->zf5 vl lo->zf5 vu hi->r x lo hi H Q→
  ∃T id,typeLookup (.type T) "__getitem__"=pure (ς (.builtin id))/\s.TypeIs v T/\wpAny (model X.prog X.w) X.A (zg5 v (.ref sl)) (EP X J0 σ Q) X.xe s
theorem SlR.or{U:V->ζ Int->ζ Int->Hp->VK->Prop}(h:SlR X r)(h':SlR X U):SlR X (fun x lo hi H Q=>r x lo hi H Q∨U x lo hi H Q):=by
 intro J0 s σ H x v vl vu lo hi sl Q I O W pl Z q;rcases q with q|q
 .exact h J0 s σ H x v vl vu lo hi sl Q I O W pl Z q
 .exact h' J0 s σ H x v vl vu lo hi sl Q I O W pl Z q
def tSl(r:V->ζ Int->ζ Int->Hp->VK->Prop)(te:TE)(tl th:TO):TE:=fun σ H Q=>te σ H fun x H1=>tl σ H1 fun l H2=>th σ H2 fun u O=>r x l u O Q
theorem rK(hr:SlR X r)(he:PE X e te)(hl:jP X lo tl)(hu:jP X hi th):PE X (.Subscript e (.Slice lo hi ψ p2) pos) (tSl r te tl th):=by
 intro J0 s σ H Q I h;refine Subscript_ (thn (he J0 s σ H _ I h) fun v s1 ⟨x,H1,I1,r1,q1⟩=>?_);refine wpAny_Slice (thn (hl J0 s1 σ H1 _ I1 q1) fun vl s2 ⟨l,H2,I2,pl,q2⟩=>thn (hu J0 s2 σ H2 _ I2 q2) fun vu s3 ⟨u,O,I3,Z,q3⟩=>?_);rw[evalPart_none];refine qa6 ?_;have W:Inv X J0 σ O {s3 with heap:=s3.heap.push {cls:=.type "slice",data:=.fields #[vl,vu,.none]}}:=I3.kept (t':=s3.toks) fun b ob q=>gP _ q
 obtain⟨T,id,U,ht,hg⟩:=hr J0 {s3 with heap:=s3.heap.push {cls:=.type "slice",data:=.fields #[vl,vu,.none]}} σ O x v vl vu l u s3.heap.objs.size Q W r1 (Heap.IsSliceOf.new ..) pl Z q3;show wpAny (model X.prog X.w) X.A (ze2 e (.Slice lo hi ψ p2) v (.ref s3.heap.objs.size)) (EP X J0 σ Q) X.xe {s3 with heap:=s3.heap.push {cls:=.type "slice",data:=.fields #[vl,vu,.none]}};exact tail_any (ops:=[.ref s3.heap.objs.size,v]) ht U hg (by with_unfolding_all rfl)
def lc(xs:η V)(lo hi:ζ Int):η V:=(xs.drop (HT.sIx xs.length 0 lo)).take (HT.sIx xs.length xs.length hi-HT.sIx xs.length 0 lo)
theorem gj(xs:η V)(lo hi:ζ Int):(lc xs lo hi).length<=xs.length:=by unfold lc;rw[qk9,qt2];lia
def rSlT(K:xA9):V->ζ Int->ζ Int->Hp->VK->Prop:=fun x lo hi H Q=>∃a xs,x=.ref a/\SqT K H a xs∧¬ (HT.sIx xs.length 0 lo=0/\HT.sIx xs.length xs.length hi=xs.length)/\∀p,H p=ψ->Q (.ref p) (upd H p (.t (lc xs lo hi)))
theorem AG:SlR X (rSlT X.K):=by
 intro J0 s σ H x v vl vu lo hi sl Q I rx hs pl pu h;obtain⟨a,xs,rfl,Z,hw,q⟩:=h;cases rx;obtain⟨J3,r,W,U⟩:=I.tuple Z;have O:J3.toArray.size=xs.length:=by rw[qb6];exact r.length.symm
 refine⟨"tuple",_,qm6.lookup,W.typeIs,?_⟩;refine HT.n0 W hs pl pu (by rw[O];exact hw) ?_ (by rw[O];exact U);rw[O];refine⟨.ref s.heap.objs.size,_,I.laid (t':=s.toks) (o:=.t (lc xs lo hi)) (fun b ob q=>gP _ q) (nL _) ?_,rfl,q _ (I.hok.fresh (nL _))⟩;exact⟨qd1 (gj xs lo hi) U,_,(r.drop (HT.sIx xs.length 0 lo)).take (HT.sIx xs.length xs.length hi-HT.sIx xs.length 0 lo),IsTu.new _ _⟩
def yK(K:xA9):R2:=fun x y H Q=>∃a b xs ys,x=.ref a/\y=.ref b/\SqT K H a xs/\SqT K H b ys/\xs≠[]/\xs.length+ys.length<=qa9∧(ys=[]->Q (.ref a) H)/\(ys≠[]->∀p,H p=ψ->Q (.ref p) (upd H p (.t (xs++ys))))
theorem Vals.nil_iff(r:Vals xs us):us=[]↔xs=[]:=by
 cases r with
 |nil=>simp
 |cons _ _=>simp
theorem vZ:OpR X (qh4 .Add) (yK X.K):=by intro J0 s σ H x y v u Q I rx ry h;obtain⟨a,b,xs,ys,rfl,rfl,ha,hb,hx,W,q1,q2⟩:=h;cases rx;cases ry;obtain⟨J3,U,p1,_⟩:=I.tuple ha;obtain⟨Z,O,p2,_⟩:=I.tuple hb;refine HT.FB p1 p2 (fun z=>hx (U.nil_iff.mp z)) (fun z=>⟨.ref a,H,I,rfl,q1 (O.nil_iff.mp z)⟩) (fun z=>?_) (by rw[<- U.length,<- O.length];exact W);refine⟨.ref s.heap.objs.size,_,I.laid (t':=s.toks) (o:=.t (xs++ys)) (fun b ob q=>gP _ q) (nL _) ?_,rfl,q2 (fun w=>z (O.nil_iff.mpr w)) _ (I.hok.fresh (nL _))⟩;exact⟨by rw[qc5];exact W,_,U.append O,IsTu.new _ _⟩
end
def ixN(n:Nat)(i:Int):ζ Nat:=if 0<=i then(if i<n then ς i.toNat else ψ)else if -(n:Int)<=i then ς (i+n).toNat else ψ
def atI{α:Type}(xs:η α)(i:Int):ζ α:=(ixN xs.length i).bind fun j=>xs[j]?
variable{n j:Nat}{i:Int}
theorem n4(h:ixN n i=ς j):ze3 i n=ς j/\j<n/\-(n:Int)<=i/\i<n:=by
 unfold ixN at h;by_cases O:0<=i
 .rw[if_pos O]at h;by_cases h1:i<n
  .rw[if_pos h1]at h;have e:i.toNat=j:=qc9 h;exact⟨by rw[seqIndex_of O h1,e],Θ,Θ,h1⟩
  .rw[if_neg h1]at h;cases h
 .rw[if_neg O]at h;by_cases h1:-(n:Int)<=i
  .rw[if_pos h1]at h;have e:(i+n).toNat=j:=qc9 h;exact⟨by rw[zf6 Θ h1,e],Θ,h1,Θ⟩
  .rw[if_neg h1]at h;cases h
theorem jQ{α:Type}{xs:η α}{v:α}(h:atI xs i=ς v):∃j,ze3 i xs.length=ς j/\xs[j]?=ς v/\j<xs.length/\-(xs.length:Int)<=i/\i<xs.length:=by
 unfold atI at h;cases e:ixN xs.length i with
 |none=>rw[e]at h;cases h
 |some j=>rw[e]at h;obtain⟨h1,h2,O,h4⟩:=n4 e;exact⟨j,h1,h,h2,O,h4⟩
theorem v0{α:Type}{xs:η α}{v:α}(h:xs[j]?=ς v):atI xs (j:Int)=ς v:=by
 have O:j<xs.length:=(gX h).1
 have e:ixN xs.length (j:Int)=ς j:=by unfold ixN;rw[if_pos Θ,if_pos Θ];simp
 unfold atI;rw[e];exact h
def jR(b:J6):Prop:=∀o i,zd4 b ξ o i=operate [o,i] (zg5 o i)
def IxR(X:Cx)(r:R2):Prop:=
 ∀(value O:J6)(J0:η (J4×Obj))(s:qb0)(σ:af)(H:Hp)(x y:V)(v u:Value)(Q:VK),Inv X J0 σ H s->RelV x v->RelV y u->r x y H Q→
  zd4 O ξ v u=operate [v,u] (zg5 v u)->wpAny (model X.prog X.w) X.A (ze2 value O v u) (EP X J0 σ Q) X.xe s
def MtR(X:Cx)(id:String)(r:V->η V->Hp->VK->Prop):Prop:=
 ∀(J0:η (J4×Obj))(s:qb0)(σ:af)(H:Hp)(x:V)(xs:η V)(v:Value)(us:η Value)(Q:VK),Inv X J0 σ H s->RelV x v->Vals xs us->r x xs H Q→
  wpAny (model X.prog X.w) X.A (call (.builtin id) (v::us)) (EP X J0 σ Q) X.xe s
variable{J0:η (J4×Obj)}{σ:af}{H:Hp}{p:J4}{J3 its':η Value}{A:ql3}{y x:V}{u:Value}
section
variable{X:Cx}{a b:J6}{ta tb:TE}{pos:Pos}
theorem IxR.or{r Z:R2}(h:IxR X r)(h':IxR X Z):IxR X (fun x y H Q=>r x y H Q∨Z x y H Q):=by
 intro value O J0 s σ H x y v u Q I W U q hs;rcases q with q|q
 .exact h value O J0 s σ H x y v u Q I W U q hs
 .exact h' value O J0 s σ H x y v u Q I W U q hs
theorem DO{r:R2}(W:IxR X r)(ha:PE X a ta)(hb:PE X b tb)(hs:jR b):PE X (.Subscript a b pos) (tOp r ta tb):=by intro J0 s σ H Q I h;exact Subscript_ (Al ha hb I h fun v u O x y H2 U rx Z q=>W a b J0 O σ H2 x y v u Q U rx Z q (hs _ _))
def rIxL(K:xA9):R2:=fun x y H Q=>∃p xs i v,x=.ref p/\y=.int i/\SqL K H p xs/\atI xs i=ς v/\Q v H
def rIxT(K:xA9):R2:=fun x y H Q=>∃p xs i v,x=.ref p/\y=.int i/\SqT K H p xs/\atI xs i=ς v/\Q v H
def rIxS:R2:=fun x y H Q=>∃z i c,x=.str z/\y=.int i/\z.length<=qa9/\atI z.cps.toList i=ς c/\Q (.str ⟨#[c]⟩) H
theorem ix_list:IxR X (rIxL X.K):=by
 intro value slice J0 s σ H x y v u Q I rx ry h hs;obtain⟨p,xs,i,z,rfl,rfl,hq,he,q⟩:=h;cases rx;obtain⟨t,rfl⟩:=ry;obtain⟨J3,r,pl,hz⟩:=I.list hq;obtain⟨j,h1,h2,h3,h4,h5⟩:=jQ he;obtain⟨w,ew,rw'⟩:=r.get h2;have hl:=r.length;have hn:=fG;have fin:EP X J0 σ Q w s:=⟨z,H,I,rw',q⟩;by_cases h0:0<=i
 .have hj:i.toNat=j:=by rw[seqIndex_of h0 h5]at h1;exact qc9 h1
  exact item_listR pl.isList h0 Θ (by rw[hj];simpa using ew) fin hs
 .have hj:(i+(J3.toArray.size:Int)).toNat=j:=by rw[zf6 Θ h4]at h1;rw[qb6,<- hl];exact qc9 h1
  exact za0 (x:=w) pl.isList.typeIs slot_list_getitem.lookup
   (wpAny_getItem_list_neg (Q:=fun r s'=>r=w/\EP X J0 σ Q r s') pl.isList Θ (by rw[qb6]<;>lia) Θ (by rw[hj];simpa using ew) ⟨rfl,fin⟩) hs
theorem ix_tup:IxR X (rIxT X.K):=by
 intro value slice J0 s σ H x y v u Q I rx ry h hs;obtain⟨p,xs,i,z,rfl,rfl,hq,he,q⟩:=h;cases rx;obtain⟨t,rfl⟩:=ry;obtain⟨J3,r,pl,hz⟩:=I.tuple hq;obtain⟨j,h1,h2,h3,h4,h5⟩:=jQ he;obtain⟨w,ew,rw'⟩:=r.get h2;have hl:=r.length;have hn:=fG;have fin:EP X J0 σ Q w s:=⟨z,H,I,rw',q⟩
 exact za0 (x:=w) pl.typeIs slot_tuple_getitem.lookup
  (getItem_tuple (j:=j) (Q:=fun r s'=>r=w/\EP X J0 σ Q r s') pl Θ Θ (by rw[qb6,<- hl];exact h1) (by simpa using ew) ⟨rfl,fin⟩) hs
theorem AH:IxR X rIxS:=by
 intro value slice J0 s σ H x y v u Q I rx ry h hs;obtain⟨z,i,c,rfl,rfl,hz,he,q⟩:=h;obtain⟨t,rfl⟩:=rx;obtain⟨t',rfl⟩:=ry;obtain⟨j,h1,h2,h3,h4,h5⟩:=jQ he;have hl:z.cps.toList.length=z.length:=by simp[Str.length]
 rw[hl]at h1 h4 h5;have hn:=fG
 exact tail_any (typeIs_str s z t) slot_str_getitem.lookup (getItem_str (c:=c) (by have e1:decide (i < -(2^63:Int))=ξ:=decide_eq_false Θ;have e2:decide (i ≥ 2^63)=ξ:=decide_eq_false Θ;rw[e1,e2,Bool.or_false]) (by rw[h1];simpa using h2) ⟨.str ⟨#[c]⟩,H,I.tok _,⟨_,rfl⟩,q⟩) hs
def rIx(K:xA9):R2:=fun x y H Q=>rIxL K x y H Q∨rIxT K x y H Q∨rIxS x y H Q
theorem AI:IxR X (rIx X.K):=ix_list.or (ix_tup.or AH)
theorem mL(J3:η Value)(n j:Nat)(u:Value):qk3 (·.setIfInBounds j u) {cls:=.type "list",data:=.seq J3.toArray n}={cls:=.type "list",data:=.seq (J3.set j u).toArray n}:=by simp[qk3]
theorem Inv.lst {s:qb0} (I:Inv X J0 σ H s) (h:H p=ς (.e xs)) :
  ∃(J3:η Value)(n:Nat),Vals xs J3/\s.heap.get? p=ς {cls:=.type "list",data:=.seq J3.toArray n}/\xs.length<=qa9:=by
 obtain⟨z,J3,n,r,e⟩:=I.hok p _ h;exact⟨J3,n,r,e,z⟩
theorem Inv.lstUpd{s:qb0}{ys:η V}{n':Nat}{f:Obj->Obj}(I:Inv X J0 σ H s)(h:H p=ς (.e xs))
 (U:s.heap.get? p=ς {cls:=.type "list",data:=.seq J3.toArray n}) (O:f {cls:=.type "list",data:=.seq J3.toArray n}={cls:=.type "list",data:=.seq its'.toArray n'}) (r:Vals ys its') (hz:ys.length<=qa9) (t:Nat) :
  Inv X J0 σ (upd H p (.e ys)) {s with heap:=s.heap.update p f,toks:=t}:=by
 have e:(s.heap.update p f).get? p=ς {cls:=.type "list",data:=.seq its'.toArray n'}:=by rw[qf6 f U (by rw[O]<;>rfl),O]
 refine I.write (x:=p) (e:=p) (by rw[h];trivial) (.inl rfl) (fun b u hb q=>(qi0 _ _ (qk5 hb)).trans q) ⟨_,e⟩ ?_;exact⟨hz,its',n',r,e⟩
def yL:V->V->V->Hp->(Hp->Prop)->Prop:=fun o i v H Q=>∃p xs k j,o=.ref p/\i=.int k/\H p=ς (.e xs)/\ixN xs.length k=ς j/\Q (upd H p (.e (xs.set j v)))
theorem rL:PSet X yL:=by
 intro J0 s σ H o i v ov iv u Q I ro ri rv h;obtain⟨p,xs,k,j,rfl,rfl,hp,hj,q⟩:=h;cases ro;obtain⟨t,rfl⟩:=ri;obtain⟨J3,n,r,ho,hz⟩:=I.lst hp;obtain⟨h1,h2,h3,h4⟩:=n4 hj;have hl:=r.length;have hn:=fG
 have I':Inv X J0 σ (upd H p (.e (xs.set j v))) {s with heap:=s.heap.update p (qk3 (·.setIfInBounds j u))}:=I.lstUpd hp ho (mL J3 n j u) (r.set rv j) (by rw[qu6];exact hz) s.toks
 by_cases h0:0<=k
 .have hk:k.toNat=j:=by rw[seqIndex_of h0 h4]at h1;exact qc9 h1
  exact PySem.W.ki_setAt ho h0 Θ (by rw[qb6,<- hl];exact h4) (by rw[hk];exact⟨_,I',q⟩)
 .have hk:(k+(J3.toArray.size:Int)).toNat=j:=by rw[zf6 Θ h3]at h1;rw[qb6,<- hl];exact qc9 h1
  exact PySem.W.ki_setBack ho Θ (by rw[qb6,<- hl];exact h3) Θ (by rw[hk];exact⟨_,I',q⟩)
theorem jS(lo hi:ζ Int)(n:Nat):(qs3 lo hi ψ n).1=((HT.sIx n 0 lo:Nat):Int)/\(qs3 lo hi ψ n).2.1=((HT.sIx n n hi:Nat):Int)/\(qs3 lo hi ψ n).2.2=1:=by
 refine⟨?_,?_,rfl⟩
 .cases lo with
  |none=>simp[qs3,HT.sIx]
  |some i=>
   simp only[qs3,HT.sIx,qz5,show(1:Int) > 0 by decide,if_true];by_cases h:i<0
   .simp only[h,if_true]<;>lia
   .simp only[h,if_false]<;>lia
 .cases hi with
  |none=>simp[qs3,HT.sIx]
  |some i=>
   simp only[qs3,HT.sIx,qz5,show(1:Int) > 0 by decide,if_true];by_cases h:i<0
   .simp only[h,if_true]<;>lia
   .simp only[h,if_false]<;>lia
theorem iM(J3:η Value)(lo hi:ζ Int):slicePick J3.toArray lo hi ψ=((J3.drop (HT.sIx J3.length 0 lo)).take (HT.sIx J3.length J3.length hi-HT.sIx J3.length 0 lo)).toArray:=by obtain⟨h1,h2,O⟩:=jS lo hi J3.toArray.size;unfold slicePick;rw[h1,h2,O];simp only[sliceRange_one,pick_run,qb6]<;>rfl
def rSlL(K:xA9):V->ζ Int->ζ Int->Hp->VK->Prop:=fun x lo hi H Q=>∃a xs,x=.ref a/\SqL K H a xs/\∀p,H p=ψ->Q (.ref p) (upd H p (.e (lc xs lo hi)))
theorem v3:SlR X (rSlL X.K):=by intro J0 s σ H x v vl vu lo hi sl Q I Z hs pl pu h;obtain⟨a,xs,rfl,W,q⟩:=h;cases Z;obtain⟨J3,r,U,hz⟩:=I.list W;have O:=r.length;refine⟨"list",_,slot_list_getitem.lookup,U.isList.typeIs,?_⟩;refine wpAny_getItem_list_slice U.isList hs pl pu .none Ξ ?_ (by rw[qb6]<;>lia);rw[iM,<- O];refine⟨.ref s.heap.objs.size,_,I.laid (t':=s.toks) (o:=.e (lc xs lo hi)) (fun b ob q=>gP _ q) (nL _) ?_,rfl,q _ (I.hok.fresh (nL _))⟩;exact⟨qd1 (gj xs lo hi) hz,_,0,(r.drop (HT.sIx xs.length 0 lo)).take (HT.sIx xs.length xs.length hi-HT.sIx xs.length 0 lo),qb9 _ rfl⟩
def dO:V->Bool
 |.non=>θ
 |.bl _=>θ
 |.int _=>θ
 |.str _=>θ
 |_=>ξ
def eqV:V->V->Bool
 |.non,.non=>θ
 |.bl a,.bl b=>a==b
 |.bl a,.int b=>(if a then 1 else 0)==b
 |.int a,.bl b=>a==(if b then 1 else 0)
 |.int a,.int b=>a==b
 |.str a,.str b=>a==b
 |_,_=>ξ
theorem fK{s:qb0}{v:Value}(U:RelV y u)(O:RelV x v)(W:dO y=θ)(fx:dO x=θ):qf1 A s u v (eqV y x):=by
 cases y with
 |non=>
  cases U;cases x with
  |non=>cases O;exact zb5 _
  |bl b=>cases O;exact qf1.none_bool b
  |int b=>obtain⟨t,rfl⟩:=O;exact qf1.none_int b t
  |str b=>obtain⟨t,rfl⟩:=O;exact qf1.none_str b t
  |_=>exact absurd (show ξ=θ from fx) qb7
 |bl a=>
  cases U;cases x with
  |non=>cases O;exact qf1.bool_none a
  |bl b=>cases O;exact qf1.bool_bool a b
  |int b=>obtain⟨t,rfl⟩:=O;exact qf1.bool_int a b t
  |str b=>obtain⟨t,rfl⟩:=O;exact qf1.bool_str a b t
  |_=>exact absurd (show ξ=θ from fx) qb7
 |int a=>
  obtain⟨t',rfl⟩:=U;cases x with
  |non=>cases O;exact qf1.int_none a t'
  |bl b=>cases O;exact qf1.int_bool a t' b
  |int b=>obtain⟨t,rfl⟩:=O;exact qf1.int_int a t' b t
  |str b=>obtain⟨t,rfl⟩:=O;exact qf1.int_str a t' b t
  |_=>exact absurd (show ξ=θ from fx) qb7
 |str a=>
  obtain⟨t',rfl⟩:=U;cases x with
  |non=>cases O;exact qf1.str_none a t'
  |bl b=>cases O;exact qf1.str_bool a t' b
  |int b=>obtain⟨t,rfl⟩:=O;exact qf1.str_int a t' b t
  |str b=>obtain⟨t,rfl⟩:=O;exact qf1.str_str a t' b t
  |_=>exact absurd (show ξ=θ from fx) qb7
 |_=>exact absurd (show ξ=θ from W) qb7
def eqU(x:V)(u:Value):Bool:=match u with
 |.none=>eqV .non x
 |.bool b=>eqV (.bl b) x
 |.int i _=>eqV (.int i) x
 |.str z _=>eqV (.str z) x
 |_=>ξ
theorem rM(r:RelV y u)(f:dO y=θ):eqU x u=eqV y x:=by
 cases y with
 |non=>cases r;rfl
 |bl b=>cases r;rfl
 |int i=>obtain⟨t,rfl⟩:=r;rfl
 |str z=>obtain⟨t,rfl⟩:=r;rfl
 |_=>exact absurd (show ξ=θ from f) qb7
theorem eC:∀{xs:η V}{us:η Value},Vals xs us->xs.all dO=θ->us.any (eqU x)=xs.any fun y=>eqV y x
 |_,_,.nil,_=>rfl
 |y::xs,u::us,.cons r t,f=>by rw[qc7,qa1]at f;rw[ql5,ql5,rM r f.1,eC t f.2]
theorem cZ{s:qb0}{v:Value}(U:RelV x v)(fx:dO x=θ):∀{xs:η V}{us:η Value},Vals xs us->xs.all dO=θ->∀u∈us,qf1 A s u v (eqU x u)
 |_,_,.nil,_=>fun u O=>by cases O
 |y::xs,u::us,.cons r t,f=>fun W O=>by
  rw[qc7,qa1]at f;rcases qc4.mp O with rfl|O
  .rw[rM r f.1];exact fK r U f.1 fx
  .exact cZ U fx t f.2 W O
def inV(x:V)(xs:η V):Bool:=xs.any fun y=>eqV y x
def rIn(K:xA9)(O:Bool):R2:=fun x y H Q=>∃p xs,y=.ref p/\(SqL K H p xs∨SqT K H p xs)/\dO x=θ/\xs.all dO=θ/\Q (.bl (if O then !inV x xs else inV x xs)) H
theorem pY:OpR X (qf0 .In) (rIn X.K ξ):=by
 intro J0 s σ H x y v u Q I W Z h;obtain⟨p,xs,rfl,O,fx,fs,q⟩:=h;cases Z;rcases O with O|O
 .obtain⟨J3,r,pl,hz⟩:=I.list O;refine SeqAt.in_listAt (eqU x) pl.isList (fun w U=>cZ W fx r fs w (by simpa using U)) ⟨.bl _,H,I,rfl,?_⟩;rw[show J3.toArray.any (eqU x)=J3.any (eqU x)by simp,eC r fs];exact q
 .obtain⟨J3,r,pl,hz⟩:=I.tuple O;refine SeqAt.in_tupleAt (eqU x) pl (fun w U=>cZ W fx r fs w (by simpa using U)) ⟨.bl _,H,I,rfl,?_⟩;rw[show J3.toArray.any (eqU x)=J3.any (eqU x)by simp,eC r fs];exact q
theorem jT:OpR X (qf0 .NotIn) (rIn X.K θ):=by
 intro J0 s σ H x y v u Q I W Z h;obtain⟨p,xs,rfl,O,fx,fs,q⟩:=h;cases Z;rcases O with O|O
 .obtain⟨J3,r,pl,hz⟩:=I.list O;refine SeqAt.notIn_listAt (eqU x) pl.isList (fun w U=>cZ W fx r fs w (by simpa using U)) ⟨.bl _,H,I,rfl,?_⟩;rw[show J3.toArray.any (eqU x)=J3.any (eqU x)by simp,eC r fs];exact q
 .obtain⟨J3,r,pl,hz⟩:=I.tuple O;refine SeqAt.notIn_tupleAt (eqU x) pl (fun w U=>cZ W fx r fs w (by simpa using U)) ⟨.bl _,H,I,rfl,?_⟩;rw[show J3.toArray.any (eqU x)=J3.any (eqU x)by simp,eC r fs];exact q
theorem jU:OpR X (qf0 .NotIn) (fun x y H Q=>∃i j,x=.str i/\y=.str j/\Q (.bl (!(!(qr5 j i 0 j.length 1).isEmpty))) H):=by intro J0 s σ H x y v u Q I U O h;obtain⟨i,j,rfl,rfl,q⟩:=h;obtain⟨t,rfl⟩:=U;obtain⟨t',rfl⟩:=O;exact notIn_str ⟨.bl _,H,I,rfl,q⟩
theorem CallR.or{f:Value}{r O:η V->Hp->VK->Prop}(h:CallR X f r)(h':CallR X f O):CallR X f (fun xs H Q=>r xs H Q∨O xs H Q):=by
 intro J0 s σ H xs us Q I rs q;rcases q with q|q
 .exact h J0 s σ H xs us Q I rs q
 .exact h' J0 s σ H xs us Q I rs q
theorem jV:CallR X (.type "list") (fun xs H Q=>∃p ys,xs=[.ref p]/\(SqL X.K H p ys∨SqT X.K H p ys)/\∀l,H l=ψ->Q (.ref l) (upd H l (.e ys))):=by
 intro J0 s σ H xs us Q I r h;obtain⟨p,ys,rfl,hq,q⟩:=h;obtain⟨u,rfl,rx⟩:=cY r;cases rx
 have fin:∀ (J3:η Value),Vals ys J3->ys.length<=qa9->∀ (h':Heap) (O:Nat),(∀ b o',s.heap.get? b=ς o'->h'.get? b=ς o')→
     h'.get? s.heap.objs.size=ς {cls:=.type "list",dict:=ψ,data:=.seq J3.toArray O,slots:=#[]}->EP X J0 σ Q (.ref s.heap.objs.size) {s with heap:=h'}:=fun J3 U W h' O kp e=>
  ⟨.ref s.heap.objs.size,_,I.laid (t':=s.toks) kp (nL _) (show ObjOk X.prog X.w _ h' _ (.e ys)from⟨W,J3,O,U,e⟩),rfl,q _ (I.hok.fresh (nL _))⟩
 rcases hq with hq|hq
 .obtain⟨J3,U,pl,W⟩:=I.list hq;have Z:=U.length;obtain⟨o,ho,hc,n,hd⟩:=pl.isList;exact call_list_seq p (.inl rfl) ho hc hd (fun h' O kp e=>fin J3 U W h' O kp e) (by simp only[qb6]<;>lia)
 .obtain⟨J3,U,pl,W⟩:=I.tuple hq;have Z:=U.length;obtain⟨o,ho,hc,n,hd⟩:=pl;exact call_list_seq p (.inr rfl) ho hc hd (fun h' O kp e=>fin J3 U W h' O kp e) (by simp only[qb6]<;>lia)
theorem iO:CallR X (.type "tuple") (fun xs H Q=>∃p ys,xs=[.ref p]/\((SqL X.K H p ys/\∀l,H l=ψ->Q (.ref l) (upd H l (.t ys)))∨(SqT X.K H p ys/\Q (.ref p) H))):=by
 intro J0 s σ H xs us Q I r h;obtain⟨p,ys,rfl,h⟩:=h;obtain⟨u,rfl,rx⟩:=cY r;cases rx;rcases h with ⟨U,q⟩|⟨U,q⟩
 .obtain⟨J3,O,pl,W⟩:=I.list U;have Z:=O.length;refine call_tuple_list pl.isList (fun h' kp=>?_) (by simp only[qb6]<;>lia);have I1:Inv X J0 σ H {s with heap:=h'}:=I.kept (t':=s.toks) kp
  have I2:Inv X J0 σ (upd H h'.objs.size (.t ys)) {s with heap:=h'.push {cls:=.type "tuple",data:=.seq J3.toArray}}:=I1.laid (t':=s.toks) (fun b o e=>gP _ e) (nL _) (show ObjOk X.prog X.w _ _ _ (.t ys)from⟨W,J3,O,IsTu.new _ _⟩)
  exact⟨.ref h'.objs.size,_,I2,rfl,q _ (I1.hok.fresh (nL _))⟩
 .obtain⟨J3,O,pl,W⟩:=I.tuple U;exact call_tuple_same pl ⟨.ref p,H,I,rfl,q⟩
def tyV(K:xA9)(T:String)(x:V)(H:Hp):Prop:=match x with
 |.str _=>T="str"
 |.int _=>T="int"
 |.ref p=>(T="list"/\∃xs,SqL K H p xs)∨(T="tuple"/\∃o,K.lookup p=ς o/\o.cls=.type "tuple"/\o.dict=ψ)∨(T="dict"/\((∃J1,H p=ς (.dK J1))∨∃J1,H p=ς (.dT J1)))∨(T="set"/\∃S n,H p=ς (.set S n))
 |_=>False
theorem rN {s:qb0} {T:String} {v:Value} (I:Inv X J0 σ H s) (r:RelV x v) (ty:tyV X.K T x H) :
  s.TypeIs v T/\∀a,v=.ref a->∃ob,s.heap.get? a=ς ob/\ob.dict=ψ:=by
 cases x with
 |str z=>obtain⟨t,rfl⟩:=r;cases (show T="str" from ty);exact⟨typeIs_str s z t,fun _ e=>nomatch e⟩
 |int i=>obtain⟨t,rfl⟩:=r;cases (show T="int" from ty);exact⟨typeIs_int s i t,fun _ e=>nomatch e⟩
 |ref p=>
  cases r;rcases ty with ⟨rfl,xs,W⟩|⟨rfl,o,O,hc,U⟩|⟨rfl,O⟩|⟨rfl,S,n,O⟩
  .obtain⟨J3,_,pl,_⟩:=I.list W;refine⟨pl.isList.typeIs,fun a e=>?_⟩;cases e;obtain⟨o,n,e,c,U,_⟩:=pl;exact⟨o,e,U⟩
  .refine⟨⟨o,I.kIn p o O,hc⟩,fun a e=>?_⟩;cases e;exact⟨o,I.kIn _ o O,U⟩
  .have z:∃o,s.heap.get? p=ς o/\o.ExactDict:=by
    rcases O with ⟨J1,O⟩|⟨J1,O⟩
    .obtain⟨_,_,_,_,o,_,_,e,ex,_⟩:=I.hok p _ O;exact⟨o,e,ex⟩
    .obtain⟨_,_,_,_,o,_,_,e,ex,_⟩:=I.hok p _ O;exact⟨o,e,ex⟩
   obtain⟨o,e,ex⟩:=z;refine⟨⟨o,e,ex.1⟩,fun a e2=>?_⟩;cases e2;exact⟨o,e,ex.2.1⟩
  .obtain⟨o,_,_,_,e,ex,_⟩:=I.hok p _ O;refine⟨⟨o,e,ex.1⟩,fun a e2=>?_⟩;cases e2;exact⟨o,e,ex.2.1⟩
 |_=>exact qk2 ty
def tBM0(K:xA9)(T:String)(r:V->η V->Hp->VK->Prop)(to:TE):TE:=fun σ H Q=>to σ H fun x H1=>tyV K T x H1/\r x [] H1 Q
def tBM(K:xA9)(T:String)(r:V->η V->Hp->VK->Prop)(to:TE)(t:TA):TE:=fun σ H Q=>to σ H fun x H1=>tyV K T x H1/\t σ H1 fun xs H2=>r x xs H2 Q
variable{o e:J6}{es:η J6}{to:TE}{t:TA}{name:Str}{apos cpos:Pos}{T id:String}{r:V->η V->Hp->VK->Prop}
theorem mM (pa:PlainAttrs T) (W:Slot T name id) (Z:typeOf (.builtin id)=pure (.type "method_descriptor")) (hm:MtR X id r) (ho:PE X o to)
  (U:qh5 o name X.env (eval o X.env)=eval o X.env:=by rfl) (O:(apos.endLine==cpos.line)=θ:=by rfl):PE X (.Call (.Attribute o name apos) [] [] cpos) (tBM0 X.K T r to):=by
 intro J0 s σ H Q I h;refine wpAny_Call_method0_late U O (thn (ho J0 s σ H _ I h) fun v s1 ⟨x,H1,I1,r1,ty,q1⟩=>?_);obtain⟨h1,h2⟩:=rN I1 r1 ty;exact⟨T,id,pa,W,Z,h1,h2,qr9 rfl (PySem.evalArgs_none (hm J0 s1 σ H1 x [] v [] Q I1 r1 .nil q1))⟩
theorem ld (pa:PlainAttrs T) (slot:Slot T name id) (hty:typeOf (.builtin id)=pure (.type "method_descriptor")) (hm:MtR X id r) (ho:PE X o to) (ha:PA X (e::es) t)
  (W:qh5 o name X.env (eval o X.env)=eval o X.env:=by rfl)
  (Z:((qh3 cpos (qb3 (e::es) X.env)).all (fun x=>!x.1)&&(qo8 cpos (qi2 [] X.env)).all (fun x=>x.1.isSome)
   && decide ((e::es).length+([]:η qw7).length+(if([]:η qw7).isEmpty then 0 else 1)<30))=θ:=by rfl)
  (U:(apos.endLine==cpos.line)=θ:=by rfl) (hs:qb3 (e::es) X.env=(ξ,eval e X.env)::qb3 es X.env:=by rfl) (O:(qh3 cpos (qb3 es X.env)).any (·.1)=ξ:=by rfl) :
  PE X (.Call (.Attribute o name apos) (e::es) [] cpos) (tBM X.K T r to t):=by
 intro J0 s σ H Q I h;refine wpAny_Call_method_late W Z U rfl (thn (ho J0 s σ H _ I h) fun v s1 ⟨x,H1,I1,r1,ty,q1⟩=>?_);obtain⟨h1,h2⟩:=rN I1 r1 ty;refine⟨T,id,pa,slot,hty,h1,h2,?_⟩;have hA:=ha cpos J0 s1 σ H1 _ I1 q1;rw[hs]at hA ⊢;refine qr9 (by show(ξ||(qh3 cpos (qb3 es X.env)).any (·.1))=ξ;rw[O]<;>rfl) (Calls.evalArgs_plain ?_);exact thn hA fun us s2 ⟨vs,H2,I2,r2,q2⟩=>hm J0 s2 σ H2 x vs v us Q I2 r1 r2 q2
/- xs.append(e),list.index on a module's tuple .. are MtR facts of 06m -/
end
def MtM(X:Cx)(id:String)(r:V->η V->Hp->VK->Prop):Prop:=
 ∀(J0:η (J4×Obj))(s:qb0)(σ:af)(H:Hp)(x:V)(xs:η V)(v:Value)(us:η Value)(Q:VK),Inv X J0 σ H s->RelV x v->Vals xs us->r x xs H Q→
  wpAny (model X.prog X.w) X.A (call (.builtin id) (v::us)) (EP X J0 σ Q) X.xe s
theorem Vals.one:∀{x:V}{us:η Value},Vals [x] us->∃u,us=[u]/\RelV x u
 |_,_,.cons r .nil=>⟨_,rfl,r⟩
theorem Vals.zero:∀{us:η Value},Vals [] us->us=[]
 |_,.nil=>rfl
theorem Vals.eraseIdx:∀{xs:η V}{us:η Value}(i:Nat),Vals xs us->Vals (xs.eraseIdx i) (us.eraseIdx i)
 |_,_,_,.nil=>.nil
 |_,_,0,.cons _ t=>t
 |_,_,i+1,.cons r t=>.cons r (Vals.eraseIdx i t)
theorem Vals.rep(h:Vals xs us):∀k:Nat,Vals (qb1 k xs).flatten (qb1 k us).flatten
 |0=>.nil
 |k+1=>by rw[qf7,qf7,qk4,qk4];exact Vals.append h (Vals.rep h k)
theorem jc{α:Type}:∀(l:η α)(i:Nat),(l.eraseIdx i).length<=l.length
 |[],_=>nL _
 |_::_,0=>qi3 _
 |_::r,i+1=>qn3 (jc r i)
theorem jd (J3:η Value):∀ (k:Nat) (O:η Value),
  zc8 (fun U W=>U++W) O.toArray (qb1 k J3.toArray)=(O++(qb1 k J3).flatten).toArray
 |0,O=>by simp
 |k+1,O=>by
  have e:O.toArray++J3.toArray=(O++J3).toArray:=by simp
  have e2:(O++J3)++(qb1 k J3).flatten=O++(qb1 (k+1) J3).flatten:=by rw[qf7,qk4,qd8]
  rw[<- e2,<- jd J3 k (O++J3),<- e,qf7,qr6]
variable{t':Nat}
section
variable{X:Cx}{J0:η (J4×Obj)}{σ:af}{H:Hp}{s:qb0}{l b:J4}{xs ys zs:η V}
theorem Inv.lset{f:Array Value->Array Value}(I:Inv X J0 σ H s)(W:H l=ς (.e xs))
 (e:s.heap.get? l=ς {cls:=.type "list",data:=.seq J3.toArray n}) (U:f J3.toArray=its'.toArray) (Z:Vals ys its') (hz:ys.length<=qa9) :
  Inv X J0 σ (upd H l (.e ys)) {s with heap:=s.heap.update l (qk3 f),toks:=t'}:=by
 have q:=PySem.IsL.update e f;rw[U]at q;refine I.write (x:=l) (e:=l) (by rw[W];exact trivial) (.inl rfl) (fun b' u hb O=>(qi0 s.heap (qk3 f) (qk5 hb)).trans O) ⟨_,q⟩ ?_;exact⟨hz,its',_,Z,q⟩
theorem Inv.lnew (I:Inv X J0 σ H s) (O:Vals ys J3) (hz:ys.length<=qa9) :
  Inv X J0 σ (upd H s.heap.objs.size (.e ys)) {s with heap:=s.heap.push {cls:=.type "list",data:=.seq J3.toArray},toks:=t'}:=
 I.laid (fun _ _ q=>gP _ q) (nL _) ⟨hz,J3,0,O,qb9 _ rfl⟩
theorem Inv.fresh(I:Inv X J0 σ H s):H s.heap.objs.size=ψ:=I.hok.fresh (nL _)
theorem Inv.lstM(I:Inv X J0 σ H s)(O:H l=ς (.e xs)):xs.length<=qa9/\∃(J3:η Value)(n:Nat),Vals xs J3/\xs.length=J3.length/\s.heap.get? l=ς {cls:=.type "list",data:=.seq J3.toArray n}:=by obtain⟨z,J3,n,r,e⟩:=I.hok l _ O;exact⟨z,J3,n,r,r.length,e⟩
theorem rO(h:n<=qa9):qq8 n=ξ:=by unfold qq8;exact decide_eq_false Θ
end
section
variable{X:Cx}
def v4:V->η V->Hp->VK->Prop:=fun x vs H Q=>∃l xs y,x=.ref l/\vs=[y]/\H l=ς (.e xs)/\xs.length<qa9/\Q .non (upd H l (.e (xs++[y])))
theorem fL:MtM X "list.append" v4:=by intro J0 s σ H x vs v us Q I Z U h;obtain⟨l,xs,y,rfl,rfl,O,hz,q⟩:=h;cases Z;obtain⟨u,rfl,W⟩:=U.one;obtain⟨z,J3,n,r,hl,e⟩:=I.lstM O;refine qu1 F.slot_list_append ⟨_,e,rfl⟩ F.entry_list_append (F.args_list_append_2 _ _) (PySem.list_append l J3.toArray n u (by rw[qb6];lia)) ⟨e,?_⟩;refine⟨.non,_,I.lset (its':=J3++[u]) O e Ξ (r.append (.cons W .nil)) ?_,rfl,q⟩;rw[qc5,qi8];lia
def AJ:V->η V->Hp->VK->Prop:=fun x vs H Q=>∃l xs i k y,x=.ref l/\vs=[.int i]/\H l=ς (.e xs)/\-(2^63)<=i/\i<2^63/\ze3 i xs.length=ς k/\xs[k]?=ς y/\Q y (upd H l (.e (xs.eraseIdx k)))
theorem rP:MtM X "list.pop" AJ:=by
 intro J0 s σ H x vs v us Q I Z W h;obtain⟨l,xs,i,k,y,rfl,rfl,U,h1,h2,hk,hy,q⟩:=h;cases Z;obtain⟨u,rfl,ru⟩:=W.one;obtain⟨t,rfl⟩:=ru;obtain⟨z,J3,n,r,hl,e⟩:=I.lstM U;obtain⟨w,hw,O⟩:=r.get hy
 refine qu1 F.slot_list_pop ⟨_,e,rfl⟩ F.entry_list_pop (F.args_list_pop_2 _ _)
  (MeetsSeq.list_pop_at l J3.toArray n i t k w (fitsIndex_both h1 h2) (by rw[qb6,<- hl];exact hk) (by rw[<- zb6];exact hw) (by rw[qb6];lia)) ⟨e,?_⟩
 refine⟨y,_,I.lset (its':=J3.eraseIdx k) U e ?_ (r.eraseIdx k) ?_,O,q⟩
 .show J3.toArray.eraseIdxIfInBounds k=(J3.eraseIdx k).toArray;rw[List.eraseIdxIfInBounds_toArray]
 .have:=jc xs k;lia
def AK:V->η V->Hp->VK->Prop:=fun x vs H Q=>∃l xs,x=.ref l/\vs=[]/\H l=ς (.e xs)/\Q .non (upd H l (.e []))
theorem rQ:MtM X "list.clear" AK:=by intro J0 s σ H x vs v us Q I Z W h;obtain⟨l,xs,rfl,rfl,U,q⟩:=h;cases Z;have O:=W.zero;subst O;obtain⟨z,J3,n,r,hl,e⟩:=I.lstM U;refine qu1 F.slot_list_clear ⟨_,e,rfl⟩ F.entry_list_clear (F.args_list_clear_1 _) (AutoSeq1.list_clear_list_0 l J3.toArray n (by rw[qb6];lia)) ⟨e,?_⟩;exact⟨.non,_,I.lset (its':=[]) (ys:=[]) U e rfl .nil (qg9 _),rfl,q⟩
theorem n5{α:Type}(xs:η α)(k:Nat):(qb1 k xs).flatten.length=k*xs.length:=by
 induction k with
 |zero=>simp
 |succ k O=>rw[qf7,qk4,qc5,O,Nat.succ_mul,zb7]
end
section
variable{κ:Type}[DecidableEq κ]
def bM(J1:η (κ×V))(k:κ):ζ V:=(J1.find? fun kv=>decide (kv.1=k)).map (·.2)
def bT(J1:η (κ×V))(k:κ)(v:V):η (κ×V):=if(J1.any fun kv=>decide (kv.1=k))=θ then J1.map (fun kv=>if kv.1=k then(kv.1,v)else kv)else J1++[(k,v)]
theorem eF{p:κ×V}{r:η (κ×V)}{k:κ}(e:p.1=k):bM (p::r) k=ς p.2:=by simp[bM,qk6,e]
theorem c9{p:κ×V}{r:η (κ×V)}{k:κ}(e:¬ p.1=k):bM (p::r) k=bM r k:=by simp[bM,qk6,e]
theorem eG(k:κ):∀J1:η (κ×V),(J1.any fun kv=>decide (kv.1=k))=(bM J1 k).isSome
 |[]=>rfl
 |p::r=>by
  rw[ql5];by_cases e:p.1=k
  .simp only[eF e,decide_eq_true e,Bool.true_or,Option.isSome_some]
  .rw[c9 e,decide_eq_false e,ze4];exact eG k r
theorem db(J1:η (κ×V))(k:κ)(v:V):(bT J1 k v).length<=J1.length+1:=by
 unfold bT;split
 .rw[qa4];lia
 .rw[qc5,qb8,qg4];lia
theorem rR{J1:η (κ×V)}{k:κ}(v:V)(h:bM J1 k=ψ):bT J1 k v=J1++[(k,v)]:=by unfold bT;rw[eG,h];exact if_neg Ω
theorem RelO.isSome_eq{o:ζ V}{u:ζ Value}(r:RelO o u):o.isSome=u.isSome:=by
 cases o with
 |none=>cases u with
  |none=>rfl
  |some _=>exact(show False from r).elim
 |some _=>cases u with
  |none=>exact(show False from r).elim
  |some _=>rfl
theorem RelO.getD{o:ζ V}{u:ζ Value}{d:V}{d':Value}(r:RelO o u)(rd:RelV d d'):RelV (o.getD d) (u.getD d'):=by
 cases o with
 |none=>cases u with
  |none=>exact rd
  |some _=>exact(show False from r).elim
 |some _=>cases u with
  |none=>exact(show False from r).elim
  |some _=>exact r
theorem KV.val{J1:η (κ×V)}{vs:η (κ×Value)}(r:KV J1 vs)(k:κ):RelO (bM J1 k) (zf1 vs k):=by
 unfold KV at r;induction r with
 |nil=>exact qk8
 |@cons p q ps O h t W=>
  obtain⟨h1,h2⟩:=h;by_cases e:p.1=k
  .have U:q.1=k:=h1.symm.trans e;have b:zf1 (q::O) k=ς q.2:=by simp[zf1,qk6,U]
   rw[eF e,b];exact h2
  .have U:¬ q.1=k:=fun z=>e (h1.trans z)
   have b:zf1 (q::O) k=zf1 O k:=by simp[zf1,qk6,U]
   rw[c9 e,b];exact W
theorem KV.any{J1:η (κ×V)}{vs:η (κ×Value)}(r:KV J1 vs)(k:κ):(J1.any fun kv=>decide (kv.1=k))=vs.any fun kv=>decide (kv.1=k):=by
 unfold KV at r;induction r with
 |nil=>rfl
 |cons h t O=>rw[ql5,ql5,O,h.1]
theorem KV.repl {J1:η (κ×V)} {vs:η (κ×Value)} (r:KV J1 vs) (k:κ) (U:RelV y u) :
  KV (J1.map fun kv=>if kv.1=k then(kv.1,y)else kv) (vs.map fun kv=>if kv.1=k then(kv.1,u)else kv):=by
 unfold KV at r ⊢;induction r with
 |nil=>exact .nil
 |@cons p q ps W h t O=>
  rw[qa3,qa3];refine .cons ?_ O;obtain⟨h1,h2⟩:=h;by_cases e:p.1=k
  .rw[if_pos e,if_pos (h1.symm.trans e)];exact⟨h1,U⟩
  .rw[if_neg e,if_neg (fun z=>e (h1.trans z))];exact⟨h1,h2⟩
theorem KV.put{J1:η (κ×V)}{vs:η (κ×Value)}(r:KV J1 vs)(k:κ)(O:RelV y u):KV (bT J1 k y) (stored vs k u):=by
 unfold bT stored;rw[r.any k];by_cases e:(vs.any fun kv=>decide (kv.1=k))=θ
 .rw[if_pos e,if_pos e];exact r.repl k O
 .rw[if_neg e,if_neg e];exact Paired.snoc r ⟨rfl,O⟩
theorem KV.length{J1:η (κ×V)}{vs:η (κ×Value)}(r:KV J1 vs):J1.length=vs.length:=Paired.length r
end
variable{P:qe7}
theorem hU{w:J5}{k:Key}(r:RelV (kV k) u):(av P w).is k u=θ:=by
 cases k with
 |inl i=>obtain⟨t,e⟩:=(show ∃t,u=zd7 i t from r);subst e;exact kZ P w i t
 |inr x=>obtain⟨t,e⟩:=(show ∃t,u=zd8 x t from r);subst e;exact k7 P w x t
theorem je{w:J5}:∀{ks:η Key}{us:η Value},Vals (ks.map kV) us->ItemsAre (av P w) ks us
 |[],_,r=>by rw[qe0]at r;cases r;exact .nil
 |k::ks,_,r=>by
  rw[qa3]at r;cases r with
  |cons h t=>exact .cons (hU h) (je t)
abbrev KT(H:Hp):η (η Key×V)->η (η Key×J4×Value)->Prop:=Paired fun p q=>p.1=q.1/\H q.2.1=ς (.t (p.1.map kV))/\RelV p.2 q.2.2
variable{J1:η (η Key×V)}
theorem KT.val{xs:η (η Key×J4×Value)}(r:KT H J1 xs)(k:η Key):RelO (bM J1 k) ((atKey xs k).map (·.2)):=by
 induction r with
 |nil=>exact qk8
 |@cons p q ps O h t W=>
  obtain⟨h1,_,h2⟩:=h;by_cases e:p.1=k
  .have U:q.1=k:=h1.symm.trans e;have b:atKey (q::O) k=ς q.2:=by simp[atKey,qk6,U]
   rw[eF e,b];exact h2
  .have U:¬ q.1=k:=fun z=>e (h1.trans z)
   have b:atKey (q::O) k=atKey O k:=by simp[atKey,qk6,U]
   rw[c9 e,b];exact W
theorem KT.repl {xs:η (η Key×J4×Value)} (r:KT H J1 xs) (k:η Key) (W:RelV y u) :
  KT H (J1.map fun kv=>if kv.1=k then(kv.1,y)else kv) (xs.map (putAt k u)):=by
 induction r with
 |nil=>exact .nil
 |@cons p q ps Z h t U=>
  rw[qa3,qa3];refine .cons ?_ U;obtain⟨h1,h2,O⟩:=h;unfold putAt;by_cases e:p.1=k
  .rw[if_pos e,if_pos (h1.symm.trans e)];exact⟨h1,h2,W⟩
  .rw[if_neg e,if_neg (fun z=>e (h1.trans z))];exact⟨h1,h2,O⟩
variable{b:J4}
theorem KT.put {xs:η (η Key×J4×Value)} (r:KT H J1 xs) (k:η Key) (hb:H b=ς (.t (k.map kV))) (O:RelV y u) :
  KT H (bT J1 k y) (storedH xs k b u):=by
 have e:(J1.any fun kv=>decide (kv.1=k))=(atKey xs k).isSome:=by rw[eG,(r.val k).isSome_eq,qx6]
 unfold bT storedH;rw[e];by_cases q:(atKey xs k).isSome=θ
 .rw[if_pos q,if_pos q];exact r.repl k O
 .rw[if_neg q,if_neg q];exact Paired.snoc r ⟨rfl,hb,O⟩
variable{H':Hp}
theorem KT.keeps{xs:η (η Key×J4×Value)}(r:KT H J1 xs)(O:∀b ys,H b=ς (.t ys)->H' b=ς (.t ys)):KT H' J1 xs:=Paired.mapP r fun _ _ z=>⟨z.1,O _ _ z.2.1,z.2.2⟩
section
variable{P:qe7}{w:J5}{H:Hp}{h:Heap}{a:J4}
theorem yM{u:HO}(ok:HOk P w H h)(e:Rd H a u):ObjOk P w H h a u:=e.ok ok
theorem gk{J1:η (Key×V)}(ok:HOk P w H h)(e:Rd H a (.dK J1)):J1.length<=qa9/\(a==qk1)=ξ/\∃vs,KV J1 vs/\h.DictOf (av P w) a vs:=show ObjOk P w H h a (.dK J1)from yM ok e
theorem yN{J1:η (Key×V)}(ok:HOk P w H h)(e:H a=ς (.dK J1)):J1.length<=qa9/\(a==qk1)=ξ/\∃vs,KV J1 vs/\h.DictOf (av P w) a vs:=gk ok (.inl e)
theorem fM{ks:η Key}(ok:HOk P w H h)(e:H a=ς (.t (ks.map kV))):(za6 (av P w)).is h ks a:=by obtain⟨_,J3,r,⟨o,h1,h2,n,O⟩,_⟩:=(show ObjOk P w H h a (.t (ks.map kV))from ok a _ e);exact⟨o,J3.toArray,n,h1,h2,O,by simpa using je r⟩
theorem hZ (ok:HOk P w H h) (e:Rd H a (.dT J1)):J1.length<=qa9/\(a==qk1)=ξ∧
  ∃xs,KT H J1 xs/\h.DictOfH (za6 (av P w)) a xs:=by
 obtain⟨z,y,xs,r,o,es,ep,h1,h2,W,h4,Z⟩:=(show ObjOk P w H h a (.dT J1)from yM ok e);refine⟨z,y,xs,r,o,es,ep,h1,h2,W,h4,fun x O=>?_,Z⟩
 have all:∀{l:η (η Key×V)}{m:η (η Key×J4×Value)},KT H l m->∀x∈m,(za6 (av P w)).is h x.1 x.2.1:=by
  intro l m q;induction q with
  |nil=>intro x O;exact nomatch O
  |@cons p q ps qs U t ih=>
   intro x O;rcases qc4.mp O with e|O
   .subst e;exact fM ok (by rw[<- U.1];exact U.2.1)
   .exact ih x O
 exact all r x O
theorem DP(ok:HOk P w H h)(e:H a=ς (.dT J1)):J1.length<=qa9/\(a==qk1)=ξ∧∃xs,KT H J1 xs/\h.DictOfH (za6 (av P w)) a xs:=hZ ok (.inl e)
end
def DGet(H:Hp)(a:J4)(y:V)(r:ζ V):Prop:=(∃J1 k,Rd H a (.dK J1)/\y=kV k/\r=bM J1 k)∨∃J1 k b,Rd H a (.dT J1)/\y=.ref b/\H b=ς (.t (k.map kV))/\r=bM J1 k
def DPut(H:Hp)(a:J4)(y v:V)(H':Hp):Prop:=
 (∃J1 k,H a=ς (.dK J1)/\y=kV k/\J1.length<qa9/\H'=upd H a (.dK (bT J1 k v)))∨
 ∃J1 k b,H a=ς (.dT J1)/\y=.ref b/\H b=ς (.t (k.map kV))/\J1.length<qa9/\H'=upd H a (.dT (bT J1 k v))
variable{a:J4}
theorem DGet.k{J1:η (Key×V)}{k:Key}(e:H a=ς (.dK J1)):DGet H a (kV k) (bM J1 k):=.inl ⟨J1,k,.inl e,rfl,rfl⟩
theorem DGet.t{k:η Key}(e:H a=ς (.dT J1))(O:H b=ς (.t (k.map kV))):DGet H a (.ref b) (bM J1 k):=.inr ⟨J1,k,b,.inl e,rfl,O,rfl⟩
theorem DPut.k{J1:η (Key×V)}{k:Key}{v:V}(e:H a=ς (.dK J1))(hl:J1.length<qa9):DPut H a (kV k) v (upd H a (.dK (bT J1 k v))):=.inl ⟨J1,k,e,rfl,hl,rfl⟩
theorem DPut.t {k:η Key} {v:V} (e:H a=ς (.dT J1)) (O:H b=ς (.t (k.map kV))) (hl:J1.length<qa9) :
  DPut H a (.ref b) v (upd H a (.dT (bT J1 k v))):=.inr ⟨J1,k,b,e,rfl,O,hl,rfl⟩
variable{Q:Value->qb0->Prop}{h':Heap}
section
variable{X:Cx}{J0:η (J4×Obj)}{σ:af}{H:Hp}{s:qb0}{a:J4}{y v:V}{u r:Value}{o:ζ V}{A:ql3}{E:Value->qb0->Prop}
theorem Inv.big(I:Inv X J0 σ H s):qk1<s.heap.objs.size:=by have h:qe8<s.heap.objs.size:=(I.mod.glob.keeps I.bk).lt;exact ql6 Ω h
theorem pZ (hu:A.units+1<cLine) (I:Inv X J0 σ H s) (g:DGet H a y (ς v)) (ry:RelV y u) (h:∀ W s',Inv X J0 σ H s'->RelV v W->Q W s') :
  wpAny (model X.prog X.w) A (zg5 (.ref a) u) Q E s:=by
 rcases g with ⟨J1,k,e,ey,l⟩|⟨J1,k,b,e,ey,eb,l⟩
 .subst ey;obtain⟨z,hd,vs,U,Z⟩:=gk I.hok e;obtain⟨W,hw,O⟩:=RelO.some_of (v:=v) (o:=zf1 vs k) (by rw[l];exact U.val k);exact wpAny_getItem_of (hU ry) Z.mapOf hw (h W _ (I.tok _) O)
 .subst ey;cases (show u=qc1 b from ry);obtain⟨z,hd,xs,U,Z⟩:=hZ I.hok e;obtain⟨W,hw,O⟩:=RelO.some_of (v:=v) (o:=(atKey xs k).map (·.2)) (by rw[l];exact U.val k);obtain⟨p,hp,hp2⟩:=qd3.mp hw;refine wpAny_getItem_heap (qn8 hu) (fM I.hok eb) Z hp ?_;rw[hp2];exact h W _ (I.tok _) O
theorem d_in (hu:A.units+1<cLine) (I:Inv X J0 σ H s) (g:DGet H a y o) (ry:RelV y u) (h:∀ s',Inv X J0 σ H s'->Q (.bool o.isSome) s') :
  wpAny (model X.prog X.w) A (qf0 .In u (.ref a)) Q E s:=by
 rcases g with ⟨J1,k,e,Z,l⟩|⟨J1,k,b,e,Z,eb,l⟩
 .subst Z;obtain⟨z,U,vs,O,W⟩:=gk I.hok e;refine wpAny_in_of (hU ry) U W.mapOf ?_;rw[<- (O.val k).isSome_eq,<- l];exact h _ (I.tok _)
 .subst Z;cases (show u=qc1 b from ry);obtain⟨z,U,xs,O,W⟩:=hZ I.hok e;refine wpAny_in_heap (qn8 hu) (fM I.hok eb) U W ?_;have q:=(O.val k).isSome_eq;rw[qx6]at q;rw[<- q,<- l];exact h _ (I.tok _)
theorem v5 (hu:A.units+1<cLine) (I:Inv X J0 σ H s) (g:DGet H a y o) (ry:RelV y u) (h:∀ s',Inv X J0 σ H s'->Q (.bool (!o.isSome)) s') :
  wpAny (model X.prog X.w) A (qf0 .NotIn u (.ref a)) Q E s:=by
 rcases g with ⟨J1,k,e,Z,l⟩|⟨J1,k,b,e,Z,eb,l⟩
 .subst Z;obtain⟨z,U,vs,O,W⟩:=gk I.hok e;refine wpAny_notIn_of (hU ry) U W.mapOf ?_;rw[<- (O.val k).isSome_eq,<- l];exact h _ (I.tok _)
 .subst Z;cases (show u=qc1 b from ry);obtain⟨z,U,xs,O,W⟩:=hZ I.hok e;refine wpAny_notIn_heap (qn8 hu) (fM I.hok eb) U W ?_;have q:=(O.val k).isSome_eq;rw[qx6]at q;rw[<- q,<- l];exact h _ (I.tok _)
theorem gx {ob:HO} (I:Inv X J0 σ H s) (U:Mut (H a)) (hs:qg0 a s.heap h') (O:∃ q,h'.get? a=ς q) (new:ObjOk X.prog X.w (upd H a ob) h' a ob) :
  Inv X J0 σ (upd H a ob) {s with heap:=h',toks:=t'}:=
 I.write (x:=a) (e:=a) U (.inl rfl) (fun b q hb z=>(hs.2 b hb).trans z) O new
theorem mN {w:J5} {J1:η (Key×V)} {vs:η (Key×Value)} (z:J1.length<=qa9) (U:(a==qk1)=ξ) (O:KV J1 vs) (W:h'.DictOf (av P w) a vs) :
  ObjOk P w H' h' a (.dK J1):=⟨z,U,vs,O,W⟩
theorem p4 {Q:Unit->qb0->Prop} (hu:A.units+1<cLine) (I:Inv X J0 σ H s) (g:DPut H a y v H') (ry:RelV y u) (rv:RelV v r) (h:∀ s',Inv X J0 σ H' s'->Q () s') :
  wpAny (model X.prog X.w) A (setItem (.ref a) u r) Q E s:=by
 rcases g with ⟨J1,k,e,ey,l,eH⟩|⟨J1,k,b,e,ey,eb,l,eH⟩
 .subst ey eH;obtain⟨z,hd,vs,O,dd⟩:=yN I.hok e;have Z:vs.length<=qa9:=by rw[<- O.length];exact z
  have hl:(bT J1 k v).length<=qa9:=by have:=db J1 k v;lia
  refine wpAny_setItem_pairs (hsz:=Z) (hU ry) dd fun h' U hs=>h _ ?_
  have he:∃q,h'.get? a=ς q:=let ⟨q,_,_,W,_⟩:=U;⟨q,W⟩;exact gx I (by rw[e];exact qk8) hs he (mN hl hd (O.put k rv) U)
 .subst ey eH;cases (show u=qc1 b from ry);obtain⟨z,hd,xs,O,dd⟩:=DP I.hok e;have Z:xs.length<=qa9:=by rw[<- Paired.length O];exact z
  have hl:(bT J1 k v).length<=qa9:=by have:=db J1 k v;lia
  refine wpAny_setItem_heap (hsz:=Z) (qn8 hu) (fM I.hok eb) dd fun h' U hs=>h _ ?_
  obtain⟨q,es,ep,W,h2,h3,h4,_,h5⟩:=U;refine gx I (by rw[e];exact qk8) hs ⟨q,W⟩ ⟨hl,hd,_,(O.put k eb rv).keeps fun c ys ec=>?_,q,es,ep,W,h2,h3,h4,h5⟩;rw[ai (Dr ec e (fun z=>nomatch z))];exact ec
end
section
variable{X:Cx}{J0:η (J4×Obj)}{σ:af}{H:Hp}{s:qb0}{a:J4}{J1:η (Key×V)}{k:Key}{u:Value}{A:ql3}{E:Value->qb0->Prop}
theorem v6(I:Inv X J0 σ H s)(e:H a=ς (.dK J1))(h:∀s',Inv X J0 σ (upd H a (.dK [])) s'->Q .none s'):wpAny (model X.prog X.w) A (call (.builtin "dict.clear") [.ref a]) Q E s:=by obtain⟨z,hd,vs,U,W⟩:=yN I.hok e;refine zb8 PySem.F.slot_dict_clear W.typeIs PySem.F.entry_dict_clear (PySem.F.args_dict_clear_1 _) (meets_dict_clear (av X.prog X.w) a) ⟨vs,W,by rw[<- U.length];exact z,fun h' O Z=>h _ ?_⟩;have he:∃q,h'.get? a=ς q:=let ⟨q,_,_,hq,_⟩:=O;⟨q,hq⟩;exact gx (t':=s.toks) I (by rw[e];exact qk8) Z he (mN (qg9 _) hd .nil O)
end
variable{X:Cx}
theorem lh{s:qb0}{o:ζ V}(I:Inv X J0 σ H s)(g:DGet H a y o):s.TypeIs (.ref a) "dict":=by
 rcases g with ⟨J1,k,e,_,_⟩|⟨J1,k,b,e,_,_,_⟩
 .obtain⟨_,_,vs,_,O⟩:=gk I.hok e;exact O.typeIs
 .obtain⟨_,_,xs,_,O⟩:=hZ I.hok e;exact O.typeIs
theorem rS{w:J5}(h:Heap)(hb:qk1<h.objs.size):ObjOk P w H (h.push {cls:=.type "dict",data:=.dict #[]}) h.objs.size (.dK []):=⟨qg9 _,beq_eq_false_iff_ne.mpr (qk5 (qc2 hb)),[],.nil,Heap.DictOf.new h⟩
theorem rT{w:J5}(h:Heap)(hb:qk1<h.objs.size):ObjOk P w H (h.push {cls:=.type "dict",data:=.dict #[]}) h.objs.size (.dT []):=⟨qg9 _,beq_eq_false_iff_ne.mpr (qk5 (qc2 hb)),[],.nil,_,#[],0,qb9 _ rfl,⟨rfl,rfl,rfl⟩,rfl,rfl,qw8⟩
def AL:TE:=fun _ H Q=>∀p,H p=ψ->Q (.ref p) (upd H p (.dK []))
def AM:TE:=fun _ H Q=>∀p,H p=ψ->Q (.ref p) (upd H p (.dT []))
section
variable{X:Cx}{pos:Pos}
theorem rV:PE X (.Dict [] [] pos) AL:=fun J0 s σ H Q I h=>wpAny_Dict_empty ⟨.ref s.heap.objs.size,_,I.laid (a:=s.heap.objs.size) (o:=.dK []) (t':=s.toks) (fun _ _ q=>gP _ q) (nL _) (rS s.heap I.big),rfl,h _ (I.hok.fresh (nL _))⟩
theorem rW:PE X (.Dict [] [] pos) AM:=fun J0 s σ H Q I h=>wpAny_Dict_empty ⟨.ref s.heap.objs.size,_,I.laid (a:=s.heap.objs.size) (o:=.dT []) (t':=s.toks) (fun _ _ q=>gP _ q) (nL _) (rT s.heap I.big),rfl,h _ (I.hok.fresh (nL _))⟩
end
structure M2(X:Cx)(o:J6)(m:Str)(apos:Pos)(e f:J6)(cpos:Pos):Prop where
 base:qh5 o m X.env (eval o X.env)=eval o X.env
 few:((qh3 cpos (qb3 [e,f] X.env)).all (fun x=>!x.1)&&(qo8 cpos (qi2 [] X.env)).all (fun x=>x.1.isSome)
  && decide (([e,f]:List J6).length+([]:List qw7).length+(if([]:List qw7).isEmpty then 0 else 1)<30))=θ
 line:(apos.endLine==cpos.line)=θ
 trees:qh3 cpos (qb3 [e,f] X.env)=[(ξ,eval e X.env),(ξ,eval f X.env)]
def IsD(H:Hp)(a:J4):Prop:=(∃J1,Rd H a (.dK J1))∨∃J1,Rd H a (.dT J1)
theorem AN {s:qb0} (I:Inv X J0 σ H s) (d:IsD H a) :
  s.TypeIs (.ref a) "dict"/\(∀b,qc1 a=.ref b->∃ob,s.heap.get? b=ς ob/\ob.dict=ψ)/\(a==qk1)=ξ:=by
 rcases d with ⟨J1,e⟩|⟨J1,e⟩
 .obtain⟨_,U,vs,_,O⟩:=gk I.hok e;refine⟨O.typeIs,fun b q=>?_,U⟩;cases q;obtain⟨ob,_,_,h1,h2,_⟩:=O;exact⟨ob,h1,h2.2.1⟩
 .obtain⟨_,U,xs,_,O⟩:=hZ I.hok e;refine⟨O.typeIs,fun b q=>?_,U⟩;cases q;obtain⟨ob,_,_,h1,h2,_⟩:=O;exact⟨ob,h1,h2.2.1⟩
section
variable{X:Cx}{J0:η (J4×Obj)}{σ:af}{H:Hp}{s:qb0}{a:J4}{y d:V}{u r:Value}{o:ζ V}{A:ql3}{E:Value->qb0->Prop}
theorem AO (hu:A.units+1<cLine) (I:Inv X J0 σ H s) (g:DGet H a y o) (ry:RelV y u) (rd:RelV d r) (h:∀ w' s',Inv X J0 σ H s'->RelV (o.getD d) w'->Q w' s') :
  wpAny (model X.prog X.w) A (call (.builtin "dict.get") [.ref a,u,r]) Q E s:=by
 rcases g with ⟨J1,k,e,Z,l⟩|⟨J1,k,b,e,Z,eb,l⟩
 .subst Z;obtain⟨z,W,vs,O,U⟩:=gk I.hok e;refine zb8 PySem.F.slot_dict_get U.typeIs PySem.F.entry_dict_get (PySem.F.args_dict_get_3 _ _ _) (meets_dict_get_default (av X.prog X.w) a (hU ry) W r) ⟨_,U.mapOf,h _ _ (I.tok _) ?_⟩;rw[l];exact(O.val k).getD rd
 .subst Z;cases (show u=qc1 b from ry);obtain⟨z,W,xs,O,U⟩:=hZ I.hok e;refine zb8 PySem.F.slot_dict_get U.typeIs PySem.F.entry_dict_get (PySem.F.args_dict_get_3 _ _ _) (meetsH_dict_get_default (za6 (av X.prog X.w)) a b W r) ⟨qn8 hu,k,xs,fM I.hok eb,U,h _ _ (I.tok _) ?_⟩;rw[l];exact(O.val k).getD rd
end
def AQ(td ty tx:TE):TE:=fun σ H Q=>td σ H fun x H1=>∃a,x=.ref a/\IsD H1 a/\ty σ H1 fun y H2=>tx σ H2 fun z O=>∃o,DGet O a y o/\Q (o.getD z) O
section
variable{X:Cx}{o e f:J6}{apos cpos:Pos}{td ty tx:TE}
theorem rX(hu:X.A.units+1<cLine)(ho:PE X o td)(he:PE X e ty)(hf:PE X f tx)(m:M2 X o "get" apos e f cpos):PE X (.Call (.Attribute o "get" apos) [e,f] [] cpos) (AQ td ty tx):=by
 intro J0 s σ H Q I h;refine wpAny_Call_method m.base m.few m.line PySem.F.plainAttrs_dict PySem.F.slot_dict_get PySem.F.type_dict_get (thn (ho J0 s σ H _ I h) fun u s1 ⟨x,H1,U,rx,a,ex,d,q1⟩=>?_);subst ex;obtain rfl:u=qc1 a:=rx;obtain⟨t1,t2,_⟩:=AN U d;refine⟨t1,t2,?_⟩;rw[m.trees]
 refine qr9 rfl (Calls.evalArgs_plain (qv6 (thn (he J0 s1 σ H1 _ U q1) fun iv s2 ⟨y,H2,I2,Z,q2⟩=>qv6 (thn (hf J0 s2 σ H2 _ I2 q2) fun fv s3 ⟨z,W,I3,rz,ov,g,q3⟩=>Calls.spliced_nil ?_))))
 exact AO hu I3 g Z rz fun w' s4 I4 O=>⟨_,W,I4,O,q3⟩
end
end L2
namespace Att
open PySem PySem.W PySem.Calls PyProof.Rows
variable{P:Params}{h:Heap}
theorem gr:∀(ns:η Int)(vs:η Value),WellAll P h vs (ns.map WData.int)->zf0 vs ns:=by
 intro ns;induction ns with
 |nil=>intro vs w;rw[qe0]at w;cases w;exact .nil
 |cons n ns O=>
  intro vs w;rw[qa3]at w;cases w with
  |cons a b=>cases a;exact .cons _ _ (O _ b)
variable{l:OpenLaw}{n:Nat}
theorem p5(hn:l.most=ς n){args:η WData}{O:η Value}
 (U:l.row.toRowW.claim.pre args=θ) (hwl:WellAll P h O args) :
  ∃a vs ns,O=[qc1 a]/\args=[WData.list (ns.map WData.int)]/\h.get? a=ς {cls:=.type "list",data:=.seq vs.toArray}/\zf0 vs ns/\ns.length<=n:=by
 have hsh:WShape.hasAll [] args [.list .int]=θ:=(pre_splitW U).1;have hc:l.pre.holds [] {args:=args}=θ:=(pre_splitW U).2;obtain⟨d,r,rfl,h1,h2⟩:=hasAllW_cons hsh;obtain rfl:=hasAllW_nil h2;obtain⟨xs,rfl,h3⟩:=hasW_list h1;obtain⟨ns,rfl⟩:=items_int h3
 have Z:ns.length<=n:=by
  unfold OpenLaw.pre at hc
  have h4:(WTm.not (.lt (.lit (.int (n:Int))) (.len (.arg 0)))).holds [] {args:=[.list (ns.map .int)]}=θ:=by have h4:=(holds_andW hc).1;rw[hn]at h4;exact h4
  have h5:=condW_of h4 (w_not (w_lt w_lit (w_len_list (w_arg rfl))));rw[qa4]at h5;refine Nat.le_of_not_lt fun q=>?_
  have q':(n:Int)<((ns.length:Nat):Int):=by lia
  first
   |(rw[decide_eq_true q']at h5;exact absurd h5 Ω)
   |(simp at h5;lia)
 cases hwl with
 |cons w1 w2=>
  cases w2;cases w1 with
  |list ho W=>exact⟨_,_,ns,rfl,rfl,ho,gr ns _ W,Z⟩
theorem p6(l:OpenLaw)(args:η WData):l.row.toRowW.claim.post args (.bool θ) args=θ:=
 postW_of (r:=l.row.toRowW) (X:=(θ==θ))
  (show WShape.has [] (.bool θ) .bool=θ by first|rfl|decide|simp[WShape.has,WShape.arms,WShape.armsAll])
  (show(WTm.eq .res (.lit (.bool θ))).value [] {args:=args,res:=ς (.bool θ),after:=args}=ς (.bool (θ==θ))from w_eq_bool (w_res rfl) w_lit) rfl
theorem yO{q:qe7}{W:η Str}{XP:(Str->ζ Value)->Heap->Prop}{YP:J5->Heap->Prop}{d:DefRec}
 (hn:l.most=ς n) (hdf:d.params.defaults=[])
 (call:∀(w:J5)(U O:qb0)(mg mb:Str->ζ Value)(fa:J4)(o:Obj)(pm cd Z:Value)(a:J4)(vs:η Value)(ns:η Int),
 Ground q W [] XP w U mg mb O.heap->YP w O.heap→
 O.heap.get? fa=ς o->o.data=.func (docDef d.name d.params d.body d.scope pm cd Z)->O.heap.CodeRec cd d.name->mg d.name=ς (.ref fa)→
 O.heap.get? a=ς {cls:=.type "list",data:=.seq vs.toArray}->zf0 vs ns->ns.length<=n->O.gens=#[]→
 qu5 (model l.prog w) zd5 (.call (.ref fa) ⟨[.ref a],[]⟩) (fun r s'=>r=.ok (.ret (.bool θ))/\OldK O.heap s'.heap/\s'.os=O.os/\za8 s'.gens) O) :
  WalkO q W XP YP l.row.toRowW d [] (fun f vs=>PySem.call f vs):=by
 intro w U O mg mb G Y fa o pm cd Z dV kV ho hd hcd hD hmg hg args vals as hpre hlay hrd hwl hlo;obtain rfl:dV=.none:=Dflts.none hD hdf;obtain rfl:kV=.none:=Dflts.noKw hD;obtain⟨a,vs,ns,rfl,rfl,hobj,hints,hlen⟩:=p5 hn hpre hwl;refine enter_call (zb2 (call w U O mg mb fa o pm cd Z a vs ns G Y ho (fd_plain hd) hcd hmg hobj hints hlen hg) fun r s' hq=>?_);obtain⟨rfl,h2,h3,h4⟩:=hq;exact⟨.inl ⟨.bool θ,.bool θ,[],rfl,fun _=>rfl,.bool θ,p6 l _,fun _=>⟨qx7,fun _ hm=>(nomatch hm)⟩⟩,h2,h3,h4⟩
end Att
namespace L2
open PySem PySem.Spec PyProof.Rows
theorem jf:∀{vs:η Value}{ns:η Int},zf0 vs ns->Vals (ns.map V.int) vs
 |_,_,.nil=>.nil
 |_,_,.cons n t h=>.cons ⟨t,rfl⟩ (jf h)
def mO(H:Hp):Prop:=∀b,H b=ψ∨∃o xs,H b=ς (.frz o (.e xs))
variable{x:Str}
theorem rY{P:qe7}{w:J5}{K:xA9}{mg mb:Str->ζ Value}{CX:CXT}{k:Nat}{fa a:J4}{fd:qn1}{sp:Sp}{s₁:qb0}{vs:η Value}{ns:η Int}
 (KX:K.In s₁.heap) (hns:s₁.heap.Ns qe8 mg) (hb:s₁.heap.Ns ze9 mb) (hbb:∀x:Str,x≠"__name__"->mb x=qf4 x) (hlim:s₁.heap.NoLimit) (hg:s₁.gens=#[]) (hT0:k8 K=[])
 (ha:s₁.heap.get? a=ς {cls:=.type "list",data:=.seq vs.toArray}) (hi:zf0 vs ns) (hl:ns.length<=qa9) (hr:Room k zd5)
 (F:∀base:Heap,K.In base->base.Ns qe8 mg->FnOk P w K mg base CX k fa fd [x] sp) (Z:∀(s:qb0)(u:Value),zg3 s fd ⟨[u],[]⟩ [(x,u)])
 (hsp:∀H:Hp,mO H->SqL K H a (ns.map V.int)->sp [.ref a] H (fun v _=>v=.bl θ) fun _ _ _=>False)
 (hCX:∀H e s',CX [] H s₁ (fun _ _ _=>False) e s'->False) :
  qu5 (model P w) zd5 (.call (.ref fa) ⟨[.ref a],[]⟩) (fun r s'=>r=.ok (.ret (.bool θ))/\OldK s₁.heap s'.heap/\s'.os=s₁.os/\za8 s'.gens) s₁:=by
 have rv:=jf hi;have lenV:=hi.length
 -- from an abstract heap in which nothing but the script may be tracked
 have U:∀ H:Hp,mO H->SqL K H a (ns.map V.int)->HOk P w H s₁.heap->(∀ b,H b≠ψ->b=a)->(H a≠ψ->K.lookup a=ψ)→
     qu5 (model P w) zd5 (.call (.ref fa) ⟨[.ref a],[]⟩) (fun r s'=>r=.ok (.ret (.bool θ))/\OldK s₁.heap s'.heap/\s'.os=s₁.os/\za8 s'.gens) s₁:=by
  intro H hO hS hok hA hK;have base_of:∀{b:J4}{o:Obj},s₁.heap.get? b=ς o->H b=ψ->(jN s₁.heap H).get? b=ς o:=fun e n=>qN e n
  have noA:∀{b:J4}{o:Obj}{es:Array DictEntry}{ep:Nat},s₁.heap.get? b=ς o->o.data=.dict es ep->H b=ψ:=fun {b o es ep} e d=>by
   cases q:H b with
   |none=>rfl
   |some u=>
    have e':b=a:=hA b (by rw[q];simp);subst e';rw[ha]at e;cases e
    have d':Data.seq vs.toArray _=Data.dict es ep:=d;cases d'
  have O:∀{b:J4}{m:Str->ζ Value},s₁.heap.Ns b m->(jN s₁.heap H).Ns b m:=fun {b m}⟨o,es,ep,e,d,r⟩=>⟨o,es,ep,base_of e (noA e d),d,r⟩
  have hKb:K.In (jN s₁.heap H):=fun b o e=>base_of (KX b o e) (by
   cases q:H b with
   |none=>rfl
   |some u=>have e':b=a:=hA b (by rw[q];simp);subst e';rw[hK (by rw[q];simp)]at e;cases e)
  have hM:Mod K mg (jN s₁.heap H):=⟨hKb,O hns,⟨mb,O hb,hbb⟩,let ⟨mc,h1,h2⟩:=hlim;⟨mc,O h1,h2⟩⟩;have e0:Env0 P w K mg (jN s₁.heap H) zd5 [] s₁ H:=⟨rfl,hM,fun b o e=>vB e,Nat.le_of_eq (pL _ _),trivial,fun b hb=>absurd (show b∈([]:η J4)from hb) Ξ,hok,.of_eq hg,fun p hp=>by rw[hT0]at hp;cases hp⟩;refine zb2 ((F _ hKb (O hns)).run zd5 [] s₁ H ⟨[.ref a],[]⟩ [.ref a] [.ref a] _ _ hr e0 (Z s₁ (.ref a)) (.cons rfl .nil) (hsp H hO hS)) fun r s' h=>?_
  cases r with
  |error e=>exact(hCX H e s' h).elim
  |ok fl=>
   cases fl with
   |next=>exact qk2 h
   |brk=>exact qk2 h
   |cont=>exact qk2 h
   |ret u=>
    obtain⟨v,H',os,bare,un,hok',r',q⟩:=h;have q':v=.bl θ:=q;subst q';obtain rfl:u=qs1 θ:=r';refine⟨rfl,OldK.of_keep fun b o e=>?_,os,bare⟩;cases q:H b with
    |none=>exact un.keep b o e q (by intro z;exact absurd (show b∈([]:η J4)from z) Ξ) Ξ
    |some u=>
     rcases hO b with z|⟨ob,xs,z⟩
     .rw[q]at z;cases z
     .have z2:=un.frzs b ob _ z;obtain⟨e1,_⟩:=hok b _ z;obtain⟨e2,_⟩:=hok' b _ z2;rw[e]at e1;cases e1
      exact e2
 cases hk:K.lookup a with
 |some o=>
  -- the script is one of the module's own objects
  have e:=KX a o hk;rw[ha]at e;cases e;refine U (fun _=>ψ) (fun _=>.inl rfl) (.inr ⟨_,vs.toArray,_,hk,rfl,rfl,rfl,by rw[qb6,lenV];exact hl,by simpa using rv⟩) (fun b u z=>by have z':(ψ:ζ HO)=ς u:=z;cases z') (fun b z=>absurd rfl z) fun z=>absurd rfl z
 |none=>
  refine U (fun b=>if b=a then ς (.frz {cls:=.type "list",data:=.seq vs.toArray} (.e (ns.map V.int)))else ψ) (fun b=>?_) (.inl (.inr ⟨{cls:=.type "list",data:=.seq vs.toArray},if_pos rfl⟩)) (fun b u z=>?_) (fun b z=>?_) fun _=>hk
  .by_cases hb:b=a
   .exact .inr ⟨_,_,if_pos hb⟩
   .exact .inl (if_neg hb)
  .by_cases hb:b=a
   .have z':=(if_pos hb).symm.trans z;cases z';subst hb;exact⟨ha,by rw[qa4];exact hl,vs,_,rv,ha⟩
   .have z':=(if_neg hb).symm.trans z;cases z'
  .by_cases hb:b=a
   .exact hb
   .exact absurd (if_neg hb) z
theorem FD{l:PySem.W.OpenLaw}{n k:Nat}{q:qe7}{U:η Str}{XP:(Str->ζ Value)->Heap->Prop}{YP:J5->Heap->Prop}{d:DefRec}{K:Params->xA9}{CX:J5->CXT}{sp:J5->Sp} 
 (hn:l.most=ς n) (hn2:n<=qa9) (hdf:d.params.defaults=[]) (hr:Room k zd5)
 (hY:∀(w:J5)(h:Heap),YP w h->(K w.params).In h) (hT0:∀w:J5,k8 (K w.params)=[])
 (F:∀(w:J5)(mg:Str->ζ Value)(fa:J4)(h:Heap),(K w.params).In h->h.Ns qe8 mg->mg d.name=ς (.ref fa)→
 ∃fd:qn1,(∀(s:qb0)(u:Value),zg3 s fd ⟨[u],[]⟩ [(x,u)])∧
 ∀base:Heap,(K w.params).In base->base.Ns qe8 mg->FnOk l.prog w (K w.params) mg base (CX w) k fa fd [x] (sp w))
 (hsp:∀(w:J5)(H:Hp)(a:J4)(ns:η Int),ns.length<=n->mO H->SqL (K w.params) H a (ns.map V.int)->sp w [.ref a] H (fun v _=>v=.bl θ) fun _ _ _=>False)
 (hCX:∀(w:J5)(H:Hp)(s:qb0)(e:Value)(s':qb0),CX w [] H s (fun _ _ _=>False) e s'->False) :
  PySem.W.WalkO q U XP YP l.row.toRowW d [] (fun f vs=>PySem.call f vs):=by
 refine Att.yO hn hdf fun w s₀ s₁ mg mb fa o pm cd doc a vs ns G Y ho hd hcd hmg hobj Z O hg=>?_
 have KX:=hY w _ Y;obtain⟨fd,hb,hF⟩:=F w mg fa _ KX G.T.g hmg;exact rY KX G.T.g G.T.b G.T.builtins G.T.nolimit hg (hT0 w) hobj Z (qd1 O hn2) hr hF hb (fun H hO hS=>hsp w H a ns O hO hS) fun H e s'=>hCX w H s₁ e s'
end L2
/- THE LAST THEOREM (shape;LID,My.* are yours):
   My.Adr: a structure of the addresses that your layer names (classes,functions);My.Txt K t: a structure (Prop) of the equations over K;
   My.txt_mk:{K} {implicit addresses ..} (e1:nsIn K qe8 "law"=ς (ς (.ref f))) (e2:K.lookup f=ς ⟨oc,od,.func (fnOf "law" "law" params body scope dV kV doc pm an cdv ct),sl⟩) (e3:codeIn K cdv "law"=θ) ..:∃t,My.Txt K t
(the tactic k_is has no namespace: write k_is) -/
namespace L2
open PySem PySem.Spec PyProof.Rows
abbrev CX0:CXT:=fun _ _ _ _ _ _=>False
abbrev E0:XK:=fun _ _ _=>False
variable{X:Cx}
theorem ia:cL CX0 X E0:=fun _ _ _ _ _ _ _ h=>h.elim
variable{A:ql3}
theorem lj{k:Nat}(O:Room k A):A.units+1<cLine:=qe4 (Nat.add_le_add_left (by decide:1<=64) _) O.units
def Same(H H':Hp):Prop:=∀b o,H b=ς o->H' b=ς o
theorem Same.refl(H:Hp):Same H H:=fun _ _ h=>h
variable{H:Hp}
theorem Same.trans{H1 H2:Hp}(a:Same H H1)(b:Same H1 H2):Same H H2:=fun c o h=>b c o (a c o h)
variable{H':Hp}
theorem Same.free(e:Same H H'){l:J4}(h:H' l=Option.none):H l=Option.none:=by
 cases q:H l with
 |none=>rfl
 |some o=>rw[e l o q]at h;cases h
variable{K:xA9}{a:J4}{xs:η V}
theorem Same.seq(e:Same H H')(h:SqL K H a xs):SqL K H' a xs:=by
 rcases h with (h|⟨o,h⟩)|h
 .exact .inl (.inl (e _ _ h))
 .exact .inl (.inr ⟨o,e _ _ h⟩)
 .exact .inr h
section
variable{κ:Type}[DecidableEq κ]
theorem v7{J1:η (κ×V)}{k:κ}{v:V}(h:bM J1 k=ς v):k∈J1.map (·.1):=by
 have q:(J1.any fun kv=>decide (kv.1=k))=θ:=by
  rw[eG,h]
  all_goals rfl
 obtain⟨p,hp,e⟩:=List.any_eq_true.mp q;exact qc8.mpr ⟨p,hp,of_decide_eq_true e⟩
end
def mP(names:η (Str×qv7))(cells:η (Str×J4)):η (Str×J4):=names.foldl (fun cs O=>if O.2==qg6 then(O.1,(cells.lookup O.1).getD 0)::cs else cs) []
variable{cells:η (Str×J4)}{env:Env}
theorem n6 (hc:env.cells=cells):∀ (names:η (Str×qv7)) (O:η (Str×J4)),(∀ x∈names,x.2=.free->∃ c,cells.lookup x.1=ς c)→
  (forIn names O (fun(x:Str×qv7)(r:η (Str×J4))=>if(x.2==qg6)=θ then(do let c <- cellOf env x.1;pure (qo3 ((x.1,c)::r)))else(pure (qo3 r):Sem _)))
   = (pure (names.foldl (fun cs Z=>if Z.2==qg6 then(Z.1,(cells.lookup Z.1).getD 0)::cs else cs) O):Sem (η (Str×J4)))
 |[],O,_=>rfl
 |x::r,O,h=>by
  have ih:=fun O=>n6 hc r O fun y hy=>h y (qe6 _ hy)
  simp only[List.forIn_cons,qr6];cases e:(x.2==qg6)with
  |false=>simp only[qg1,if_false];exact ih O
  |true=>
   obtain⟨c,W⟩:=h x qj0 (by simpa using e);have U:cellOf env x.1=pure c:=by unfold cellOf;rw[hc,W]
   simp only[if_true,U,W,ql0];exact ih _
variable{scope:J8}
theorem mQ{env:Env}(h:∀x∈scope.names,x.2=.free->∃c,env.cells.lookup x.1=ς c):closureFor scope env=pure (mP scope.names env.cells):=by have:=n6 (env:=env) rfl scope.names [] h;unfold closureFor mP;rw[<- this];simp only[bind_pure]
theorem jg:∀ {names:η (Str×qv7)} {O:η (Str×J4)} {x:Str} {c:J4},(∀ y∈names,y.2=.free->∃ c,cells.lookup y.1=ς c)→
  (names.foldl (fun cs Z=>if Z.2==qg6 then(Z.1,(cells.lookup Z.1).getD 0)::cs else cs) O).lookup x=ς c->(∀c,O.lookup x=ς c->cells.lookup x=ς c)->cells.lookup x=ς c
 |[],O,x,c,_,h,U=>U c h
 |y::r,O,x,c,hy,h,U=>by
  simp only[qr6]at h;refine jg (fun z hz=>hy z (qe6 _ hz)) h ?_;intro c' h';split at h'
  .rename_i hf;obtain⟨c0,e0⟩:=hy y qj0 (by simpa using hf);rw[qj4]at h';split at h'
   .rename_i hx;have W:x=y.1:=by simpa using hx
    rw[e0]at h';subst W;rw[e0];simpa using h'
   .exact U c' h'
  .exact U c' h'
variable{names:η (Str×qv7)}{x:Str}
theorem gm{c:J4}(O:∀y∈names,y.2=.free->∃c,cells.lookup y.1=ς c)(h:(mP names cells).lookup x=ς c):cells.lookup x=ς c:=jg O h fun c h=>by simp at h
theorem jh:∀ {names:η (Str×qv7)} {O:η (Str×J4)} {x:Str},((x,qg6)∈names∨(O.lookup x).isSome)→
  ((names.foldl (fun cs U=>if U.2==qg6 then(U.1,(cells.lookup U.1).getD 0)::cs else cs) O).lookup x).isSome
 |[],O,x,h=>by simpa using h
 |y::r,O,x,h=>by
  simp only[qr6];refine jh ?_;rcases h with h|h
  .rcases qc4.mp h with e|h
   .subst e;right;simp[qj4]
   .exact .inl h
  .right;split
   .rw[qj4];split
    .rfl
    .exact h
   .exact h
theorem ll(h:(x,qg6)∈names):∃c,(mP names cells).lookup x=ς c:=qd5.mp (jh (.inl h))
structure CmpScope(N:List Str)(outer scope:J8)(M:List Str)(src:List (Option Nat)):Prop where
 kind:scope.kind=.function
 nocell:∀y∈scope.names,y.2≠.cell
 free:∀y∈scope.names,y.2=.free->outer.names.lookup y.1=ς .cell∨outer.names.lookup y.1=ς .free
 names:∀y∈scope.names,y.2=.local->scope.names.lookup y.1=ς .local
 lf:∀y∈scope.names,y.2=.free->scope.names.lookup y.1=ς .free
 len:M.length=src.length
 nd:M.Nodup
 src:∀p∈M.zip src,∀j∈p.2,N[j]?=ς p.1/\(p.1,qg6)∈scope.names
def aP(src:η (ζ Nat))(σ:af):af:=src.map fun o=>o.bind fun j=>(σ[j]?).join
def cxC(X:Cx)(M:η Str)(scope:J8)(C:J4)(s:qb0)(H:Hp)(ex:η J4):Cx:={X with N:=M,s₀:=s,H₀:=H,env:=compEnvC scope (mP scope.names X.env.cells) C X.env,outer:=X.stack,ex:=ex,fn:=fun _=>ξ,pn:=[],xe:=fun _ _=>False}
def PTs(X:Cx)(ifs:η J6)(t:TT):Prop:=
 ∀(J0:η (J4×Obj))(s:qb0)(σ:af)(H:Hp)(Q:Bool->Hp->Prop),Inv X J0 σ H s->t σ H Q→
  wpAny (model X.prog X.w) X.A (forIn ifs θ fun c r=>if r=θ then do let ok <- isTrue c X.env (eval c X.env);pure (qo3 ok)else pure (qo3 r)) (TP X J0 σ Q) X.xe s
def tYes:TT:=fun _ H Q=>Q θ H
theorem v8:PTs X [] tYes:=fun J0 s σ H Q I h=>wpAny_tests_nil ⟨H,I,h⟩
theorem v9{c:J6}{t:TT}(h:PT X c t):PTs X [c] t:=fun J0 s σ H Q I O=>wpAny_tests_one (h J0 s σ H Q I O)
def Wk(a b:af):Prop:=a.length=b.length/\∀(i:Nat) v,a[i]?=ς (ς v)->b[i]?=ς (ς v)
def ji(src:η (ζ Nat))(wi:TI)(g:TG)(tt:TT)(te:TE):TE:=fun σ H Q=>wi σ H fun J H1=>∀D,H1 D=ψ->∃W:Nat->Nat->Hp->Prop,(∃m,W 0 m (upd H1 D (.e [])))/\∀i m H,W i m H→
 (J.stop i H/\Q (.ref D) H)∨(J.go i H/\∃N:Hp->Prop,(∀H',N H'->∃m',m'<m/\W (i+1) m' H')/\∀x H',J.yld i H x H'→
  g x (aP src σ) H' fun O H2=>Wk (aP src σ) O/\tt O H2 fun b U=>if b=θ then te O U fun v Z=>∃ys,Z D=ς (.e ys)/\ys.length<qa9/\N (upd Z D (.e (ys++[v])))else N U)
variable{pos:Pos}
theorem mR{prog:qe7}{w:J5}{R:Result->qb0->Prop}{s:qb0}{elt O iter:J6}{ifs:η J6}{it acc:Value}(I:Nat->qb0->Prop)
 (turn:∀n s,I n s->wpAny (model prog w) A (qz4 it) (fun r W=>match r with
 |none=>R (.ok .next) W
 |some v=>wpAny (model prog w) A (qu3 O it v) (fun _ U=>wpAny (model prog w) A (qz3 O env v) (fun _ Z=>
 wpAny (model prog w) A (forIn ifs θ fun c r=>if r=θ then do let ok <- isTrue c env (eval c env);pure (qo3 ok)else pure (qo3 r)) (fun ok s₃ =>
 if ok=θ then wpAny (model prog w) A (eval elt env) (fun x s₄ =>
 wpAny (model prog w) A (call (.builtin "list.append") [acc,x]) (fun _ s₅=>∃m,m<n/\I m s₅) (fun _ _=>False) s₄) (notedBy (model prog w) A env fun e s'=>R (.error e) s') s₃
 else ∃m,m<n/\I m s₃) (fun _ _=>False) Z) (fun _ _=>False) U) (fun _ _=>False) W) (fun _ _=>False) s)
 (n:Nat) (h:I n s) :
  qu5 (model prog w) A (.compLoop (.ListComp elt [⟨O,iter,ifs,0⟩] scope pos) 0 it acc env) R s:=by
 refine codeAny_loop rfl I (fun n s hI=>?_) n h;show wpAny _ A ((compTurn (.ListComp elt [⟨O,iter,ifs,0⟩] scope pos) 0 it acc env).onRaise (fun x=>do noteFrame x env;theTreesLotGoes x)) _ _ s;refine wpAny_noted ?_;rw[compTurn_list];refine wB (zd9 (wB (qn5 (turn n s hI) (fun r W h₁=>?_) fun _ _ h'=>h'.elim)));cases r with
 |none=>exact qa6 h₁
 |some v=>
  refine wB (qn5 h₁ (fun _ U h₁'=>?_) fun _ _ h'=>h'.elim);refine wB (qn5 h₁' (fun _ Z h₂=>wB (qn5 h₂ (fun ok s₃ h₃=>?_) fun _ _ h'=>h'.elim)) fun _ _ h'=>h'.elim);cases ok with
  |false=>exact qa6 ⟨rfl,h₃⟩
  |true=>exact wB (wB (qn5 h₃ (fun x s₄ h₄=>wB (qn5 h₄ (fun _ s₅ h₅=>qa6 (qa6 ⟨rfl,h₅⟩)) fun _ _ h'=>h'.elim)) fun _ _ h'=>h'))
variable{J0:η (J4×Obj)}{σ:af}{Q:VK}{cpos:Pos}{QQ:Value->qb0->Prop}{use:ζ (Value->Sem Unit)}
section
variable{X:Cx}{elt tg iter:J6}{ifs:η J6}{scope:J8}{pos:Pos}{M:η Str}{src:η (ζ Nat)}{wi:TI}{g:TG}{tt:TT}{te:TE}
theorem jW(hn:∀y∈scope.names,y.2≠.cell)(h:(relabel scope env).names.lookup x=ς .cell∨(relabel scope env).names.lookup x=ς .free):(x,qg6)∈scope.names:=by
 have O:∀k,(relabel scope env).names.lookup x=ς k->(k=.cell∨k=.free)->(x,qg6)∈scope.names:=by
  intro k hk U;have Z:=PySem.mem_of_lookup hk;unfold relabel at Z;obtain⟨⟨n,k0⟩,W,e⟩:=qc8.mp Z;dsimp only at e;split at e
  .rename_i hc;simp only[qa1]at hc;have:k0=.free:=by simpa using hc.1.1
   subst this;cases e;exact W
  .cases e;rcases U with z|z
   .subst z;exact absurd rfl (hn _ W)
   .subst z;exact W
 rcases h with h|h
 .exact O _ h (.inl rfl)
 .exact O _ h (.inr rfl)
theorem rZ{s s1:qb0}{fp:η J4}{m1:Str->ζ Value}(S:CmpScope X.N X.env.scope scope M src)(I:Inv X J0 σ H s)(hf:∀b∈fp,dS X J0 H b)
 (hfl:∀b∈fp,b<s.heap.objs.size) (hn:s1.heap.Ns s.heap.objs.size m1) (hk:∀b o,s.heap.get? b=ς o->s1.heap.get? b=ς o) (hos:s1.os=s.os) (hg:s1.gens=s.gens) :
  Inv (cxC X M scope s.heap.objs.size s H fp) [] (aP src σ) H s1:=by
 have hcells:∀x∈scope.names,x.2=.free->∃c,X.env.cells.lookup x.1=ς c:=fun x hx Z=>I.ok.has x.1 (S.free x hx Z)
 have O:∀x c,(mP scope.names X.env.cells).lookup x=ς c->X.env.cells.lookup x=ς c:=fun x c h=>gm hcells h
 have U:∀c v,s.heap.IsCell c v->s1.heap.IsCell c v:=fun c v ⟨o,ho,hd⟩=>⟨o,hk c o ho,hd⟩
 refine⟨⟨I.ok.mod,S.kind,I.ok.glob,I.ok.blt,nL _,fun y z c h1 h2=>I.ok.inj y z c (O _ _ h1) (O _ _ h2),fun x hx=>ll (jW S.nocell hx),fun x c h=>(nomatch h),I.ok.hd,I.ok.frames,.inl rfl,
  fun b hb=>⟨qc2 (hfl b hb),fun x c h=>(hf b hb).2.2.2.2.1 x c (O _ _ h)⟩,I.bs,qd1 I.ok.bsz I.sz,fun b o e hb=>?_,fun b hb z=>?_,I.stack,I.stkFree,fun p hp=>I.base.cts _ _ (I.ok.tb p hp)⟩,
  hos,(by rw[hg];exact I.bare),Un.kept hk,⟨m1,hn,fun i x v h1 h2 h3=>?_⟩,fun x c h=>?_,I.hok.fresh (qu2 _),fun x c h=>I.freeC x c (O _ _ h),fun p hp=>absurd hp (by simp[cxC]),I.hok.kept hk,?_⟩
 .rcases(hf b hb).2.2.2.1 with z|z
  .exact I.ok.noex b o e z
  .exact absurd (qc6 (qb5 e) (qd1 I.ok.bsz z)) (qm9 _)
 .rcases qc4.mp (I.stkSub b z)with q|q
  .exact(hf b hb).2.1 q
  .exact(hf b hb).2.2.1 q
 . -- a name taken over
   have h1:M[i]?=ς x:=h1;unfold aP at h2;rw[qa8]at h2;cases hs:src[i]? with
   |none=>rw[hs]at h2;cases h2
   |some o=>
    rw[hs]at h2;simp only[qb2,qx8]at h2;cases o with
    |none=>cases h2
    |some j=>
     simp only[qa0]at h2
     have hmem:(x,ς j)∈M.zip src:=by
      have:(M.zip src)[i]?=ς (x,ς j):=by rw[qw9];exact⟨h1,hs⟩
      exact qa5 this
     obtain⟨hN,Z⟩:=S.src _ hmem j rfl
     have hσ:σ[j]?=ς (ς v):=by
      cases e:σ[j]? with
      |none=>rw[e]at h2;cases h2
      |some o=>rw[e]at h2;simp only[qp8]at h2;rw[h2]
     have W:=S.free _ Z rfl;obtain⟨m,hm,hl⟩:=I.loc;obtain⟨u,r,l⟩:=hl j x v hN hσ (.inr W);refine⟨u,r,?_⟩
     have hloc:X.env.kindOf x≠ς .local:=by show X.env.scope.names.lookup x≠_;rcases W with q|q<;>rw[q]<;>decide
     rcases l with l|⟨_,c,e,z⟩
     .exact absurd l.1 hloc
     .obtain⟨c',e'⟩:=ll (cells:=X.env.cells) Z;have:=O _ _ e';rw[e]at this;cases this;refine .inr ⟨?_,c,e',U _ _ z⟩;rcases h3 with q|q
      .exact absurd q (by
        -- a name that is free in the block is not local there
        exact(by
         intro q
         have:scope.names.lookup x=ς .local:=by
          have hb:∀(names:η (Str×qv7)),(names.map fun(n,k)=>if(k==qg6&&X.env.scope.kind==.function&&X.env.kindOf n==ς .cell)then(n,qv7.cell)else(n,k)).lookup x=ς .local->names.lookup x=ς .local:=by
           intro names;induction names with
           |nil=>intro h;simp at h
           |cons y r ih=>
            obtain⟨n,k⟩:=y;intro h;simp only[qa3]at h;by_cases hx:x=n
            .subst hx;split at h
             .simp[qj4]at h
             .simpa[qj4] using h
            .have hx':(x==n)=ξ:=by simpa using hx
             split at h
             .simp only[qj4,hx']at h ⊢;exact ih h
             .simp only[qj4,hx']at h ⊢;exact ih h
          exact hb _ q
         rw[S.lf _ Z rfl]at this;cases this))
      .exact q
 .obtain⟨v,z⟩:=I.cell x c (O _ _ h);exact⟨v,U _ _ z⟩
 .show(aP src σ).length=M.length;unfold aP;rw[qa4,S.len]
theorem p7{s:qb0}{use:ζ (Value->Sem Unit)}(S:CmpScope X.N X.env.scope scope M src)(hc:X.calm=θ)(hi:PI X tg iter wi)(hg:M.Nodup->∀C s H ex,PG (cxC X M scope C s H ex) tg g)(ht:∀C s H ex,PTs (cxC X M scope C s H ex) ifs tt)
 (he:∀(s3:qb0)(H3:Hp)(fp:η J4)(acc:Value)(pl:η (J4×Obj))(U:af)(H9:Hp)(s9:qb0)(Q':VK),Inv X J0 σ H3 s3->(∀b∈fp,dS X J0 H3 b)->Inv (cxC X M scope s3.heap.objs.size s3 H3 fp) pl U H9 s9->te U H9 Q'→
 wpAny (model X.prog X.w) X.A (eval elt (cxC X M scope s3.heap.objs.size s3 H3 fp).env) (EP (cxC X M scope s3.heap.objs.size s3 H3 fp) pl U Q') (notedBy (model X.prog X.w) X.A (cxC X M scope s3.heap.objs.size s3 H3 fp).env (fun e s'=>ze5 (model X.prog X.w) X.A X.xe use QQ acc s3.heap.objs.size (.error e) s')) s9) (hs:∀x,qh0 iter X.env x=pure x) (I:Inv X J0 σ H s) (h:ji src wi g tt te σ H Q)
 (hfin:∀(D C:J4)(H':Hp)(s':qb0)(m:Str->ζ Value),Inv X J0 σ H' s'->dS X J0 H' C->s'.heap.Ns C m->Q (.ref D) H'->ze5 (model X.prog X.w) X.A X.xe use QQ (.ref D) C (.ok .next) s') :
  wpAny (model X.prog X.w) X.A (ze6 (.ListComp elt [⟨tg,iter,ifs,0⟩] scope pos) scope X.env cpos (newList []) ξ (eval iter X.env) use) QQ X.xe s:=by
 have hcells:∀x∈scope.names,x.2=.free->∃c,X.env.cells.lookup x.1=ς c:=fun x hx hfr=>I.ok.has x.1 (S.free x hx hfr)
 refine wpAny_comprehension_free (use:=use) rfl hs (mQ hcells) S.kind S.names (thn (hi J0 s σ H _ I h) fun v s1 h1=>thn h1 fun itv s2 h2=>?_);obtain⟨it,fp,tn,J,H2,rfl,I2,T,st2,f2,hq⟩:=h2;refine qf2 ?_;have I3:Inv X J0 σ (upd H2 s2.heap.objs.size (.e [])) {s2 with heap:=s2.heap.push {cls:=.type "list",dict:=ψ,data:=.seq ([]:η Value).toArray},toks:=s2.toks}:=I2.lnew (J3:=[]) (ys:=[]) (t':=s2.toks) .nil Ξ;have hD:H2 s2.heap.objs.size=ψ:=I2.fresh;obtain⟨W,⟨m0,w0⟩,turn⟩:=hq _ hD;generalize hDn:s2.heap.objs.size=D at*
 generalize hs3:({s2 with heap:=s2.heap.push {cls:=.type "list",dict:=ψ,data:=.seq ([]:η Value).toArray},toks:=s2.toks}:qb0)=s3 at*
 have f3:∀b∈fp,dS X J0 (upd H2 D (.e [])) b:=fun b hb=>⟨by obtain⟨o,e,_⟩:=T.obj _ _ st2 b hb;rw[ai (by rw[<- hDn];exact qc2 (qb5 e))];exact(f2 b hb).1,(f2 b hb).2⟩
 have k23:∀b o,s2.heap.get? b=ς o->s3.heap.get? b=ς o:=fun b o e=>by rw[<- hs3];exact gP _ e
 have st3:tn 0 s3.heap:=T.keep _ _ _ st2 fun b _ o e=>k23 b o e
 have fl3:∀b∈fp,b<s3.heap.objs.size:=fun b hb=>by obtain⟨o,e,_⟩:=T.obj _ _ st3 b hb;exact qb5 e
 refine wpAny_newFunctionEnv S.nocell (by intro y hy;simp at hy) (fun h₁ hns₁ hsb₁=>?_) S.kind;have k34:∀b o,s3.heap.get? b=ς o->h₁.get? b=ς o:=fun b o e=>hsb₁.extBut b o (qc2 (qb5 e)) (gP _ e)
 generalize hs4:({s3 with heap:=h₁,toks:=s3.toks+([]:η (Str×Value)).length}:qb0)=s4
 have I4:Inv (cxC X M scope s3.heap.objs.size s3 (upd H2 D (.e [])) fp) [] (aP src σ) (upd H2 D (.e [])) s4:=by rw[<- hs4];exact rZ S I3 f3 fl3 hns₁ k34 rfl rfl
 have st4:tn 0 s4.heap:=T.keep _ _ _ st3 fun b _ o e=>by rw[<- hs4];exact k34 b o e
 generalize O:cxC X M scope s3.heap.objs.size s3 (upd H2 D (.e [])) fp=Z at*
 have hg':PG Z tg g:=by rw[<- O];exact hg S.nd _ _ _ _
 have ht':PTs Z ifs tt:=by rw[<- O];exact ht _ _ _ _
 have eP:Z.prog=X.prog:=by rw[<- O];rfl
 have eW:Z.w=X.w:=by rw[<- O];rfl
 have eK:Z.K=X.K:=by rw[<- O];rfl
 have eA:Z.A=X.A:=by rw[<- O];rfl
 have ex':Z.xe=fun _ _=>False:=by rw[<- O];rfl
 have ec:Z.calm=θ:=by rw[<- O];exact hc
 have eE:Z.env=compEnvC scope (mP scope.names X.env.cells) s3.heap.objs.size X.env:=by rw[<- O];rfl
 have stat:∀{H':Hp},(∀b∈fp,H' b=ψ)->∀b∈fp,dS Z [] H' b:=fun hn b hb=>by
  rw[<- O];refine⟨hn b hb,qc2 (fl3 b hb),fun z=>?_,.inl hb,fun x c h=>(f3 b hb).2.2.2.2.1 x c (gm hcells h),fun p hp=>absurd hp (by simp[cxC])⟩;rcases qc4.mp (I3.stkSub b z)with q|q
  .exact(f3 b hb).2.1 q
  .exact(f3 b hb).2.2.1 q
 -- behind the block
 have fin:∀(H':Hp)(s':qb0),Inv Z [] (aP src σ) H' s'->Q (.ref D) H'->ze5 (model X.prog X.w) X.A X.xe use QQ (.ref D) s3.heap.objs.size (.ok .next) s':=by
  intro H' s' J' q;rw[<- O]at J';obtain⟨m,hn,_⟩:=id J'.loc;have hC:H' s3.heap.objs.size=ψ:=J'.free;have un:Un (frs X.stack) fp (upd H2 D (.e [])) H' s3.heap s'.heap:=J'.base;have IA:Inv X J0 σ H' s':=I3.call' (s':=s') (show s'.os=s3.os from J'.os) un J'.hok J'.bare fun b hb=>⟨(f3 b hb).2.2.2.1,(f3 b hb).2.1,(f3 b hb).2.2.2.2.1,(f3 b hb).2.2.2.2.2⟩
  exact hfin D _ H' s' m IA (I3.fpOk (nL _) hC) hn q
 have loop:∀s4':qb0,s4'=s4->qu5 (model X.prog X.w) X.A (.compLoop (.ListComp elt [⟨tg,iter,ifs,0⟩] scope pos) 0 (.ref it) (.ref D) Z.env) (ze5 (model X.prog X.w) X.A X.xe use QQ (.ref D) s3.heap.objs.size) s4':=by
  rintro _ rfl;refine mR (fun n s'=>∃i H',Inv Z [] (aP src σ) H' s'/\tn i s'.heap/\(∀b∈fp,H' b=ψ)/\W i n H') ?_ m0 ⟨0,_,I4,st4,fun b hb=>(f3 b hb).1,w0⟩;rintro n s5 ⟨i,H5,I5,st5,fr5,w5⟩;rcases turn i n H5 w5 with ⟨stop,qn⟩|⟨go,N,hN,step⟩
  .have:=T.done Z eP eW eK ec i [] s5 (aP src σ) H5 (fun _ _=>False) I5 (stat fr5) st5 stop;rw[eA]at this;refine thn this fun r s6 ⟨hr,I6⟩=>?_
   subst hr;exact fin H5 s6 I6 qn
  .have:=T.item Z eP eW eK ec i [] s5 (aP src σ) H5 (fun _ _=>False) I5 (stat fr5) st5 go;rw[eA]at this;refine thn this fun r s6 ⟨u,hr,h6⟩=>?_
   subst hr;refine thn h6 fun _ s7 ⟨x,H7,I7,r7,y7,st7,fr7⟩=>?_
   have I7':=I7.pinned (stat fr7) (T.obj _ _ st7);have a1:=hg' _ s7 (aP src σ) H7 x u _ I7' r7 (step x H7 y7);rw[ex',eP,eW,eA]at a1;refine thn a1 fun _ s8 ⟨U,H8,I8,wk8,q8⟩=>?_
   have a2:=ht' _ s8 U H8 _ I8 q8;rw[ex',eP,eW,eA]at a2;refine thn a2 fun ok s9 ⟨H9,I9,q9⟩=>?_
   have again:∀{H7':Hp}{s':qb0},Inv Z ([]++fF fp s7.heap) U H7' s'->N H7'->∃m,m<n/\∃i H',Inv Z [] (aP src σ) H' s'/\tn i s'.heap/\(∀b∈fp,H' b=ψ)/\W i m H':=fun {H7' s'} J7 n7=>by obtain⟨m',hm,w7⟩:=hN H7' n7;refine⟨m',hm,i+1,H7',J7.unpinned.weak wk8.1 wk8.2,T.keep _ _ _ st7 fun b hb o e=>(J7.pin (b,o) (qe3 _ (qe3 _ (cJ hb e)))).1,fun b hb=>?_,w7⟩;obtain⟨o,e,d⟩:=T.obj _ _ st7 b hb;exact(J7.pin (b,o) (qe3 _ (qe3 _ (cJ hb e)))).2.1
   cases ok with
   |false=>exact again I9 q9
   |true=>
    have I9':Inv (cxC X M scope s3.heap.objs.size s3 (upd H2 D (.e [])) fp) ([]++fF fp s7.heap) U H9 s9:=by rw[O];exact I9
    have a3:=he s3 (upd H2 D (.e [])) fp (.ref D) _ U H9 s9 _ I3 f3 I9' q9;rw[O]at a3;refine thn a3 fun v s10 ⟨y,H10,I10,r10,ys,hl,hz,q10⟩=>?_
    have a4:=fL (X:=Z) _ s10 U H10 (.ref D) [y] (.ref D) [v] (fun _ H'=>N H') I10 rfl (.cons r10 .nil) ⟨D,ys,y,rfl,rfl,hl,hz,q10⟩;rw[ex',eP,eW,eA]at a4;refine thn a4 fun _ s11 ⟨_,H11,I11,_,q11⟩=>?_
    exact again I11 q11
 have e4:∀c:Env,c=Z.env->qu5 (model X.prog X.w) X.A (.compStart (.ListComp elt [⟨tg,iter,ifs,0⟩] scope pos) 0 (.ref it) (.ref D) c) (ze5 (model X.prog X.w) X.A X.xe use QQ (.ref D) s3.heap.objs.size) s4:=by rintro _ rfl;exact codeAny_compStart_list (loop _ rfl) (T.self _ _ _ _ _ st4 (loop _ rfl))
 exact e4 _ (by rw[eE];rfl)
theorem jj{s:qb0}(S:CmpScope X.N X.env.scope scope M src)(hc:X.calm=θ)(hi:PI X tg iter wi)(W:M.Nodup->∀C s H ex,PG (cxC X M scope C s H ex) tg g)(ht:∀C s H ex,PTs (cxC X M scope C s H ex) ifs tt)
 (he:∀C s H ex,PE (cxC X M scope C s H ex) elt te) (hs:∀x,qh0 iter X.env x=pure x) (I:Inv X J0 σ H s) (h:ji src wi g tt te σ H Q)
 (O:∀(D C:J4)(H':Hp)(s':qb0)(m:Str->ζ Value),Inv X J0 σ H' s'->dS X J0 H' C->s'.heap.Ns C m->Q (.ref D) H'->ze5 (model X.prog X.w) X.A X.xe use QQ (.ref D) C (.ok .next) s') :
  wpAny (model X.prog X.w) X.A (ze6 (.ListComp elt [⟨tg,iter,ifs,0⟩] scope pos) scope X.env cpos (newList []) ξ (eval iter X.env) use) QQ X.xe s:=
 p7 S hc hi W ht (fun s3 H3 fp Z pl U H9 s9 Q' _ _ J q=>qn5 (he _ _ _ _ pl s9 U H9 Q' J q) (fun _ _ x=>x) fun _ _ x=>qk2 x) hs I h O
theorem Inv.but{s:qb0}{C:J4}{W:Heap}(I2:Inv X J0 σ H s)(U:dS X J0 H C)(sb3:qg0 C s.heap W):Inv X J0 σ H {s with heap:=W}:=by
 have Z:∀b o,b≠C->s.heap.get? b=ς o->W.get? b=ς o:=fun b o hb e=>sb3.extBut b o hb e
 have nm:∀{b:J4},b∉[C]->b≠C:=fun hb z=>hb (by rw[z];exact qj0)
 refine I2.call' (s':={s with heap:=W}) (ch:=[C]) rfl ⟨fun b o e n hb O=>Z b o (nm O) e,fun b o e n hb O=>⟨o.slots,Z b o (nm O) e⟩,fun b o e n O=>n,fun b o e O=>⟨o,Z b o (nm O) e⟩,fun b xs e=>e,fun b o u e=>e,fun b ps e=>⟨#[],by rw[Array.append_empty];exact e⟩,fun b qs e=>e⟩ ?_ I2.bare fun b hb=>?_
 .intro b u e;have nb:b≠C:=fun z=>by rw[z,U.1]at e;cases e
  refine(I2.hok b u e).stay (fun c v hc' q=>Z c v ?_ q) (fun _ q=>q) (fun _ _ q=>q) fun _ _ _ q=>q
  rcases hc' with z|z
  .rw[z];exact nb
  .intro w;rw[w,U.1]at z;cases z
 .cases qv9.mp hb;exact⟨U.2.2.2.1,U.2.1,U.2.2.2.2.1,U.2.2.2.2.2⟩
theorem r0 (S:CmpScope X.N X.env.scope scope M src) (hc:X.calm=θ) (hi:PI X tg iter wi) (O:M.Nodup->∀ C s H ex,PG (cxC X M scope C s H ex) tg g) (Z:∀ C s H ex,PTs (cxC X M scope C s H ex) ifs tt)
  (he:∀C s H ex,PE (cxC X M scope C s H ex) elt te) (hs:∀x,qh0 iter X.env x=pure x:=by intro _;rfl) :
  PE X (.ListComp elt [⟨tg,iter,ifs,0⟩] scope pos) (ji src wi g tt te):=by
 intro J0 s σ H Q I h;rw[eval_ListComp];exact jj (use:=ψ) S hc hi O Z he hs I h fun D C H' s' m IA W hn q=>⟨m,hn,fun h' U=>⟨.ref D,H',IA.but W U,rfl,q⟩⟩
end
def Its(x:Str):It:=⟨fun i _=>i<x.cps.size,fun i H v H'=>H'=H/\∃c,x.cps[i]?=ς c/\v=.str ⟨#[c]⟩,fun i _=>i=x.cps.size⟩
section
variable{X:Cx}{tg:J6}
def iStr(tl:TE):TI:=fun σ H R=>tl σ H fun v H1=>∃x,v=.str x/\R (Its x) H1
theorem jk:∀{ts:η Str}{us:η Value},Vals (ts.map V.str) us->∃l,us=strValues l/\l.map (·.1)=ts
 |[],_,.nil=>⟨[],rfl,rfl⟩
 |x::r,_,.cons h t=>by obtain⟨O,rfl⟩:=h;obtain⟨l,U,e2⟩:=jk t;exact⟨(x,O)::l,by rw[U];rfl,by rw[<- e2];rfl⟩
theorem wb:MtR X "str.join" (fun x vs H Q=>∃(a:Str)(l:J4)(ts:η Str),x=.str a/\vs=[.ref l]/\SqL X.K H l (ts.map V.str)/\JoinOk a ts=θ/\Q (.str (zg1 a ts)) H):=by intro J0 s σ H x vs v us Q I W O h;obtain⟨a,l,ts,rfl,rfl,hq,U,q⟩:=h;obtain⟨t,rfl⟩:=W;obtain⟨u,rfl,Z⟩:=O.one;cases Z;obtain⟨J3,r,p,hz⟩:=I.list hq;obtain⟨ls,rfl,e2⟩:=jk r;exact SC.join p.isList e2 U fun t' k=>⟨.str _,H,I.tok _,⟨_,rfl⟩,q⟩
theorem jX:CallR X (.type "int") (fun xs H Q=>∃x n,xs=[.str x]/\PySem.intText? x=ς n/\x.length<=640/\Q (.int n) H):=by intro J0 s σ H xs us Q I r h;obtain⟨x,n,rfl,U,hl,q⟩:=h;obtain⟨u,rfl,O⟩:=cY r;obtain⟨t,rfl⟩:=O;exact PySem.W.KIN.call_text U hl ⟨.int n,H,I.tok _,⟨_,rfl⟩,q⟩
theorem n8{v:Value}{o:ζ Int}(h:zf5 v o):∃p:ζ (Int×Tok),v=partValue p/\o=p.map (·.1):=by
 cases o with
 |none=>exact⟨ψ,by cases h<;>rfl,rfl⟩
 |some i=>cases h;exact⟨ς (i,_),rfl,rfl⟩
def rSlS:V->ζ Int->ζ Int->Hp->VK->Prop:=fun x lo hi H Q=>∃z,x=.str z/\z.length<=qa9/\Q (.str (Txt.slice z lo hi)) H
theorem AR:SlR X rSlS:=by intro J0 s σ H x v vl vu lo hi sl Q I O W pl Z h;obtain⟨z,rfl,U,q⟩:=h;obtain⟨t,rfl⟩:=O;obtain⟨l,rfl,rfl⟩:=n8 pl;obtain⟨u,rfl,rfl⟩:=n8 Z;refine⟨"str",_,F.slot_str_getitem.lookup,typeIs_str _ _ _,?_⟩;exact wpAny_getItem_str_slice (l:=l) (u:=u) (st:=ψ) W rfl (post_val_or_str ⟨qd1 (Txt.slice_le z _ _) U,fun t' k=>⟨.str _,H,I.tok _,⟨_,rfl⟩,q⟩⟩)
end
theorem iP:qf4 "isinstance"=ς (.builtin "isinstance"):=by first|exact PySem.boot_isinstance|exact PyProof.Rows.boot_isinstance|decide +kernel
theorem jY:qf4 "enumerate"=ς (.type "enumerate"):=by first|exact PySem.boot_enumerate|exact PyProof.Rows.boot_enumerate|decide +kernel
structure OkF(P:qe7)(w:J5)(K:xA9)(mg:Str->Option Value)(base:Heap)(x:Str)(k:Nat)(ps:List Str)(sp:Sp):Prop where
 ex:∃f fd,mg x=ς (.ref f)/\xD9 K (.ref f)=θ/\Binds K fd ps []/\FnOk P w K mg base CX0 k f fd ps sp
section
variable{X:Cx}{k:Nat}{ps:η Str}{sp:Sp}{x:Str}{p pos:Pos}{e:J6}{es:η J6}{t:TA}
theorem r8 (F:OkF X.prog X.w X.K X.mg X.base x k ps sp) (Z:Room k X.A) (hg:Gl X x) (ha:PA X (e::es) t) (O:(x==("__debug__":Str))=ξ:=by decide)
  (he:qb3 (e::es) X.env=(ξ,eval e X.env)::qb3 es X.env:=by rfl) (U:(qh3 pos (qb3 es X.env)).any (·.1)=ξ:=by rfl):PE X (.Call (.Name x p) (e::es) [] pos) (i7 sp [] E0 t):=by
 obtain⟨f,fd,h1,h2,W,h4⟩:=F.ex;exact nY h4 Z hg h1 h2 W .nil ia ha O he U
theorem p8(F:OkF X.prog X.w X.K X.mg X.base x k ps sp)(W:Room k X.A)(Z:Gl X x)(O:(x==("__debug__":Str))=ξ:=by decide):PE X (.Call (.Name x p) [] [] pos) (i7 sp [] E0 mH):=by obtain⟨f,fd,h1,h2,U,h4⟩:=F.ex;exact rE h4 W Z h1 h2 U .nil ia O
end
def r9(N:η Str)(outer scope:J8)(M:η Str)(src:η (ζ Nat)):Bool:=
 (match scope.kind with|.function=>θ|_=>ξ)&&
 scope.names.all (fun y=>decide (y.2≠.cell))&&
 scope.names.all (fun y=>!decide (y.2=.free)||(decide (outer.names.lookup y.1=ς .cell)||decide (outer.names.lookup y.1=ς .free)))&&
 scope.names.all (fun y=>!decide (y.2=.local)||decide (scope.names.lookup y.1=ς .local))&&
 scope.names.all (fun y=>!decide (y.2=.free)||decide (scope.names.lookup y.1=ς .free))&&
 decide (M.length=src.length)&&decide M.Nodup&&
 (M.zip src).all (fun p=>match p.2 with|none=>θ|some j=>decide (N[j]?=ς p.1)&&decide ((p.1,qg6)∈scope.names))
variable{src:η (ζ Nat)}
theorem CmpScope.of{N:η Str}{outer:J8}{M:η Str}(h:r9 N outer scope M src=θ):CmpScope N outer scope M src:=by
 unfold r9 at h;simp only[qa1,qc0,qg5,qi5,decide_eq_true_eq,decide_eq_false_iff_not]at h;obtain⟨⟨⟨⟨⟨⟨⟨h1,h2⟩,W⟩,h4⟩,Z⟩,h6⟩,h7⟩,h8⟩:=h;refine⟨?_,h2,fun y O e=>(W y O).resolve_left fun z=>z e,fun y O e=>(h4 y O).resolve_left fun z=>z e,fun y O e=>(Z y O).resolve_left fun z=>z e,h6,h7,fun p hp j U=>?_⟩
 .revert h1;cases scope.kind<;>simp
 .have:=h8 p hp;cases e:p.2 with
  |none=>rw[e]at U;cases U
  |some j'=>rw[e]at U this;cases U;simpa using this
def Plain(J:It)(xs:η V)(ok:Hp->Prop):Prop:=∀i H,ok H->(i<xs.length->J.go i H)/\(i=xs.length->J.stop i H)/\∀x H',i<xs.length->J.yld i H x H'->H'=H/\xs[i]?=ς x
theorem plain_list:Plain (Itl K a) xs (fun H=>SqL K H a xs):=fun i H h=>⟨fun hi=>⟨xs,xs[i],h,by simp[hi]⟩,fun e=>⟨xs,h,Θ⟩,fun x H' _ y=>⟨y.1,y.2 xs h⟩⟩
theorem plain_tup:Plain (Itt K a) xs (fun H=>SqT K H a xs):=fun i H h=>⟨fun hi=>⟨xs,xs[i],h,by simp[hi]⟩,fun e=>⟨xs,h,Θ⟩,fun x H' _ y=>⟨y.1,y.2 xs h⟩⟩
def jZ(lo:Int)(n:Nat):η V:=(qd7 n).map fun(i:Nat)=>V.int (lo+i)
theorem plain_range{lo:Int}{n:Nat}:Plain (Itr lo n) (jZ lo n) (fun _=>True):=fun i H h=>by
 refine⟨fun hi=>?_,fun e=>?_,fun x H' hi y=>?_⟩
 .show i<n;simpa[jZ] using hi
 .show n<=i;simp[jZ]at e;lia
 .obtain⟨e,rfl⟩:=y;refine⟨e,?_⟩;unfold jZ at hi ⊢;rw[qa4,qx9]at hi;rw[qa8,List.getElem?_range hi];rfl
def signV(x:Str):η V:=x.cps.toList.map fun c=>V.str ⟨#[c]⟩
def yP(src:η (ζ Nat))(g:TG)(tt:TT)(te:TE)(σ:af)(J:It)(H1:Hp)(Q:VK)(D:J4):Prop:=∃W:Nat->Nat->Hp->Prop,(∃m,W 0 m (upd H1 D (.e [])))/\∀i m H,W i m H→
 (J.stop i H/\Q (.ref D) H)∨(J.go i H/\∃N:Hp->Prop,(∀H',N H'->∃m',m'<m/\W (i+1) m' H')/\∀x H',J.yld i H x H'→
  g x (aP src σ) H' fun O H2=>Wk (aP src σ) O/\tt O H2 fun b U=>if b=θ then te O U fun v Z=>∃ys,Z D=ς (.e ys)/\ys.length<qa9/\N (upd Z D (.e (ys++[v])))else N U)
variable{wi:TI}{te:TE}
theorem sd{g:TG}{tt:TT}:ji src wi g tt te σ H Q=wi σ H fun J H1=>∀D,H1 D=ψ->yP src g tt te σ J H1 Q D:=rfl
def ForW(g:TG)(tb:TS)(D:Ends)(J:It)(σ:af)(H1:Hp):Prop:=∃W:Nat->Nat->af->Hp->Prop,(∃m,W 0 m σ H1)/\∀i m σ H,W i m σ H→ (J.stop i H/\D.nx σ H)∨(J.go i H/\∃N:af->Hp->Prop,(∀O H',N O H'->∃Z,Z<m/\W (i+1) Z O H')/\∀x H',J.yld i H x H'->g x σ H' fun U H2=>tb {D with nx:=N,ct:=N,bk:=D.nx} U H2)
theorem wc{g:TG}{tb:TS}{D:Ends}:tFor wi g tb D σ H=wi σ H fun J H1=>ForW g tb D J σ H1:=rfl
theorem se{v:V}(W:Gl X x)(U:∃u,X.mg x=ς u/\RelV v u)(O:(x==("__debug__":Str))=ξ:=by decide):PE X (.Name x pos) (tC v):=by obtain⟨u,h1,h2⟩:=U;exact vD W h1 h2 O
def de(scope outer:J8):J8:={scope with names:=scope.names.map fun(n,k)=>if(k==.free&&outer.kind==.function&&outer.names.lookup n==ς .cell)then(n,.cell)else(n,k)}
def cm(sc:J8)(N:η Str)(i:Nat)(x:Str):Bool:=decide (N[i]?=ς x)&&(decide (sc.names.lookup x=ς .local)||(decide (sc.names.lookup x=ς .cell)||decide (sc.names.lookup x=ς .free)))&&!(x==("__debug__":Str))&&!(x==("__classdict__":Str))
def iQ(sc:J8)(x:Str):Bool:=decide (sc.names.lookup x=ς .local)||decide (sc.names.lookup x=ς .cell)
def aQ(sc:J8)(x:Str):Bool:=decide (sc.names.lookup x=ς .globalImplicit)&&!(x==("__debug__":Str))&&!decide (x=("__name__":Str))
section
variable{sc:J8}{N:η Str}{i:Nat}{x:Str}
theorem fN(h:cm sc N i x=θ):N[i]?=ς x:=by unfold cm at h;simp only[qa1,decide_eq_true_eq]at h;exact h.1.1.1
theorem AS(h:cm sc N i x=θ):Vis sc x:=by unfold cm at h;simp only[qa1,qg5,decide_eq_true_eq]at h;exact h.1.1.2
theorem AT(h:cm sc N i x=θ):(x==("__debug__":Str))=ξ:=by unfold cm at h;simp only[qa1,qi5]at h;exact h.1.2
theorem DQ(h:cm sc N i x=θ):(x==("__classdict__":Str))=ξ:=by unfold cm at h;simp only[qa1,qi5]at h;exact h.2
theorem j0(h:iQ sc x=θ):Loc sc x:=by unfold iQ at h;simp only[qg5,decide_eq_true_eq]at h;exact h
theorem z5(h:aQ sc x=θ):sc.names.lookup x=ς .globalImplicit:=by unfold aQ at h;simp only[qa1,decide_eq_true_eq]at h;exact h.1.1
theorem cM(h:aQ sc x=θ):(x==("__debug__":Str))=ξ:=by unfold aQ at h;simp only[qa1,qi5]at h;exact h.1.2
theorem z4(h:aQ sc x=θ):x≠("__name__":Str):=by unfold aQ at h;simp only[qa1,qi5,decide_eq_false_iff_not]at h;exact h.2
end
def bp(X:Cx)(sc:J8):Prop:=X.env.scope=sc
variable{i:Nat}
section
variable{X:Cx}{sc:J8}{N:η Str}{x:Str}{pos p:Pos}
theorem pvD(i:Nat)(h:cm sc N i x=θ)(O:bp X sc:=by rfl)(e2:X.N=N:=by rfl):PE X (.Name x pos) (qO i):=by have O:X.env.scope=sc:=O;subst O e2;exact zW (fN h) (AS h) (AT h) (DQ h)
theorem glD(h:aQ sc x=θ)(O:bp X sc:=by rfl):Gl X x:=by have O:X.env.scope=sc:=O;subst O;exact z5 h
theorem we{e:J6}{pos':Pos}(h:cm sc N i x=θ)(hl:iQ sc x=θ)(W:N.Nodup)(Z:PE X e te)(O:bp X sc:=by rfl)(e2:X.N=N:=by rfl)(U:X.fn x=θ∨X.env.scope.names.lookup x=ς .local:=by exact .inl rfl)
 (hs:qi6 e (ς (.Name x pos')) pos.line X.env=pure ξ:=by rfl):PSBq X (.Assign [.Name x pos'] e pos) (vK te (eu i)):=by
 have O:X.env.scope=sc:=O;subst O e2;exact Af W (fN h) (j0 hl) Z hs U
theorem si(h:cm sc N i x=θ)(hl:iQ sc x=θ)(W:N.Nodup)(O:bp X sc:=by rfl)(e2:X.N=N:=by rfl)(U:X.fn x=θ∨X.env.scope.names.lookup x=ς .local:=by exact .inl rfl):PG X (.Name x pos) (eu i):=by have O:X.env.scope=sc:=O;subst O e2;exact nU W (fN h) (j0 hl) U
def loOk(sc:J8)(x:Str):Bool:=decide (sc.names.lookup x=ς .local)
theorem sj(h:cm sc N i x=θ)(hl:loOk sc x=θ)(U:X.N.Nodup)(O:bp X sc)(e2:X.N=N:=by rfl):PG X (.Name x pos) (eu i):=by have O:X.env.scope=sc:=O;subst O e2;have hl:X.env.scope.names.lookup x=ς .local:=of_decide_eq_true hl;exact nU U (fN h) (.inl hl) (.inr hl)
theorem so{v:V}(h:aQ sc x=θ)(U:∃u,X.mg x=ς u/\RelV v u)(O:bp X sc:=by rfl):PE X (.Name x pos) (tC v):=se (glD h O) U (cM h)
theorem sr{v:V}{u:Value}(h:aQ sc x=θ)(W:X.mg x=ψ)(U:qf4 x=ς u)(r:RelV v u)(O:bp X sc:=by rfl):PE X (.Name x pos) (tC v):=vE (glD h O) W U r (z4 h) (cM h)
variable{e:J6}{es:η J6}{t:TA}{id T:String}{r:η V->Hp->VK->Prop}{k:Nat}{ps:η Str}{sp:Sp}
theorem jl (h:aQ sc x=θ) (hc:CallR X (.builtin id) r) (hm:X.mg x=ψ) (Z:qf4 x=ς (.builtin id)) (ha:PA X (e::es) t) (W:bp X sc:=by rfl)
  (U:qb3 (e::es) X.env=(ξ,eval e X.env)::qb3 es X.env:=by rfl) (O:(qh3 pos (qb3 es X.env)).any (·.1)=ξ:=by rfl):PE X (.Call (.Name x p) (e::es) [] pos) (tCB r t):=
 rH hc (glD h W) hm Z ha (z4 h) (cM h) U O
theorem dW (h:aQ sc x=θ) (hc:CallR X (.type T) r) (hm:X.mg x=ψ) (Z:qf4 x=ς (.type T)) (ha:PA X (e::es) t) (W:bp X sc:=by rfl)
  (U:qb3 (e::es) X.env=(ξ,eval e X.env)::qb3 es X.env:=by rfl) (O:(qh3 pos (qb3 es X.env)).any (·.1)=ξ:=by rfl):PE X (.Call (.Name x p) (e::es) [] pos) (tCB r t):=
 pX hc (glD h W) hm Z ha (z4 h) (cM h) U O
theorem p9 (h:aQ sc x=θ) (F:OkF X.prog X.w X.K X.mg X.base x k ps sp) (U:Room k X.A) (ha:PA X (e::es) t) (W:bp X sc:=by rfl)
  (Z:qb3 (e::es) X.env=(ξ,eval e X.env)::qb3 es X.env:=by rfl) (O:(qh3 pos (qb3 es X.env)).any (·.1)=ξ:=by rfl):PE X (.Call (.Name x p) (e::es) [] pos) (i7 sp [] E0 t):=
 r8 F U (glD h W) ha (cM h) Z O
theorem mT(h:aQ sc x=θ)(F:OkF X.prog X.w X.K X.mg X.base x k ps sp)(O:Room k X.A)(U:bp X sc:=by rfl):PE X (.Call (.Name x p) [] [] pos) (i7 sp [] E0 mH):=p8 F O (glD h U) (cM h)
variable{tg a b:J6}{ta:TA}
theorem mU(h:aQ sc "range"=θ)(U:X.mg "range"=ψ)(W:PA X [a] ta)(O:bp X sc:=by rfl)(hs:qb3 [a] X.env=[(ξ,eval a X.env)]:=by rfl):PI X tg (.Call (.Name "range" p) [a] [] pos) (yI ta):=pN (glD h O) U W hs
end
section
variable{X:Cx}{M:η Str}{scope outer:J8}{C:J4}{s:qb0}{H:Hp}{ex:η J4}{x:Str}{pos p:Pos}
theorem scC(O:bp X outer):bp (cxC X M scope C s H ex) (de scope outer):=by have O:X.env.scope=outer:=O;subst O;rfl
end
inductive Dt where
 |non|bl (b:Bool)|int (i:Int)|str (x:Str)|t (l:List Dt)|e (l:List Dt)|dct (ks:List Key) (l:List Dt)|dcT (ks:List (List Key)) (l:List Dt)
mutual
def peq:Dt->Dt->Bool
 |.non,.non=>θ
 |.bl a,.bl b=>a==b
 |.bl a,.int j=>(if a then(1:Int)else 0)==j
 |.int i,.bl b=>i==(if b then(1:Int)else 0)
 |.int i,.int j=>i==j
 |.str x,.str y=>x==y
 |.t l,.t m=>peqs l m
 |.e l,.e m=>peqs l m
 |.dct ks l,.dct js m=>decide (ks=js)&&peqs l m
 |.dcT ks l,.dcT js m=>decide (ks=js)&&peqs l m
 |_,_=>ξ
def peqs:η Dt->η Dt->Bool
 |[],[]=>θ
 |d::l,e::m=>peq d e&&peqs l m
 |_,_=>ξ
end
mutual
theorem dg:∀d:Dt,peq d d=θ
 |.non=>by simp[peq]
 |.bl b=>by simp[peq]
 |.int i=>by simp[peq]
 |.str x=>by simp[peq]
 |.t l=>by simp only[peq];exact peqs_selfBq l
 |.e l=>by simp only[peq];exact peqs_selfBq l
 |.dct ks l=>by simp only[peq,decide_true,qj6];exact peqs_selfBq l
 |.dcT ks l=>by simp only[peq,decide_true,qj6];exact peqs_selfBq l
theorem peqs_selfBq:∀l:η Dt,peqs l l=θ
 |[]=>by simp[peqs]
 |d::l=>by simp only[peqs,dg d,peqs_selfBq l,Bool.and_self]
end
mutual
def dh:Dt->Nat
 |.t l=>deeps l+1
 |.e l=>deeps l+1
 |_=>0
def deeps:η Dt->Nat
 |[]=>0
 |d::l=>max (dh d) (deeps l)
end
mutual
def Rep(K:xA9)(H:Hp):Dt->V->Prop
 |.non,v=>v=.non
 |.bl b,v=>v=.bl b
 |.int i,v=>v=.int i
 |.str x,v=>v=.str x
 |.t l,v=>∃a vs,v=.ref a/\SqT K H a vs/\Reps K H l vs
 |.e l,v=>∃a vs,v=.ref a/\SqL K H a vs/\Reps K H l vs
 |.dct ks l,v=>∃a J1,v=.ref a/\Rd H a (.dK J1)/\J1.map (·.1)=ks/\Reps K H l (J1.map (·.2))
 |.dcT ks l,v=>∃a J1,v=.ref a/\Rd H a (.dT J1)/\J1.map (·.1)=ks/\Reps K H l (J1.map (·.2))
def Reps(K:xA9)(H:Hp):η Dt->η V->Prop
 |[],vs=>vs=[]
 |d::l,vs=>∃v ws,vs=v::ws/\Rep K H d v/\Reps K H l ws
end
theorem Same.tup(e:Same H H')(h:SqT K H a xs):SqT K H' a xs:=by
 rcases h with h|h
 .exact .inl (e _ _ h)
 .exact .inr h
theorem Same.rd{u:HO}(e:Same H H')(h:Rd H a u):Rd H' a u:=by
 rcases h with h|⟨o,h⟩
 .exact .inl (e _ _ h)
 .exact .inr ⟨o,e _ _ h⟩
mutual
theorem Rep.same{K:xA9}{H H':Hp}(e:Same H H'):∀{d:Dt}{v:V},Rep K H d v->Rep K H' d v
 |.non,v,h=>h
 |.bl _,v,h=>h
 |.int _,v,h=>h
 |.str _,v,h=>h
 |.t l,v,h=>by unfold Rep at h ⊢;obtain⟨a,vs,h1,h2,h3⟩:=h;exact⟨a,vs,h1,e.tup h2,Reps.same e h3⟩
 |.e l,v,h=>by unfold Rep at h ⊢;obtain⟨a,vs,h1,h2,h3⟩:=h;exact⟨a,vs,h1,e.seq h2,Reps.same e h3⟩
 |.dct ks l,v,h=>by unfold Rep at h ⊢;obtain⟨a,vs,h1,h2,h3,h4⟩:=h;exact⟨a,vs,h1,e.rd h2,h3,Reps.same e h4⟩
 |.dcT ks l,v,h=>by unfold Rep at h ⊢;obtain⟨a,vs,h1,h2,h3,h4⟩:=h;exact⟨a,vs,h1,e.rd h2,h3,Reps.same e h4⟩
theorem Reps.same{K:xA9}{H H':Hp}(e:Same H H'):∀{l:η Dt}{vs:η V},Reps K H l vs->Reps K H' l vs
 |[],vs,h=>h
 |d::l,vs,h=>by unfold Reps at h ⊢;obtain⟨v,ws,h1,h2,h3⟩:=h;exact⟨v,ws,h1,Rep.same e h2,Reps.same e h3⟩
end
theorem Reps.length:∀{l:η Dt}{vs:η V},Reps K H l vs->vs.length=l.length
 |[],vs,h=>by unfold Reps at h;rw[h];rfl
 |d::l,vs,h=>by unfold Reps at h;obtain⟨v,ws,rfl,_,O⟩:=h;simp[Reps.length O]
theorem Reps.get:∀{l:η Dt}{vs:η V}{i:Nat}{d:Dt},Reps K H l vs->l[i]?=ς d->∃v,vs[i]?=ς v/\Rep K H d v
 |[],vs,i,d,h,e=>by simp at e
 |d0::l,vs,0,d,h,e=>by unfold Reps at h;obtain⟨v,ws,rfl,h2,_⟩:=h;simp at e;subst e;exact⟨v,rfl,h2⟩
 |d0::l,vs,i+1,d,h,e=>by unfold Reps at h;obtain⟨v,ws,rfl,_,O⟩:=h;obtain⟨u,U,e2⟩:=Reps.get (i:=i) O (by simpa using e);exact⟨u,by simpa using U,e2⟩
theorem Reps.append:∀{l m:η Dt}{vs ws:η V},Reps K H l vs->Reps K H m ws->Reps K H (l++m) (vs++ws)
 |[],m,vs,ws,h,h'=>by unfold Reps at h;rw[h];exact h'
 |d::l,m,vs,ws,h,h'=>by unfold Reps at h;obtain⟨v,us,rfl,h2,O⟩:=h;show Reps K H (d::(l++m)) (v::(us++ws));unfold Reps;exact⟨v,_,rfl,h2,Reps.append O h'⟩
theorem Reps.one{d:Dt}{v:V}(h:Rep K H d v):Reps K H [d] [v]:=by unfold Reps;exact⟨v,[],rfl,h,by unfold Reps;rfl⟩
theorem Reps.take:∀{l:η Dt}{vs:η V}(n:Nat),Reps K H l vs->Reps K H (l.take n) (vs.take n)
 |_,_,0,_=>by simp[Reps]
 |[],vs,n+1,h=>by unfold Reps at h;rw[h];simp[Reps]
 |d::l,vs,n+1,h=>by unfold Reps at h;obtain⟨v,us,rfl,h2,O⟩:=h;show Reps K H (d::l.take n) (v::us.take n);unfold Reps;exact⟨v,_,rfl,h2,Reps.take n O⟩
theorem Reps.drop:∀{l:η Dt}{vs:η V}(n:Nat),Reps K H l vs->Reps K H (l.drop n) (vs.drop n)
 |_,_,0,h=>h
 |[],vs,n+1,h=>by unfold Reps at h;rw[h];simp[Reps]
 |d::l,vs,n+1,h=>by unfold Reps at h;obtain⟨v,us,rfl,h2,O⟩:=h;exact Reps.drop n O
variable{u:η (Key×V)}
section
variable{X:Cx}{J0:η (J4×Obj)}{σ:af}{H:Hp}{s:qb0}{K:xA9}
theorem Inv.notBoth{ys:η V}(I:Inv X J0 σ H s)(h:SqL X.K H a xs)(h':SqT X.K H a ys):False:=by obtain⟨J3,r,pl,_⟩:=I.list h;obtain⟨its',W,pt,_⟩:=I.tuple h';obtain⟨o,n,e,hc,_⟩:=pl;obtain⟨o',U,O,_⟩:=pt;rw[e]at U;cases U;rw[hc]at O;injection O with z;exact absurd z Ω
theorem DR{w:η (Key×V)}(h:Rd H a (.dK u))(h':Rd H a (.dK w)):u=w:=by rcases h with h|⟨o,h⟩<;>rcases h' with h'|⟨o',h'⟩<;>rw[h]at h'<;>cases h'<;>rfl
theorem DS{u w:η (η Key×V)}(h:Rd H a (.dT u))(h':Rd H a (.dT w)):u=w:=by rcases h with h|⟨o,h⟩<;>rcases h' with h'|⟨o',h'⟩<;>rw[h]at h'<;>cases h'<;>rfl
theorem gy{u:HO}(h:Rd H a u):∃o,H a=ς o:=by
 rcases h with h|⟨o,h⟩
 .exact⟨_,h⟩
 .exact⟨_,h⟩
theorem Inv.kNone(I:Inv X J0 σ H s){o:Obj}(h:X.K.lookup a=ς o):H a=ψ:=(I.bs a o (I.ok.mod.kin a o h)).2
theorem Inv.sqT_dK(I:Inv X J0 σ H s)(h:SqT X.K H a xs)(h':Rd H a (.dK u)):False:=by
 rcases h with h|⟨o,_,_,h,_⟩
 .rcases h' with h'|⟨o',h'⟩<;>rw[h]at h'<;>cases h'
 .obtain⟨o',e⟩:=gy h';rw[I.kNone h]at e;cases e
theorem Inv.sqT_dT(I:Inv X J0 σ H s){u:η (η Key×V)}(h:SqT X.K H a xs)(h':Rd H a (.dT u)):False:=by
 rcases h with h|⟨o,_,_,h,_⟩
 .rcases h' with h'|⟨o',h'⟩<;>rw[h]at h'<;>cases h'
 .obtain⟨o',e⟩:=gy h';rw[I.kNone h]at e;cases e
theorem Inv.sqL_dK(I:Inv X J0 σ H s)(h:SqL X.K H a xs)(h':Rd H a (.dK u)):False:=by
 rcases h with h|⟨o,_,_,h,_⟩
 .rcases h with h|⟨o,h⟩<;>rcases h' with h'|⟨o',h'⟩<;>rw[h]at h'<;>cases h'
 .obtain⟨o',e⟩:=gy h';rw[I.kNone h]at e;cases e
theorem Inv.sqL_dT(I:Inv X J0 σ H s){u:η (η Key×V)}(h:SqL X.K H a xs)(h':Rd H a (.dT u)):False:=by
 rcases h with h|⟨o,_,_,h,_⟩
 .rcases h with h|⟨o,h⟩<;>rcases h' with h'|⟨o',h'⟩<;>rw[h]at h'<;>cases h'
 .obtain⟨o',e⟩:=gy h';rw[I.kNone h]at e;cases e
theorem su{w:η (η Key×V)}(h:Rd H a (.dK u))(h':Rd H a (.dT w)):False:=by rcases h with h|⟨o,h⟩<;>rcases h' with h'|⟨o',h'⟩<;>rw[h]at h'<;>cases h'
def aW:Dt->Nat
 |.non=>0
 |.bl _=>1
 |.int _=>2
 |.str _=>3
 |.t _=>4
 |.e _=>5
 |.dct _ _=>6
 |.dcT _ _=>7
theorem bJ(I:Inv X J0 σ H s){d e:Dt}{v:V}(h:Rep X.K H d v)(h':Rep X.K H e v):aW d=aW e:=by
 cases d<;>cases e<;>first
  |rfl
  |(simp only[Rep]at h h';subst h;cases h';done)
  |(simp only[Rep]at h h';obtain⟨_,_,e,_⟩:=h';rw[h]at e;cases e;done)
  |(simp only[Rep]at h h';obtain⟨_,_,e,_⟩:=h;rw[h']at e;cases e;done)
  | (simp only[Rep]at h h';obtain⟨_,_,rfl,h2,_⟩:=h;obtain⟨_,_,e,O,_⟩:=h';cases e
     first
      |exact(I.sqT_dK h2 O).elim
      |exact(I.sqT_dK O h2).elim
      |exact(I.sqT_dT h2 O).elim
      |exact(I.sqT_dT O h2).elim
      |exact(I.notBoth h2 O).elim
      |exact(I.notBoth O h2).elim
      |exact(I.sqL_dK h2 O).elim
      |exact(I.sqL_dK O h2).elim
      |exact(I.sqL_dT h2 O).elim
      |exact(I.sqL_dT O h2).elim
      |exact(su h2 O).elim
      |exact(su O h2).elim)
mutual
theorem j6(I:Inv X J0 σ H s):∀(d e:Dt)(v:V),Rep X.K H d v->Rep X.K H e v->peq d e=θ:=fun d=>by
 match d with
 |.t l=>
  intro e v h h';have hk:=bJ I h h';cases e<;>first|(simp[aW]at hk;done)|skip
  simp only[Rep]at h h';obtain⟨a,vs,rfl,h2,h3⟩:=h;obtain⟨b,ws,e,h2',h3'⟩:=h';cases e;have:=I.tuple_inj h2 h2';subst this;simp only[peq];exact reps_inj I l _ _ h3 h3'
 |.e l=>
  intro e v h h';have hk:=bJ I h h';cases e<;>first|(simp[aW]at hk;done)|skip
  simp only[Rep]at h h';obtain⟨a,vs,rfl,h2,h3⟩:=h;obtain⟨b,ws,e,h2',h3'⟩:=h';cases e;have:=I.list_inj h2 h2';subst this;simp only[peq];exact reps_inj I l _ _ h3 h3'
 |.dct ks l=>
  intro e v h h';have hk:=bJ I h h';cases e<;>first|(simp[aW]at hk;done)|skip
  simp only[Rep]at h h';obtain⟨a,vs,rfl,h2,h3,h4⟩:=h;obtain⟨b,ws,e,h2',h3',h4'⟩:=h';cases e;have:=DR h2 h2';subst this;subst h3 h3';simp only[peq,decide_true,qj6];exact reps_inj I l _ _ h4 h4'
 |.dcT ks l=>
  intro e v h h';have hk:=bJ I h h';cases e<;>first|(simp[aW]at hk;done)|skip
  simp only[Rep]at h h';obtain⟨a,vs,rfl,h2,h3,h4⟩:=h;obtain⟨b,ws,e,h2',h3',h4'⟩:=h';cases e;have:=DS h2 h2';subst this;subst h3 h3';simp only[peq,decide_true,qj6];exact reps_inj I l _ _ h4 h4'
 |.non=>intro e v h h';have hk:=bJ I h h';cases e<;>first|(simp[aW]at hk;done)|simp only[peq]
 |.bl b=>intro e v h h';have hk:=bJ I h h';cases e<;>first|(simp[aW]at hk;done)|(simp only[Rep]at h h';rw[h]at h';cases h';exact dg _)
 |.int b=>intro e v h h';have hk:=bJ I h h';cases e<;>first|(simp[aW]at hk;done)|(simp only[Rep]at h h';rw[h]at h';cases h';exact dg _)
 |.str b=>intro e v h h';have hk:=bJ I h h';cases e<;>first|(simp[aW]at hk;done)|(simp only[Rep]at h h';rw[h]at h';cases h';exact dg _)
theorem reps_inj(I:Inv X J0 σ H s):∀(l m:η Dt)(vs:η V),Reps X.K H l vs->Reps X.K H m vs->peqs l m=θ:=fun l=>by
 match l with
 |[]=>
  intro m vs h h';cases m with
  |nil=>simp only[peqs]
  |cons e m=>unfold Reps at h h';obtain⟨v,ws,e,_⟩:=h';rw[h]at e;cases e
 |d::l=>
  intro m vs h h';cases m with
  |nil=>unfold Reps at h h';obtain⟨v,ws,e,_⟩:=h;rw[h']at e;cases e
  |cons e m=>unfold Reps at h h';obtain⟨v,ws,rfl,h2,h3⟩:=h;obtain⟨v',ws',e',h2',h3'⟩:=h';cases e';simp only[peqs,j6 I d _ _ h2 h2',reps_inj I l _ _ h3 h3',Bool.and_self]
end
end
end L2
namespace L2
open PySem PySem.Spec PyProof.Rows
mutual
def bW:Dt->Dt->Bool
 |.t l,.t m=>cmpbs l m
 |.e l,.e m=>cmpbs l m
 |d,e=>decide (aW d<4)&&decide (aW e<4)
def cmpbs:η Dt->η Dt->Bool
 |d::l,e::m=>bW d e&&cmpbs l m
 |_,_=>θ
end
theorem cu:∀{l m:η Dt}{j:Nat}{d e:Dt},cmpbs l m=θ->l[j]?=ς d->m[j]?=ς e->bW d e=θ
 |[],_,j,d,e,_,h,_=>by simp at h
 |_::_,[],j,d,e,_,_,h=>by simp at h
 |d0::l,O::m,0,d,e,h,h1,h2=>by simp only[cmpbs,qa1]at h;simp at h1 h2;subst h1 h2;exact h.1
 |d0::l,O::m,j+1,d,e,h,h1,h2=>by simp only[cmpbs,qa1]at h;exact cu (j:=j) h.2 (by simpa using h1) (by simpa using h2)
theorem di:∀{l:η Dt}{j:Nat}{d:Dt},l[j]?=ς d->dh d<=deeps l
 |[],j,d,h=>by simp at h
 |d0::l,0,d,h=>by simp at h;subst h;simp only[deeps];exact Nat.le_max_left ..
 |d0::l,j+1,d,h=>by simp only[deeps];exact qd1 (di (j:=j) (by simpa using h)) (Nat.le_max_right ..)
def aX(l m:η Dt)(j:Nat):Bool:=peq (l.getD j .non) (m.getD j .non)
theorem bX:∀(l m:η Dt),peqs l m=((qd7 (min l.length m.length)).all (aX l m)&&l.length==m.length)
 |[],[]=>by simp[peqs]
 |[],_::_=>by simp[peqs]
 |_::_,[]=>by simp[peqs]
 |d::l,e::m=>by
  have U:=bX l m;simp only[peqs,U,qb8];rw[show min (l.length+1) (m.length+1)=min l.length m.length+1 by lia,List.range_succ_eq_map,qc7,zf7];have W:aX (d::l) (e::m) 0=peq d e:=rfl
  have e2:(aX (d::l) (e::m) ∘ Nat.succ)=aX l m:=by funext j;rfl
  have O:(l.length+1==m.length+1)=(l.length==m.length):=by rw[qr4];simp
  rw[W,e2,O,qx0]
variable{K:xA9}
section
variable{X:Cx}{J0:η (J4×Obj)}{σ:af}{H:Hp}{s:qb0}
theorem bf{l:η Dt}{vs:η V}{J3:η Value}(h:Reps X.K H l vs)(r:Vals vs J3){j:Nat}(U:j<J3.length):∃d v,l[j]?=ς d/\Rep X.K H d v/\RelV v J3[j]:=by
 have hl:j<l.length:=by rw[<- h.length,r.length];exact U
 obtain⟨v,Z,e2⟩:=h.get (i:=j) (d:=l[j]) (by simp[hl]);obtain⟨u,O,W⟩:=r.get Z
 have:J3[j]=u:=by have:=gQ U;rw[this]at O;exact qc9 O
 exact⟨l[j],v,by simp[hl],e2,by rw[this];exact W⟩
theorem yQ(I:Inv X J0 σ H s):∀(n:Nat){A:ql3}{d e:Dt}{v w:V}{u u':Value},dh d<=n->A.units+n<cLine->bW d e=θ->Rep X.K H d v->Rep X.K H e w->RelV v u->RelV w u'->qf1 A s u u' (peq d e):=by
 intro n;induction n with
 |zero=>
  intro A d e v w u u' hd hu hc h h' r r'
  cases d<;>cases e<;>first
   |(simp only[Rep]at h h';subst h h';exact fK r r' rfl rfl)
   |(simp only[dh]at hd;lia)
   |(simp[bW,aW]at hc)
 |succ n ih=>
  intro A d e v w u u' hd hu hc h h' r r';cases d with
  |t l=>
   cases e with
   |t m=>
    have h0:=h;have h0':=h';simp only[Rep]at h h';obtain⟨a,vs,rfl,h2,h3⟩:=h;obtain⟨b,ws,rfl,O,Z⟩:=h';cases r;cases r';by_cases W:a=b
    .subst W;have:=j6 I _ _ _ h0 h0';rw[this];exact zb5 _
    obtain⟨J3,rv,pt,_⟩:=I.tuple h2;obtain⟨its',rv',pt',_⟩:=I.tuple O;have n1:J3.length=l.length:=by rw[<- h3.length,rv.length]
    have n2:its'.length=m.length:=by rw[<- Z.length,rv'.length]
    simp only[peq];rw[bX,<- n1,<- n2];simp only[dh]at hd;simp only[bW]at hc
    have key:=qy0.tuples (A:=A) (e:=aX l m) pt pt' Θ (fun j h1 h2=>by
     have h1':j<J3.length:=by simpa using h1
     have O:j<its'.length:=by simpa using h2
     obtain⟨d,v,g1,g2,g3⟩:=bf h3 rv h1';obtain⟨e,w,g1',g2',g3'⟩:=bf Z rv' O;have:aX l m j=peq d e:=by unfold aX;rw[qc3,qc3,g1,g1'];rfl
     rw[this];have:=ih (A:=A.in1) (qd1 (di g1) Θ) (show A.units+1+n<cLine by lia) (cu hc g1 g1') g2 g2' g3 g3';simpa using this)
    have key':qy0 A s (.ref a) (.ref b) ((qd7 (min J3.length its'.length)).all (aX l m)&&J3.length==its'.length):=by simpa using key
    exact qw0 W key'
   |_=>exact absurd hc (by simp[bW,aW])
  |e l=>
   cases e with
   |e m=>
    have h0:=h;have h0':=h';simp only[Rep]at h h';obtain⟨a,vs,rfl,h2,h3⟩:=h;obtain⟨b,ws,rfl,O,Z⟩:=h';cases r;cases r';by_cases W:a=b
    .subst W;have:=j6 I _ _ _ h0 h0';rw[this];exact zb5 _
    obtain⟨J3,rv,pt,_⟩:=I.list h2;obtain⟨its',rv',pt',_⟩:=I.list O;have n1:J3.length=l.length:=by rw[<- h3.length,rv.length]
    have n2:its'.length=m.length:=by rw[<- Z.length,rv'.length]
    simp only[peq];rw[bX,<- n1,<- n2];simp only[dh]at hd;simp only[bW]at hc;by_cases U:J3.length=its'.length
    .have key:=qy0.lists (A:=A) (e:=aX l m) pt.isList pt'.isList (by simpa using U) Θ (fun j h1 h2=>by
      have h1':j<J3.length:=by simpa using h1
      have O:j<its'.length:=by simpa using h2
      obtain⟨d,v,g1,g2,g3⟩:=bf h3 rv h1';obtain⟨e,w,g1',g2',g3'⟩:=bf Z rv' O;have:aX l m j=peq d e:=by unfold aX;rw[qc3,qc3,g1,g1'];rfl
      rw[this];have:=ih (A:=A.in1) (qd1 (di g1) Θ) (show A.units+1+n<cLine by lia) (cu hc g1 g1') g2 g2' g3 g3';simpa using this)
     have e1:(J3.length==its'.length)=θ:=by simpa using U
     rw[e1,qj7,show min J3.length its'.length=J3.length by lia];exact qw0 W (by simpa using key)
    .have e1:(J3.length==its'.length)=ξ:=by simpa using U
     rw[e1,zd1];exact qw0 W (qy1 pt.isList pt'.isList (by simpa using U) Θ)
   |_=>exact absurd hc (by simp[bW,aW])
  |non=>cases e<;>first|(simp only[Rep]at h h';subst h h';exact fK r r' rfl rfl)|(simp[bW,aW]at hc)
  |bl b=>cases e<;>first|(simp only[Rep]at h h';subst h h';exact fK r r' rfl rfl)|(simp[bW,aW]at hc)
  |int b=>cases e<;>first|(simp only[Rep]at h h';subst h h';exact fK r r' rfl rfl)|(simp[bW,aW]at hc)
  |str b=>cases e<;>first|(simp only[Rep]at h h';subst h h';exact fK r r' rfl rfl)|(simp[bW,aW]at hc)
  |dct ks l=>cases e<;>(simp[bW,aW]at hc)
  |dcT ks l=>cases e<;>(simp[bW,aW]at hc)
theorem yR (I:Inv X J0 σ H s) {A:ql3} {d e:Dt} {v w:V} {u u':Value} (hq:(∃ l m,d=.t l/\e=.t m)∨∃ l m,d=.e l/\e=.e m) (hu:A.units+dh d<cLine) (hc:bW d e=θ) (h:Rep X.K H d v) (h':Rep X.K H e w) (r:RelV v u) (r':RelV w u') :
  qy0 A s u u' (peq d e)/\zb9 A s u u' (!peq d e):=by
 rcases hq with ⟨l,m,rfl,rfl⟩|⟨l,m,rfl,rfl⟩
 .simp only[Rep]at h h';obtain⟨a,vs,rfl,h2,h3⟩:=h;obtain⟨b,ws,rfl,W,Z⟩:=h';cases r;cases r';obtain⟨J3,rv,pt,_⟩:=I.tuple h2;obtain⟨its',rv',U,_⟩:=I.tuple W;have n1:J3.length=l.length:=by rw[<- h3.length,rv.length]
  have n2:its'.length=m.length:=by rw[<- Z.length,rv'.length]
  simp only[peq];rw[bX,<- n1,<- n2];simp only[dh]at hu;simp only[bW]at hc
  have he:∀j (h1:j<J3.toArray.size)(h2:j<its'.toArray.size),qf1 A.in1 s J3.toArray[j] its'.toArray[j] (aX l m j):=fun j h1 h2=>by
   have h1':j<J3.length:=by simpa using h1
   have W:j<its'.length:=by simpa using h2
   obtain⟨d,v,g1,g2,g3⟩:=bf h3 rv h1';obtain⟨e,w,g1',g2',g3'⟩:=bf Z rv' W;have:aX l m j=peq d e:=by unfold aX;rw[qc3,qc3,g1,g1'];rfl
   rw[this];have:=yQ I (deeps l) (A:=A.in1) (di g1) (show A.units+1+deeps l<cLine by lia) (cu hc g1 g1') g2 g2' g3 g3';simpa using this
  exact⟨by simpa using qy0.tuples (A:=A) (e:=aX l m) pt U Θ he,by simpa using zb9.tuples (A:=A) (e:=aX l m) pt U Θ he⟩
 .simp only[Rep]at h h';obtain⟨a,vs,rfl,h2,h3⟩:=h;obtain⟨b,ws,rfl,W,Z⟩:=h';cases r;cases r';obtain⟨J3,rv,pt,_⟩:=I.list h2;obtain⟨its',rv',U,_⟩:=I.list W;have n1:J3.length=l.length:=by rw[<- h3.length,rv.length]
  have n2:its'.length=m.length:=by rw[<- Z.length,rv'.length]
  simp only[peq];rw[bX,<- n1,<- n2];simp only[dh]at hu;simp only[bW]at hc;by_cases O:J3.length=its'.length
  .have he:∀j (h1:j<J3.toArray.size)(h2:j<its'.toArray.size),qf1 A.in1 s J3.toArray[j] its'.toArray[j] (aX l m j):=fun j h1 h2=>by
    have h1':j<J3.length:=by simpa using h1
    have W:j<its'.length:=by simpa using h2
    obtain⟨d,v,g1,g2,g3⟩:=bf h3 rv h1';obtain⟨e,w,g1',g2',g3'⟩:=bf Z rv' W;have:aX l m j=peq d e:=by unfold aX;rw[qc3,qc3,g1,g1'];rfl
    rw[this];have:=yQ I (deeps l) (A:=A.in1) (di g1) (show A.units+1+deeps l<cLine by lia) (cu hc g1 g1') g2 g2' g3 g3';simpa using this
   have e1:(J3.length==its'.length)=θ:=by simpa using O
   rw[e1,qj7,show min J3.length its'.length=J3.length by lia];exact⟨by simpa using qy0.lists (A:=A) (e:=aX l m) pt.isList U.isList (by simpa using O) Θ he,by simpa using zb9.lists (A:=A) (e:=aX l m) pt.isList U.isList (by simpa using O) Θ he⟩
  .have e1:(J3.length==its'.length)=ξ:=by simpa using O
   rw[e1,zd1];exact⟨qy1 pt.isList U.isList (by simpa using O) Θ,zb9.lists_lengths pt.isList U.isList (by simpa using O) Θ⟩
def wf(K:xA9)(O:Bool):R2:=fun x y H Q=>∃d e,((∃l m,d=.t l/\e=.t m)∨∃l m,d=.e l/\e=.e m)/\Rep K H d x/\Rep K H e y/\bW d e=θ/\dh d<=60/\Q (.bl (if O then !peq d e else peq d e)) H
theorem AU{k:Nat}(U:Room k X.A)(W:X.K=K):OpR X (qf0 .Eq) (wf K ξ):=by subst W;intro J0 s σ H x y v u Q I rx Z h;obtain⟨d,e,hq,O,he,hc,hdp,q⟩:=h;have hu:=U.units;exact(yR I hq Θ hc O he rx Z).1 _ _ _ _ ⟨.bl (peq d e),H,I,rfl,q⟩
theorem AV{k:Nat}(U:Room k X.A)(W:X.K=K):OpR X (qf0 .NotEq) (wf K θ):=by subst W;intro J0 s σ H x y v u Q I rx Z h;obtain⟨d,e,hq,O,he,hc,hdp,q⟩:=h;have hu:=U.units;exact(yR I hq Θ hc O he rx Z).2 _ _ _ _ ⟨.bl (!peq d e),H,I,rfl,q⟩
end
end L2
namespace L2
open PySem PySem.Spec
abbrev vtl:η Value:=[.type "ValueError",.type "Exception",.type "BaseException",.type "object"]
structure XCl(K:xA9)(C D f:J4):Prop where
 obj:∃dd nm bs ns qn sn sub ab col k0 k1 k2 k3 k5,K.lookup C=ς (excClassObj nm qn C ns bs (.ref D::vtl) θ sn sub ab col dd k0 k1 k2 k3 k5 "ValueError.__new__")
 init:xB9 K (.ref C) "__init__"=ς (ς (.ref f))
 fn:xH9 K (.ref f)=θ
 sa:xB9 K (.ref C) "__setattr__"=ς (ς (.builtin "object.__setattr__"))
 ga:xB9 K (.ref C) "__getattribute__"=ς (ς (.builtin "BaseException.__getattribute__"))
 gn:xB9 K (.ref C) "__getattr__"=ς ψ
 kp:xD9 K (.ref C)=θ
open PySem PySem.Spec PyProof.Rows
def xcP(x C dx:J4)(h:Heap):Prop:=∃o vs,h.get? x=ς o/\o.cls=.ref C/\o.dict=ς dx/\o.data=.fields vs
def xdP(dx:J4)(fs:η (Str×V))(h:Heap):Prop:=∃mA,h.Ns1 dx mA/\(∀f,RelO (fs.lookup f) (mA f))/\PySem.Within mA (fs.map (·.1))
abbrev XC(x C dx:J4):HO:=.ext (xcP x C dx)
abbrev XD(dx:J4)(fs:η (Str×V)):HO:=.ext (xdP dx fs)
section
variable{P:qe7}{w:J5}{K:xA9}{mg:Str->ζ Value}{base:Heap}{N:η Str}{qual:Str}{scope:J8}{f:J4}{cd:Value}{A:ql3}{outer:η Env}{s s1:qb0}{H H1:Hp}{E:XK}
 {J0:η (J4×Obj)} {σ:af} {x C dx:J4} {B:Heap}
end
section
variable{X:Cx}{P:qe7}{w:J5}{K:xA9}{mg:Str->ζ Value}{base:Heap}{N:η Str}{qual:Str}{scope:J8}{fa:J4}{cd:Value}{A:ql3}{outer:η Env}{s:qb0}{H:Hp}{E:XK}
 {k:Nat} {f C D:J4} {fd:qn1} {ps ns:η Str} {x:Str} {p pos pos':Pos} {e:J6} {es:η J6} {t:TA}
end
abbrev NT(o:HO):Prop:=∀vs,o≠.t vs
structure Step(F H F' H':Hp):Prop where
 hh:Same H H'
 ff:Same F F'
 fh:Same F' H'
 nw:∀b o,F' b=ς o->F b=ς o∨H b=ψ∨∃vs,H b=ς (.t vs)
section
variable{F H F' H' F1 H1:Hp}{p:J4}{o:HO}
theorem Step.refl(h:Same F H):Step F H F H:=⟨Same.refl _,Same.refl _,h,fun _ _ e=>.inl e⟩
theorem Step.trans(a:Step F H F1 H1)(b:Step F1 H1 F' H'):Step F H F' H':=
 ⟨a.hh.trans b.hh,a.ff.trans b.ff,b.fh,fun c o e=>by
  rcases b.nw c o e with z|z|⟨vs,z⟩
  .exact a.nw c o z
  .exact .inr (.inl (a.hh.free z))
  .cases q:H c with
   |none=>exact .inr (.inl rfl)
   |some u=>have:=a.hh c u q;rw[z]at this;cases this;exact .inr (.inr ⟨vs,rfl⟩)⟩
theorem Same.upd(hp:H p=ψ):Same H (upd H p o):=fun b u e=>by rw[ai (aK e hp)];exact e
theorem Step.new(h:Same F H)(hp:H p=ψ):Step F H (upd F p o) (upd H p o) where
 hh:=Same.upd hp
 ff:=Same.upd (h.free hp)
 fh:=fun b u e=>by
  by_cases hb:b=p
  .subst hb;rw[ah]at e ⊢;exact e
  .rw[ai hb]at e ⊢;exact h _ _ e
 nw:=fun b u e=>by
  by_cases hb:b=p
  .subst hb;exact .inr (.inl hp)
  .rw[ai hb]at e;exact .inl e
theorem Step.made(h:Same F H)(hp:H p=ψ):Step F H F (upd H p o) where
 hh:=Same.upd hp
 ff:=Same.refl _
 fh:=h.trans (Same.upd hp)
 nw:=fun b u e=>.inl e
end
def yS(K:xA9)(c:Str):ζ J4:=match xE9 K qe8 c with
 |some (ς (.ref C))=>ς C
 |_=>ψ
def RepX(K:xA9)(F:Hp)(c:Str)(l:η (Str×Dt))(v:V):Prop:=∃x C D f dx vs,v=.ref x/\yS K c=ς C/\yS K "DimError"=ς D/\XCl K C D f/\(∀g∈l.map (·.1),NoAttr K C g)∧F x=ς (XC x C dx)/\F dx=ς (XD dx ((l.map (·.1)).zip vs))/\Reps K F (l.map (·.2)) vs
variable{K:xA9}{F':Hp}
theorem RepX.same{F:Hp}{c:Str}{l:η (Str×Dt)}{v:V}(O:Same F F')(h:RepX K F c l v):RepX K F' c l v:=by obtain⟨x,C,D,f,dx,vs,e,h1,h2,U,h4,W,Z,h7⟩:=h;exact⟨x,C,D,f,dx,vs,e,h1,h2,U,h4,O _ _ W,O _ _ Z,h7.same O⟩
inductive T where
 |f (d:Dt)|e (l:List Dt)|dct (l:List (Key×Dt))|dcT (l:List (List Key×Dt))|fn (a:J4) (F0:Hp)|exc (c:Str) (l:List (Str×Dt))|rse (c:Str) (l:List (Str×Dt))
def T.d:T->ζ Dt
 |.f d=>ς d
 |.e l=>ς (.e l)
 |.dct l=>ς (.dct (l.map (·.1)) (l.map (·.2)))
 |.dcT l=>ς (.dcT (l.map (·.1)) (l.map (·.2)))
 |.fn _ _|.exc _ _|.rse _ _=>ψ
def T.own:T->Bool
 |.f _|.fn _ _|.exc _ _|.rse _ _=>ξ
 |_=>θ
def Own(K:xA9)(F H:Hp):T->V->(J4->Prop)->Prop
 |.f d,v,_=>Rep K F d v
 |.e l,v,S=>∃a vs,v=.ref a/\S a/\H a=ς (.e vs)/\Reps K F l vs
 |.dct l,v,S=>∃a J1,v=.ref a/\S a/\H a=ς (.dK J1)/\J1.map (·.1)=l.map (·.1)/\Reps K F (l.map (·.2)) (J1.map (·.2))
 |.dcT l,v,S=>∃a J1,v=.ref a/\S a/\H a=ς (.dT J1)/\J1.map (·.1)=l.map (·.1)/\Reps K F (l.map (·.2)) (J1.map (·.2))
 |.fn a F0,v,_=>v=.ref a/\Same F0 F
 |.exc c l,v,_=>RepX K F c l v
 |.rse _ _,_,_=>False
def RepB(K:xA9)(F H:Hp):Dt->V->Prop
 |.e l,v=>∃a vs,v=.ref a/\SqL K H a vs/\Reps K F l vs
 |.dct ks l,v=>∃a J1,v=.ref a/\Rd H a (.dK J1)/\J1.map (·.1)=ks/\Reps K F l (J1.map (·.2))
 |.dcT ks l,v=>∃a J1,v=.ref a/\Rd H a (.dT J1)/\J1.map (·.1)=ks/\Reps K F l (J1.map (·.2))
 |.non,v=>v=.non
 |.bl b,v=>v=.bl b
 |.int i,v=>v=.int i
 |.str x,v=>v=.str x
 |.t l,v=>∃a vs,v=.ref a/\SqT K F a vs/\Reps K F l vs
section
variable{K:xA9}{F H F' H':Hp}{t:T}{v:V}{d:Dt}{S:J4->Prop}
theorem Own.step(U:Same F F')(Z:∀b o,S b->H b=ς o->H' b=ς o)(h:Own K F H t v S):Own K F' H' t v S:=by
 induction t with
 |f d=>exact Rep.same U h
 |e l=>obtain⟨a,vs,e,O,h1,h2⟩:=h;exact⟨a,vs,e,O,Z _ _ O h1,h2.same U⟩
 |dct l=>obtain⟨a,vs,e,O,h1,h2,W⟩:=h;exact⟨a,vs,e,O,Z _ _ O h1,h2,W.same U⟩
 |dcT l=>obtain⟨a,vs,e,O,h1,h2,W⟩:=h;exact⟨a,vs,e,O,Z _ _ O h1,h2,W.same U⟩
 |fn a F0=>exact⟨h.1,h.2.trans U⟩
 |exc c l=>exact RepX.same U h
 |rse c l=>exact h
theorem RepB.of(O:Same F H)(h:Rep K F d v):RepB K F H d v:=by
 cases d with
 |e l=>simp only[Rep]at h;obtain⟨a,vs,e,h1,h2⟩:=h;exact⟨a,vs,e,O.seq h1,h2⟩
 |dct ks l=>simp only[Rep]at h;obtain⟨a,vs,e,h1,h2⟩:=h;exact⟨a,vs,e,O.rd h1,h2⟩
 |dcT ks l=>simp only[Rep]at h;obtain⟨a,vs,e,h1,h2⟩:=h;exact⟨a,vs,e,O.rd h1,h2⟩
 |t l=>simp only[Rep]at h;exact h
 |_=>simp only[Rep]at h;exact h
theorem RepB.rep(O:Same F H)(h:RepB K F H d v):Rep K H d v:=by
 cases d with
 |e l=>obtain⟨a,vs,e,h1,h2⟩:=h;simp only[Rep];exact⟨a,vs,e,h1,h2.same O⟩
 |dct ks l=>obtain⟨a,vs,e,h1,h2,U⟩:=h;simp only[Rep];exact⟨a,vs,e,h1,h2,U.same O⟩
 |dcT ks l=>obtain⟨a,vs,e,h1,h2,U⟩:=h;simp only[Rep];exact⟨a,vs,e,h1,h2,U.same O⟩
 |t l=>obtain⟨a,vs,e,h1,h2⟩:=h;simp only[Rep];exact⟨a,vs,e,O.tup h1,h2.same O⟩
 |_=>simp only[Rep];exact h
theorem Own.repB(U:Same F H)(h:Own K F H t v S)(O:t.d=ς d):RepB K F H d v:=by
 cases t with
 |f d=>cases O;exact RepB.of U h
 |e l=>cases O;obtain⟨a,vs,e,_,h1,h2⟩:=h;exact⟨a,vs,e,SqL.of h1,h2⟩
 |dct l=>cases O;obtain⟨a,vs,e,_,h1,h2⟩:=h;exact⟨a,vs,e,.inl h1,h2⟩
 |dcT l=>cases O;obtain⟨a,vs,e,_,h1,h2⟩:=h;exact⟨a,vs,e,.inl h1,h2⟩
 |fn a F0=>cases O
 |exc c l=>cases O
 |rse c l=>cases O
open Classical in
def j7(F H:Hp)(S:J4->Prop):Hp:=fun b=>if S b then H b else F b
theorem gz{b:J4}(h:S b):j7 F H S b=H b:=if_pos h
theorem eI{b:J4}(h:¬ S b):j7 F H S b=F b:=if_neg h
theorem j8(hs:∀b,S b->F b=ψ):Same F (j7 F H S):=fun b o e=>by
 have:¬ S b:=fun z=>by rw[hs b z]at e;cases e
 rw[eI this];exact e
theorem n9(O:Same F H):Same (j7 F H S) H:=fun b o e=>by
 by_cases h:S b
 .rw[gz h]at e;exact e
 .rw[eI h]at e;exact O _ _ e
theorem Own.freeze(hs:∀b,S b->F b=ψ)(h:Own K F H t v S)(O:t.d=ς d):Rep K (j7 F H S) d v:=by
 have U:=j8 (H:=H) hs;cases t with
 |f d=>cases O;exact Rep.same U h
 |e l=>cases O;obtain⟨a,vs,e,q,h1,h2⟩:=h;simp only[Rep];exact⟨a,vs,e,SqL.of (by rw[gz q];exact h1),h2.same U⟩
 |dct l=>cases O;obtain⟨a,vs,e,q,h1,h2,W⟩:=h;simp only[Rep];exact⟨a,vs,e,.inl (by rw[gz q];exact h1),h2,W.same U⟩
 |dcT l=>cases O;obtain⟨a,vs,e,q,h1,h2,W⟩:=h;simp only[Rep];exact⟨a,vs,e,.inl (by rw[gz q];exact h1),h2,W.same U⟩
 |fn a F0=>cases O
 |exc c l=>cases O
 |rse c l=>cases O
end
abbrev De:=η (ζ T)
variable{i:Nat}{a:J4}
section
variable{Φ:Fm}{δ:De}{σ:af}{F H F' H':Hp}
theorem aJ{α:Type}{l:η (ζ α)}{j:Nat}{x y:ζ α}(h:(l.set i x)[j]?=ς y):(i=j/\y=x)∨(i≠j/\l[j]?=ς y):=by
 by_cases O:i=j
 .subst O;left;rw[List.getElem?_set]at h;simp only[if_true]at h;split at h
  .cases h;exact⟨rfl,rfl⟩
  .cases h
 .right;rw[gN O]at h;exact⟨O,h⟩
theorem qa{t:T}{S:J4->Prop}(O:t.own=θ)(h:Own K F H t (.ref a) S):S a:=by
 cases t with
 |f d=>cases O
 |e l=>obtain⟨b,_,e,q,_⟩:=h;cases e;exact q
 |dct l=>obtain⟨b,_,e,q,_⟩:=h;cases e;exact q
 |dcT l=>obtain⟨b,_,e,q,_⟩:=h;cases e;exact q
 |fn b F0=>cases O
 |exc c l=>cases O
 |rse c l=>cases O
end
def KO(K:xA9)(F H:Hp)(t:T)(Q:VK):Prop:=∀v H' F' S,Step F H F' H'->Own K F' H' t v S->(∀b,S b->F' b=ψ/\H b=ψ/\∃o,H' b=ς o/\NT o)->Q v H'
def KL(K:xA9)(F H:Hp)(d:Dt)(Q:VK):Prop:=∀v H' F',Step F H F' H'->Rep K F' d v->Q v H'
section
variable{K:xA9}{F H F1 H1:Hp}{t:T}{d:Dt}{Q:VK}
theorem KO.step(k:KO K F H t Q)(st:Step F H F1 H1):KO K F1 H1 t Q:=fun v H' F' S s o O=>k v H' F' S (st.trans s) o fun b z=>⟨(O b z).1,st.hh.free (O b z).2.1,(O b z).2.2⟩
theorem KO.leaf(k:KO K F H (.f d) Q):KL K F H d Q:=fun v H' F' st r=>k v H' F' (fun _=>False) st r fun _ z=>z.elim
theorem KL.here(k:KL K F H d Q)(O:Same F H){v:V}(r:Rep K F d v):Q v H:=k v H F (Step.refl O) r
theorem KL.to(U:t.d=ς d)(k:KL K F H d Q):KO K F H t Q:=fun v H' F' S st o O=>by
 refine k v H' (j7 F' H' S) ⟨st.hh,st.ff.trans (j8 fun b z=>(O b z).1),n9 st.fh,fun b u z=>?_⟩ (o.freeze (fun b z=>(O b z).1) U);by_cases hb:S b
 .exact .inr (.inl (O b hb).2.1)
 .rw[eI hb]at z;exact st.nw b u z
end
variable{X:Cx}{e:J6}
theorem PE.mono{t t':TE}(h:PE X e t)(m:∀ σ H Q,t' σ H Q->t σ H Q):PE X e t':=fun J0 s σ H Q I q=>h J0 s σ H Q I (m _ _ _ q)
theorem PT.mono{t t':TT}(h:PT X e t)(m:∀ σ H Q,t' σ H Q->t σ H Q):PT X e t':=fun J0 s σ H Q I q=>h J0 s σ H Q I (m _ _ _ q)
theorem PW.mono{t t':TT}(h:PW X e t)(m:∀ σ H Q,t' σ H Q->t σ H Q):PW X e t':=fun O J0 s σ H Q I q=>h O J0 s σ H Q I (m _ _ _ q)
theorem PA.mono{e:η J6}{t t':TA}(h:PA X e t)(m:∀ σ H Q,t' σ H Q->t σ H Q):PA X e t':=fun pos J0 s σ H Q I q=>h pos J0 s σ H Q I (m _ _ _ q)
variable{tg:J6}
theorem PI.mono{t t':TI}(h:PI X tg e t)(m:∀ σ H Q,t' σ H Q->t σ H Q):PI X tg e t':=fun J0 s σ H Q I q=>h J0 s σ H Q I (m _ _ _ q)
theorem PG.mono{t t':TG}(h:PG X e t)(m:∀v σ H Q,t' v σ H Q->t v σ H Q):PG X e t':=fun J0 s σ H v u Q I r q=>h J0 s σ H v u Q I r (m _ _ _ _ q)
theorem PSBq.mono{e:Stmt}{t t':TS}(h:PSBq X e t)(m:∀D σ H,t' D σ H->t D σ H):PSBq X e t':=fun J0 s σ H Q I q=>h J0 s σ H Q I (m _ _ _ q)
theorem PSs.mono{e:η Stmt}{t t':TS}(h:PSs X e t)(m:∀D σ H,t' D σ H->t D σ H):PSs X e t':=fun J0 s σ H Q I q=>h J0 s σ H Q I (m _ _ _ q)
theorem PI.or{t t':TI}(h:PI X tg e t)(h':PI X tg e t'):PI X tg e (fun σ H Q=>t σ H Q∨t' σ H Q):=fun J0 s σ H Q I q=>q.elim (h J0 s σ H Q I) (h' J0 s σ H Q I)
variable{l ds:η Dt}{vs:η V}{H:Hp}
section
variable{X:Cx}{e a b c:J6}{f:De->ζ T}{g fa fb fc:De->ζ Dt}{pos:Pos}
def R2D(K:xA9)(r:R2)(g:Dt->Dt->ζ T):Prop:=∀F H x y vx vy (Q:VK) t,Same F H->RepB K F H x vx->RepB K F H y vy->g x y=ς t->KO K F H t Q->r vx vy H Q
def j9:Dt->ζ Bool
 |.non=>ς ξ
 |.bl b=>ς b
 |.int i=>ς (i != 0)
 |.str x=>if x.length<=qa9 then ς ((x.length:Int) != 0)else ψ
 |.t l=>ς (!l.isEmpty)
 |.e l=>ς (!l.isEmpty)
 |_=>ψ
theorem eJ{F:Hp}(h:Reps K F l vs):l.isEmpty=vs.isEmpty:=by
 cases l with
 |nil=>unfold Reps at h;rw[h];rfl
 |cons d l=>unfold Reps at h;obtain⟨v,ws,rfl,_⟩:=h;rfl
theorem wg{F:Hp}{d:Dt}{v:V}{b:Bool}(O:Same F H)(h:RepB K F H d v)(hb:j9 d=ς b):Az K v H b:=by
 cases d with
 |non=>cases h;cases hb;rfl
 |bl x=>cases h;cases hb;rfl
 |int x=>cases h;cases hb;rfl
 |str x=>
  cases h;simp only[j9]at hb;split at hb
  .cases hb;exact⟨by assumption,rfl⟩
  .cases hb
 |t l=>obtain⟨a,vs,rfl,h1,h2⟩:=h;cases hb;exact .inr (.inl ⟨vs,O.tup h1,by rw[eJ h2]⟩)
 |e l=>obtain⟨a,vs,rfl,h1,h2⟩:=h;cases hb;exact .inl ⟨vs,h1,by rw[eJ h2]⟩
 |dct ks l=>cases hb
 |dcT ks l=>cases hb
variable{ta tb tc:De->ζ Bool}{rest:η J6}
theorem ib{F:Hp}{b:Bool}:Rep K F (.bl b) (.bl b):=by simp only[Rep]
theorem br{F:Hp}{b:Int}:Rep K F (.int b) (.int b):=by simp only[Rep]
theorem eM{F:Hp}{b:Str}:Rep K F (.str b) (.str b):=by simp only[Rep]
theorem oe{F:Hp}:Rep K F .non .non:=by simp only[Rep]
variable{oa ob:De->ζ T}
def lm(K:xA9)(F H:Hp):η Dt->η V->Prop
 |[],vs=>vs=[]
 |d::l,vs=>∃v ws,vs=v::ws/\RepB K F H d v/\lm K F H l ws
variable{es:η J6}{fs:De->ζ (η Dt)}
theorem cg{F:Hp}{p:J4}{Q:VK}(k:KO K F H (.e ds) Q)(O:Same F H)(r:Reps K F ds vs)(hp:H p=ψ):Q (.ref p) (upd H p (.e vs)):=by
 refine k _ _ F (fun b=>b=p) (Step.made O hp) ⟨p,vs,rfl,rfl,ah,r⟩ fun b z=>?_
 subst z;exact⟨O.free hp,hp,_,ah,nofun⟩
def CRD(K:xA9)(r:η V->Hp->VK->Prop)(g:η Dt->ζ T):Prop:=∀F H ds vs (Q:VK) t,Same F H->lm K F H ds vs->g ds=ς t->KO K F H t Q->r vs H Q
variable{x:Str}{p:Pos}{id Ty:String}{sc:J8}{r:η V->Hp->VK->Prop}{gg:η Dt->ζ T}
end
variable{J:It}{xs:η V}
section
variable{X:Cx}{st:Stmt}{rest a b body:η Stmt}{g g1 g2:De->ζ Out}{e c tg iter:J6}{pos:Pos}{f:De->ζ T}{fd:De->ζ Dt}{tc:De->ζ Bool}{i:Nat}
def sw(K:xA9)(F':Hp)(J:It)(ds:η Dt)(ok:Hp->Prop):Prop:=∀(i:Nat)(H F:Hp),ok H->Same F H->Same F' F->(i<ds.length->J.go i H)/\(i=ds.length->J.stop i H)/\∀x H',i<ds.length->J.yld i H x H'->∃d F2,ds[i]?=ς d/\Step F H F2 H'/\Rep K F2 d x
theorem Plain.walk{ok:Hp->Prop}(pl:Plain J xs ok)(r:Reps K F' ds xs):sw K F' J ds ok:=fun i H F O fh ff=>by
 obtain⟨p1,p2,Z⟩:=pl i H O;have hl:=r.length;refine⟨fun h=>p1 Θ,fun h=>p2 Θ,fun x H' hi hy=>?_⟩;obtain⟨rfl,W⟩:=Z x H' Θ hy;have U:ds[i]?=ς ds[i]:=by simp[hi]
 obtain⟨v,e,rv⟩:=r.get U;rw[W]at e;cases e;exact⟨_,F,U,Step.refl fh,rv.same ff⟩
end
variable{n:Nat}{σ:af}{H1:Hp}
section
variable{X:Cx}{st:Stmt}{rest a b body:η Stmt}{g g1 g2:De->ζ Out}{e c tg iter l:J6}{pos:Pos}{f:De->ζ T}{fd:De->ζ Dt}{tc:De->ζ Bool}{i:Nat}{fi:De->ζ (η Dt)}
theorem Reps.same_get{F:Hp}(r:Reps K F ds xs){x:V}(h:xs[i]?=ς x):∃d,ds[i]?=ς d/\Rep K F d x:=by
 have hl:=r.length;have hi:i<xs.length:=(gX h).1;have O:ds[i]?=ς ds[i]:=by simp[show i<ds.length by lia]
 obtain⟨v,e,U⟩:=r.get O;rw[h]at e;cases e;exact⟨_,O,U⟩
theorem oh{α:Type}{l:η α}{d:α}(h:l[i]?=ς d):l.drop i=d::l.drop (i+1):=by have hi:i<l.length:=(gX h).1;rw[qx1 hi];congr 1;have:=(gX h).2;exact this
theorem sx{g:TG}{tb:TS}{D:Ends}(O:Nat->af->Hp->Prop)(h0:O 0 σ H1)(Z:∀i σ H,O i σ H->(i<n->J.go i H)/\(i=n->J.stop i H))
 (hs:∀i x σ H H',i<n->O i σ H->J.yld i H x H'->g x σ H' fun W H2=>tb {D with nx:=O (i+1),ct:=O (i+1),bk:=D.nx} W H2) (hd:∀ σ H,O n σ H->D.nx σ H):ForW g tb D J σ H1:=by
 refine⟨fun i m σ H=>m=n-i/\i<=n/\O i σ H,⟨n,Ξ,qg9 _,h0⟩,?_⟩;rintro i m σ H ⟨rfl,hi,p⟩;obtain⟨p1,p2⟩:=Z i σ H p;by_cases U:i<n
 .exact .inr ⟨p1 U,O (i+1),fun σ' H' p'=>⟨n-(i+1),Θ,rfl,U,p'⟩,fun x H' y=>hs i x σ H H' U p y⟩
 .have e:i=n:=by lia
  subst e;exact .inl ⟨p2 rfl,hd σ H p⟩
def aD(lo:Int)(n:Nat):η Dt:=(qd7 n).map fun(i:Nat)=>.int (lo+i)
theorem Reps.map{F:Hp}{α:Type}{f:α->Dt}{g:α->V}(h:∀x,Rep K F (f x) (g x)):∀l:η α,Reps K F (l.map f) (l.map g)
 |[]=>by simp[Reps]
 |x::l=>by simp only[qa3,Reps];exact⟨_,_,rfl,h x,Reps.map h l⟩
def itD:Dt->ζ (η Dt)
 |.e l=>ς l
 |.t l=>ς l
 |_=>ψ
variable{p:Pos}{sc:J8}{x y:J6}{fs:De->ζ (η Dt)}
end
variable{D:J4}
section
variable{X:Cx}{elt tg iter:J6}{ifs:η J6}{scope:J8}{pos:Pos}{M:η Str}{src:η (ζ Nat)}{fi:De->ζ (η Dt)}{ft:De->ζ Bool}{fe:De->ζ Dt}
theorem wj{k j:Nat}{v:V}(h1:src[k]?=ς (ς j))(h2:σ[j]?=ς (ς v)):(aP src σ)[k]?=ς (ς v):=by unfold aP;rw[qa8,h1];simp[h2]
theorem AW{k:Nat}{v:V}(h:(aP src σ)[k]?=ς (ς v)):∃j,src[k]?=ς (ς j)/\σ[j]?=ς (ς v):=by
 unfold aP at h;rw[qa8]at h;cases e:src[k]? with
 |none=>rw[e]at h;cases h
 |some o=>
  rw[e]at h;cases o with
  |none=>cases h
  |some j=>
   simp only[qb2,qa0,qx8]at h;refine⟨j,rfl,?_⟩;cases q:σ[j]? with
   |none=>rw[q]at h;cases h
   |some u=>rw[q]at h;simp only[qp8]at h;rw[h]
theorem qb{g:TG}{tt:TT}{te:TE}{Q:VK}(O:Nat->Hp->Prop)(h0:O 0 (upd H1 D (.e [])))(Z:∀i H,O i H->(i<n->J.go i H)/\(i=n->J.stop i H))
 (hs:∀i x H H',i<n->O i H->J.yld i H x H'->g x (aP src σ) H' fun U H2=>Wk (aP src σ) U/\tt U H2 fun b H3=>if b=θ then te U H3 fun v H4=>∃ys,H4 D=ς (.e ys)/\ys.length<qa9/\O (i+1) (upd H4 D (.e (ys++[v])))else O (i+1) H3)
 (hd:∀H,O n H->Q (.ref D) H):yP src g tt te σ J H1 Q D:=by
 refine⟨fun i m H=>m=n-i/\i<=n/\O i H,⟨n,Ξ,qg9 _,h0⟩,?_⟩;rintro i m H ⟨rfl,hi,p⟩;obtain⟨p1,p2⟩:=Z i H p;by_cases W:i<n
 .exact .inr ⟨p1 W,O (i+1),fun H' p'=>⟨n-(i+1),Θ,rfl,W,p'⟩,fun x H' y=>hs i x H H' W p y⟩
 .have e:i=n:=by lia
  subst e;exact .inl ⟨p2 rfl,hd H p⟩
end
section
variable{K:xA9}{F H:Hp}{Q:VK}
theorem KO.int{i:Int}(k:KO K F H (.f (.int i)) Q)(O:Same F H):Q (.int i) H:=k.leaf.here O br
theorem KO.bl{i:Bool}(k:KO K F H (.f (.bl i)) Q)(O:Same F H):Q (.bl i) H:=k.leaf.here O ib
theorem KO.str{i:Str}(k:KO K F H (.f (.str i)) Q)(O:Same F H):Q (.str i) H:=k.leaf.here O eM
theorem KO.tup{p:J4}(k:KO K F H (.f (.t l)) Q)(O:Same F H)(r:Reps K F l vs)(hp:H p=ψ):Q (.ref p) (upd H p (.t vs)):=by refine k.leaf _ _ _ (Step.new O hp) ?_;simp only[Rep];exact⟨p,vs,rfl,SqT.of ah,r.same (Same.upd (O.free hp))⟩
end
def cj(i j:Int):Bool:=(decide (-(2^64)<i)&&decide (i<2^64))||(decide (-(2^64)<j)&&decide (j<2^64))
variable{j:Int}
theorem wl{i:Int}(h:cj i j=θ):CMul i j:=by unfold cj at h;simp only[qg5,qa1,decide_eq_true_eq]at h;exact h
theorem eN{i:Int}(h1:-1000000000000000000<i)(h2:i<1000000000000000000):cj i j=θ:=by unfold cj;simp only[qg5,qa1,decide_eq_true_eq];left;lia
theorem oj{i:Int}(h1:-1000000000000000000<j)(h2:j<1000000000000000000):cj i j=θ:=by unfold cj;simp only[qg5,qa1,decide_eq_true_eq];right;lia
def om(i j:Int):Bool:=decide (0<=j)&&decide (j<=1000000)&&decide (i.natAbs<2^64)
theorem wm{i:Int}(h:om i j=θ):Am i j:=by unfold om at h;simp only[qa1,decide_eq_true_eq]at h;exact⟨h.1.1,h.1.2,h.2⟩
def cW:Dt->Dt->ζ T
 |.int i,.int j=>ς (.f (.int (i+j)))
 |.str a,.str b=>if a.length+b.length<=qa9 then ς (.f (.str (a++b)))else ψ
 |.e l,.e m=>if l.length+m.length<=qa9 then ς (.e (l++m))else ψ
 |.t l,.t m=>if l.length+m.length<=qa9/\l≠[]/\m≠[]then ς (.f (.t (l++m)))else ψ
 |_,_=>ψ
def oo:Dt->Dt->ζ T
 |.int i,.int j=>ς (.f (.int (i-j)))
 |_,_=>ψ
def iS:Dt->Dt->ζ T
 |.int i,.int j=>if cj i j then ς (.f (.int (i*j)))else ψ
 |_,_=>ψ
def aA:Dt->Dt->ζ T
 |.int i,.int j=>if 0<j then ς (.f (.int (i%j)))else ψ
 |_,_=>ψ
def sA:Dt->Dt->ζ T
 |.int i,.int j=>if om i j then ς (.f (.int (i^j.toNat)))else ψ
 |_,_=>ψ
def qc(f:Int->Int->Int):Dt->Dt->ζ T
 |.int i,.int j=>ς (.f (.int (f i j)))
 |_,_=>ψ
def qd(f:Int->Int->Bool):Dt->Dt->ζ T
 |.int i,.int j=>ς (.f (.bl (f i j)))
 |_,_=>ψ
variable{vx:V}{b:Bool}
section
variable{X:Cx}
theorem wn:OpR X (qh4 .Add) (fun x y H Q=>∃l b xs zs,x=.ref l/\y=.ref b/\SqL X.K H l xs/\SqL X.K H b zs/\xs.length+zs.length<=qa9/\∀p,H p=ψ->Q (.ref p) (upd H p (.e (xs++zs)))):=by
 intro J0 s σ H x y v u Q I rx ry h;obtain⟨l,b,xs,zs,rfl,rfl,hH,hB,hz,q⟩:=h;cases rx;cases ry;obtain⟨J3,r,pl,_⟩:=I.list hH;obtain⟨O,r2,pl2,_⟩:=I.list hB;obtain⟨⟨cls,dd,data,sl⟩,n,ho,hc,hd0,hd⟩:=pl;obtain⟨⟨cls2,dd2,data2,sl2⟩,n2,U,W,hd02,Z⟩:=pl2;simp only at hc hd W Z;subst hc hd W Z;have e:J3.toArray++O.toArray=(J3++O).toArray:=by simp
 refine qv8 ⟨_,ho,rfl⟩ ⟨_,U,rfl⟩ noFill_list_add seq_list_add PySem.F.slot_list_add PySem.F.entry_list_add (PySem.F.args_list_add_2 _ _) (list_addW l b J3.toArray O.toArray n n2 dd dd2 sl sl2 (by rw[qb6,qb6,<- r.length,<- r2.length];exact hz)) ⟨ho,U,?_⟩;rw[e];exact⟨.ref _,_,I.lnew (t':=s.toks) (r.append r2) (by rw[qc5];exact hz),rfl,q _ I.fresh⟩
abbrev jm(K:xA9):R2:=fun x y H Q=>(rI0 (fun i j=>.int (i+j)) x y H Q)∨(∃i j,x=.str i/\y=.str j/\i.length+j.length<=qa9/\Q (.str (i++j)) H)∨(∃l b xs zs,x=.ref l/\y=.ref b/\SqL K H l xs/\SqL K H b zs/\xs.length+zs.length<=qa9/\∀p,H p=ψ->Q (.ref p) (upd H p (.e (xs++zs))))∨yK K x y H Q
theorem oq:OpR X (qh4 .Add) (jm X.K):=OpR.or An (OpR.or mE (OpR.or wn vZ))
theorem yT:R2D K (jm K) cW:=by
 intro F H x y vx vy Q t U Z W O k;unfold cW at O;split at O<;>first|(cases O;done)|skip
 .cases O;cases Z;cases W;exact .inl ⟨_,_,rfl,rfl,k.int U⟩
 .split at O
  .cases O;cases Z;cases W;exact .inr (.inl ⟨_,_,rfl,rfl,by assumption,k.str U⟩)
  .cases O
 .split at O
  .rename_i hl;cases O;obtain⟨a,vs,rfl,h1,h2⟩:=Z;obtain⟨b,ws,rfl,h3,h4⟩:=W;exact .inr (.inr (.inl ⟨a,b,vs,ws,rfl,rfl,h1,h3,by rw[h2.length,h4.length];exact hl,fun p hp=>cg k U (h2.append h4) hp⟩))
  .cases O
 .split at O
  .rename_i hl;cases O;obtain⟨a,vs,rfl,h1,h2⟩:=Z;obtain⟨b,ws,rfl,h3,h4⟩:=W;obtain⟨hl,n1,n2⟩:=hl;refine .inr (.inr (.inr ⟨a,b,vs,ws,rfl,rfl,U.tup h1,U.tup h3,fun z=>?_,by rw[h2.length,h4.length];exact hl,fun z=>?_,fun _ p hp=>k.tup U (h2.append h4) hp⟩))
   .subst z;have:=h2.length;exact n1 (qt3 this.symm)
   .subst z;have:=h4.length;exact absurd (qt3 this.symm) n2
  .cases O
theorem mV{f:Int->Int->Int}:R2D K (rI0 fun i j=>.int (f i j)) (qc f):=by
 intro F H x y vx vy Q t U Z W O k;unfold qc at O;split at O<;>first|(cases O;done)|skip
 cases O;cases Z;cases W;exact⟨_,_,rfl,rfl,k.int U⟩
theorem DT:R2D K (rI0 fun i j=>.int (i-j)) oo:=by
 intro F H x y vx vy Q t W U Z O k;unfold oo at O;split at O<;>first|(cases O;done)|skip
 cases O;cases U;cases Z;exact⟨_,_,rfl,rfl,k.int W⟩
theorem DU:R2D K (gW CMul fun i j=>.int (i*j)) iS:=by
 intro F H x y vx vy Q t W U Z O k;unfold iS at O;split at O<;>first|(cases O;done)|skip
 split at O
 .cases O;cases U;cases Z;exact⟨_,_,rfl,rfl,wl (by assumption),k.int W⟩
 .cases O
theorem DV:R2D K (gW (fun _ j=>0<j) fun i j=>.int (i%j)) aA:=by
 intro F H x y vx vy Q t U Z W O k;unfold aA at O;split at O<;>first|(cases O;done)|skip
 split at O
 .cases O;cases Z;cases W;exact⟨_,_,rfl,rfl,by assumption,k.int U⟩
 .cases O
theorem DW:R2D K (gW Am fun i j=>.int (i^j.toNat)) sA:=by
 intro F H x y vx vy Q t W U Z O k;unfold sA at O;split at O<;>first|(cases O;done)|skip
 split at O
 .cases O;cases U;cases Z;exact⟨_,_,rfl,rfl,wm (by assumption),k.int W⟩
 .cases O
theorem yU{f:Int->Int->Bool}:R2D K (rI0 fun i j=>.bl (f i j)) (qd f):=by
 intro F H x y vx vy Q t U Z W O k;unfold qd at O;split at O<;>first|(cases O;done)|skip
 cases O;cases Z;cases W;exact⟨_,_,rfl,rfl,k.bl U⟩
def eqD:Dt->Dt->ζ Bool
 |.non,.non=>ς θ
 |.non,.int _=>ς ξ
 |.non,.bl _=>ς ξ
 |.non,.str _=>ς ξ
 |.int _,.non=>ς ξ
 |.bl _,.non=>ς ξ
 |.str _,.non=>ς ξ
 |.int i,.int j=>ς (decide (i=j))
 |.bl i,.bl j=>ς (decide (i=j))
 |.str i,.str j=>ς (decide (i=j))
 |.int _,.str _=>ς ξ
 |.str _,.int _=>ς ξ
 |.bl _,.str _=>ς ξ
 |.str _,.bl _=>ς ξ
 |.t l,.t m=>if cmpbs l m&&decide (deeps l<=59)then ς (peqs l m)else ψ
 |.e l,.e m=>if cmpbs l m&&decide (deeps l<=59)then ς (peqs l m)else ψ
 |_,_=>ψ
def gEq(O:Bool)(x y:Dt):ζ T:=(eqD x y).map fun b=>.f (.bl (if O then !b else b))
abbrev rEqA(K:xA9):R2:=fun x y H Q=>rEq x y H Q∨wf K ξ x y H Q
abbrev rNeA(K:xA9):R2:=fun x y H Q=>rNe x y H Q∨wf K θ x y H Q
theorem AX{k:Nat}(O:Room k X.A):OpR X (qf0 .Eq) (rEqA X.K):=OpR.or DG (AU O rfl)
theorem AY{k:Nat}(O:Room k X.A):OpR X (qf0 .NotEq) (rNeA X.K):=OpR.or DH (AV O rfl)
theorem sB {F:Hp} {x y:Dt} {O:V} (Z:Same F H) (W:RepB K F H x vx) (U:RepB K F H y O) (h:eqD x y=ς b) :
  (Ax vx O=θ/\b=decide (vx=O))∨(((∃l m,x=.t l/\y=.t m)∨∃l m,x=.e l/\y=.e m)/\bW x y=θ/\dh x<=60/\b=peq x y):=by
 unfold eqD at h
 split at h<;>first
  |(cases h;done)
  |(cases h;cases W;cases U;left;refine⟨rfl,?_⟩;simp;done)
  |skip
 .right;split at h
  .rename_i q;simp only[qa1,decide_eq_true_eq]at q;cases h;exact⟨.inl ⟨_,_,rfl,rfl⟩,by simp only[bW];exact q.1,by simp only[dh];lia,by simp only[peq]⟩
  .cases h
 .right;split at h
  .rename_i q;simp only[qa1,decide_eq_true_eq]at q;cases h;exact⟨.inr ⟨_,_,rfl,rfl⟩,by simp only[bW];exact q.1,by simp only[dh];lia,by simp only[peq]⟩
  .cases h
theorem r_eq:R2D K (rEqA K) (gEq ξ):=by
 intro F H x y vx vy Q t O rx W U k;unfold gEq at U;obtain⟨b,hb,U⟩:=qd3.mp U;cases U;have Z:Q (.bl b) H:=k.bl O;rcases sB O rx W hb with ⟨h1,rfl⟩|⟨h1,h2,h3,rfl⟩
 .exact .inl ⟨h1,Z⟩
 .exact .inr ⟨x,y,h1,rx.rep O,W.rep O,h2,h3,Z⟩
theorem r_ne:R2D K (rNeA K) (gEq θ):=by
 intro F H x y vx vy Q t O rx W U k;unfold gEq at U;obtain⟨b,hb,U⟩:=qd3.mp U;cases U;have Z:Q (.bl (!b)) H:=k.bl O;rcases sB O rx W hb with ⟨h1,rfl⟩|⟨h1,h2,h3,rfl⟩
 .exact .inl ⟨h1,Z⟩
 .exact .inr ⟨x,y,h1,rx.rep O,W.rep O,h2,h3,Z⟩
def cw:Dt->Bool
 |.non=>θ
 |_=>ξ
def gIs(O:Bool)(x y:Dt):ζ T:=match y with
 |.non=>ς (.f (.bl (if O then !cw x else cw x)))
 |_=>ψ
theorem lp{F:Hp}{x:Dt}{v:V}(r:RepB K F H x v):cw x=decide (v=.non):=by
 cases x<;>first
  |(cases r;rfl)
  |(obtain⟨a,vs,rfl,_⟩:=r;rfl)
  |(simp only[RepB,Rep]at r;obtain⟨a,C,dx,fs,rfl,_⟩:=r;rfl)
theorem r_is:R2D K (fun x y H Q=>y=.non/\Q (.bl (decide (x=.non))) H) (gIs ξ):=by
 intro F H x y vx vy Q t U Z W O k;cases y<;>first|cases O;done|skip
 cases O;cases W;refine⟨rfl,?_⟩;rw[<- lp Z];exact k.bl U
theorem wo:R2D K (fun x y H Q=>y=.non/\Q (.bl (!decide (x=.non))) H) (gIs θ):=by
 intro F H x y vx vy Q t U Z W O k;cases y<;>first|cases O;done|skip
 cases O;cases W;refine⟨rfl,?_⟩;rw[<- lp Z];exact k.bl U
def cz:Dt->Bool
 |.non=>θ
 |.bl _=>θ
 |.int _=>θ
 |.str _=>θ
 |_=>ξ
def eqF:Dt->Dt->Bool
 |.non,.non=>θ
 |.bl a,.bl b=>a==b
 |.bl a,.int b=>(if a then 1 else 0)==b
 |.int a,.bl b=>a==(if b then 1 else 0)
 |.int a,.int b=>a==b
 |.str a,.str b=>a==b
 |_,_=>ξ
def inS(j i:Str):Bool:=!(qr5 j i 0 j.length 1).isEmpty
def inD:Dt->Dt->ζ Bool
 |.str i,.str j=>ς (inS j i)
 |x,.e l=>if cz x&&l.all cz then ς (l.any fun y=>eqF y x)else ψ
 |x,.t l=>if cz x&&l.all cz then ς (l.any fun y=>eqF y x)else ψ
 |_,_=>ψ
def gIn(O:Bool)(x y:Dt):ζ T:=(inD x y).map fun b=>.f (.bl (if O then !b else b))
theorem kc{F:Hp}{d:Dt}{v:V}(r:Rep K F d v)(h:cz d=θ):dO v=θ:=by
 cases d<;>simp only[Rep]at r<;>first
  |(subst r;rfl)
  |cases h
theorem AZ{F:Hp}{d e:Dt}{v w:V}(r:Rep K F d v)(O:Rep K F' e w)(h:cz d=θ)(h':cz e=θ):eqF d e=eqV v w:=by
 cases d<;>first|cases h;done|skip
 all_goals cases e<;>first|cases h';done|skip
 all_goals simp only[Rep]at r O;subst r O;rfl
theorem ic{F:Hp}:∀{l:η Dt}{vs:η V},Reps K F l vs->l.all cz=θ->vs.all dO=θ
 |[],vs,r,_=>by simp only[Reps]at r;subst r;rfl
 |d::l,vs,r,h=>by simp only[Reps]at r;obtain⟨v,ws,rfl,h1,h2⟩:=r;rw[qc7,qa1]at h ⊢;exact⟨kc h1 h.1,ic h2 h.2⟩
theorem mW{F:Hp}{x:Dt}{w:V}(U:Rep K F' x w)(O:cz x=θ):∀{l:η Dt}{vs:η V},Reps K F l vs->l.all cz=θ->(l.any fun y=>eqF y x)=inV w vs
 |[],vs,r,_=>by simp only[Reps]at r;subst r;rfl
 |d::l,vs,r,h=>by simp only[Reps]at r;obtain⟨v,ws,rfl,h1,h2⟩:=r;rw[qc7,qa1]at h;unfold inV;rw[ql5,ql5,AZ h1 U h.1 O,mW U O h2 h.2];rfl
abbrev A0(K:xA9)(neg:Bool):R2:=fun x y H Q=>(∃i j,x=.str i/\y=.str j/\Q (.bl (if neg then !inS j i else inS j i)) H)∨rIn K neg x y H Q
theorem A6:OpR X (qf0 .In) (A0 X.K ξ):=OpR.or pP pY
theorem qe:OpR X (qf0 .NotIn) (A0 X.K θ):=OpR.or jU jT
theorem r_in(W:Bool):R2D K (A0 K W) (gIn W):=by
 intro F H x y vx vy Q t fh rx ry Z k;unfold gIn at Z;obtain⟨b,hb,Z⟩:=qd3.mp Z;cases Z;have U:=k.bl fh;unfold inD at hb;split at hb<;>first|(cases hb;done)|skip
 .cases hb;cases rx;cases ry;exact .inl ⟨_,_,rfl,rfl,U⟩
 .split at hb
  .rename_i q;rw[qa1]at q;cases hb;obtain⟨a,vs,rfl,h1,h2⟩:=ry;have O:=rx.rep fh;rw[mW O q.1 h2 q.2]at U;exact .inr ⟨a,vs,rfl,.inl h1,kc O q.1,ic h2 q.2,U⟩
  .cases hb
 .split at hb
  .rename_i q;rw[qa1]at q;cases hb;obtain⟨a,vs,rfl,h1,h2⟩:=ry;have O:=rx.rep fh;rw[mW O q.1 h2 q.2]at U;exact .inr ⟨a,vs,rfl,.inr (fh.tup h1),kc O q.1,ic h2 q.2,U⟩
  .cases hb
theorem lq{F:Hp}{i:Int}{d:Dt}(r:Reps K F l vs)(h:atI l i=ς d):∃v,atI vs i=ς v/\Rep K F d v:=by unfold atI at h ⊢;rw[r.length];obtain⟨j,O,h⟩:=qj8.mp h;obtain⟨v,e,U⟩:=r.get h;exact⟨v,by rw[O];exact e,U⟩
def gIx:Dt->Dt->ζ T
 |.e l,.int i=>(atI l i).map .f
 |.t l,.int i=>(atI l i).map .f
 |.str x,.int i=>if x.length<=qa9 then(atI x.cps.toList i).map fun c=>.f (.str ⟨#[c]⟩)else ψ
 |_,_=>ψ
theorem r_ix:R2D K (rIx K) gIx:=by
 intro F H x y vx vy Q t U rx ry O k;unfold gIx at O;split at O<;>first|(cases O;done)|skip
 .obtain⟨d,W,O⟩:=qd3.mp O;cases O;cases ry;obtain⟨a,vs,rfl,h1,h2⟩:=rx;obtain⟨v,e,Z⟩:=lq h2 W;exact .inl ⟨a,vs,_,v,rfl,rfl,h1,e,k.leaf.here U Z⟩
 .obtain⟨d,W,O⟩:=qd3.mp O;cases O;cases ry;obtain⟨a,vs,rfl,h1,h2⟩:=rx;obtain⟨v,e,Z⟩:=lq h2 W;exact .inr (.inl ⟨a,vs,_,v,rfl,rfl,U.tup h1,e,k.leaf.here U Z⟩)
 .split at O
  .rename_i hl;obtain⟨c,hc,O⟩:=qd3.mp O;cases O;cases rx;cases ry;exact .inr (.inr ⟨_,_,c,rfl,rfl,hl,hc,k.str U⟩)
  .cases O
variable{a b c:J6}{fa fb fc:De->ζ Dt}{pos:Pos}
def fQ(l:η Dt)(lo hi:ζ Int):η Dt:=(l.drop (HT.sIx l.length 0 lo)).take (HT.sIx l.length l.length hi-HT.sIx l.length 0 lo)
def gSl:Dt->ζ Int->ζ Int->ζ T
 |.str x,lo,hi=>if x.length<=qa9 then ς (.f (.str (Txt.slice x lo hi)))else ψ
 |.e l,lo,hi=>ς (.e (fQ l lo hi))
 |.t l,lo,hi=>if HT.sIx l.length 0 lo=0/\HT.sIx l.length l.length hi=l.length then ψ else ς (.f (.t (fQ l lo hi)))
 |_,_,_=>ψ
abbrev rSlA(K:xA9):V->ζ Int->ζ Int->Hp->VK->Prop:=fun x lo hi H Q=>rSlS x lo hi H Q∨rSlL K x lo hi H Q∨rSlT K x lo hi H Q
theorem A7:SlR X (rSlA X.K):=SlR.or AR (SlR.or v3 AG)
theorem lr{F:Hp}(r:Reps K F l vs)(lo hi:ζ Int):Reps K F (fQ l lo hi) (lc vs lo hi):=by unfold fQ lc;rw[r.length];exact(r.drop _).take _
theorem r_sl{F:Hp}{x:Dt}{v:V}{lo hi:ζ Int}{Q:VK}{t:T}(U:Same F H)(W:RepB K F H x v)(O:gSl x lo hi=ς t)(k:KO K F H t Q):rSlA K v lo hi H Q:=by
 unfold gSl at O;split at O<;>first|(cases O;done)|skip
 .split at O
  .cases O;cases W;exact .inl ⟨_,rfl,by assumption,k.str U⟩
  .cases O
 .obtain⟨a,vs,rfl,h1,h2⟩:=W;cases O;exact .inr (.inl ⟨a,vs,rfl,h1,fun p hp=>cg k U (lr h2 _ _) hp⟩)
 .obtain⟨a,vs,rfl,h1,h2⟩:=W;split at O
  .cases O
  .rename_i Z;cases O;rw[<- h2.length]at Z;exact .inr (.inr ⟨a,vs,rfl,U.tup h1,Z,fun p hp=>k.tup U (lr h2 _ _) hp⟩)
def asI:Dt->ζ Int
 |.int i=>ς i
 |_=>ψ
def kf:η Dt->ζ T
 |[.str x]=>if x.length<=qa9 then ς (.f (.int x.length))else ψ
 |[.t l]=>ς (.f (.int l.length))
 |[.e l]=>ς (.f (.int l.length))
 |_=>ψ
theorem bC{F:Hp}{d:Dt}(r:lm K F H [d] vs):∃v,vs=[v]/\RepB K F H d v:=by obtain⟨v,ws,rfl,h1,h2⟩:=r;cases h2;exact⟨v,rfl,h1⟩
theorem DX:CRD K (fun xs H Q=>∃x n,xs=[x]/\LenV K x H n/\Q (.int n) H) kf:=by
 intro F H ds vs Q t W r O k;unfold kf at O;split at O<;>first|(cases O;done)|skip
 .split at O
  .rename_i hl;cases O;obtain⟨v,rfl,U⟩:=bC r;cases U;exact⟨_,_,rfl,⟨hl,rfl⟩,k.int W⟩
  .cases O
 .cases O;obtain⟨v,rfl,U⟩:=bC r;obtain⟨a,vs,rfl,h1,h2⟩:=U;rw[<- h2.length]at k;exact⟨_,_,rfl,.inr ⟨vs,W.tup h1,rfl⟩,k.int W⟩
 .cases O;obtain⟨v,rfl,U⟩:=bC r;obtain⟨a,vs,rfl,h1,h2⟩:=U;rw[<- h2.length]at k;exact⟨_,_,rfl,.inl ⟨vs,h1,rfl⟩,k.int W⟩
def wp:η Dt->ζ T
 |[.int i]=>ς (.f (.int i))
 |[.bl b]=>ς (.f (.int (if b then 1 else 0)))
 |[.str x]=>(PySem.intText? x).bind fun n=>if x.length<=640 then ς (.f (.int n))else ψ
 |_=>ψ
abbrev yV:η V->Hp->VK->Prop:=fun xs H Q=>((∃i,xs=[.int i]/\Q (.int i) H)∨∃k,xs=[.bl k]/\Q (.int (if k then 1 else 0)) H)∨∃x n,xs=[.str x]/\PySem.intText? x=ς n/\x.length<=640/\Q (.int n) H
theorem qf:CallR X (.type "int") yV:=CallR.or pR jX
theorem DY:CRD K yV wp:=by
 intro F H ds vs Q t W r O k;unfold wp at O;split at O<;>first|(cases O;done)|skip
 .cases O;obtain⟨v,rfl,U⟩:=bC r;cases U;exact .inl (.inl ⟨_,rfl,k.int W⟩)
 .cases O;obtain⟨v,rfl,U⟩:=bC r;cases U;exact .inl (.inr ⟨_,rfl,k.int W⟩)
 .obtain⟨n,Z,O⟩:=qj8.mp O;split at O
  .cases O;obtain⟨v,rfl,U⟩:=bC r;cases U;exact .inr ⟨_,n,rfl,Z,by assumption,k.int W⟩
  .cases O
def mX:η Dt->ζ T
 |[.e l]=>ς (.f (.t l))
 |[.t l]=>ς (.f (.t l))
 |_=>ψ
theorem wq:CRD K (fun xs H Q=>∃p ys,xs=[.ref p]/\((SqL K H p ys/\∀l,H l=ψ->Q (.ref l) (upd H l (.t ys)))∨(SqT K H p ys/\Q (.ref p) H))) mX:=by
 intro F H ds vs Q t W r O k;unfold mX at O;split at O<;>first|(cases O;done)|skip
 .cases O;obtain⟨v,rfl,U⟩:=bC r;obtain⟨a,vs,rfl,h1,h2⟩:=U;exact⟨a,vs,rfl,.inl ⟨h1,fun p hp=>k.tup W h2 hp⟩⟩
 .cases O;obtain⟨v,rfl,U⟩:=bC r;rename_i l;have Z:Rep K F (.t l) v:=by simp only[Rep];exact U
  obtain⟨a,vs,rfl,h1,h2⟩:=U;exact⟨a,vs,rfl,.inr ⟨W.tup h1,k.leaf.here W Z⟩⟩
def sC:η Dt->ζ T
 |[.e l]=>ς (.e l)
 |[.t l]=>ς (.e l)
 |_=>ψ
theorem A8:CRD K (fun xs H Q=>∃p ys,xs=[.ref p]/\(SqL K H p ys∨SqT K H p ys)/\∀l,H l=ψ->Q (.ref l) (upd H l (.e ys))) sC:=by
 intro F H ds vs Q t W r O k;unfold sC at O;split at O<;>first|(cases O;done)|skip
 .cases O;obtain⟨v,rfl,U⟩:=bC r;obtain⟨a,vs,rfl,h1,h2⟩:=U;exact⟨a,vs,rfl,.inl h1,fun p hp=>cg k W h2 hp⟩
 .cases O;obtain⟨v,rfl,U⟩:=bC r;obtain⟨a,vs,rfl,h1,h2⟩:=U;exact⟨a,vs,rfl,.inr (W.tup h1),fun p hp=>cg k W h2 hp⟩
end
inductive CV where
 |g (d:Dt)|ref (i:Nat)|fn (a:J4) (F0:Hp)
 |own (b:Bool) (t:T)
inductive CO where
 |e (l:List CV)|t (l:List CV)|dK (l:List (Key×CV))|dT (l:List (List Key×CV))|ins (c:Nat) (l:List CV)
abbrev CH:=η CO
abbrev Sl:=η (ζ CV)
structure Gx where
 K:xA9
 ct:List (Str×List Str)
def ClsAt(K:xA9)(c:Str)(C:J4):Prop:=xE9 K qe8 c=ς (ς (.ref C))
section
variable(G:Gx)(F H:Hp)(ρ:Nat->J4)(n:Nat)
def RelS:CV->V->Prop
 |.g d,v=>Rep G.K F d v
 |.ref i,v=>i<n/\v=.ref (ρ i)
 |.fn a F0,v=>v=.ref a/\Same F0 F
 |.own _ _,_=>False
abbrev RelSs:η CV->η V->Prop:=Paired (RelS G F ρ n)
def RelW(t:T)(v:V):Prop:=∃a,v=.ref a/\t.own=θ/\Own G.K F H t v (· = a)/\F a=ψ/\∀i,i<n->ρ i≠a
def RelC:CV->V->Prop
 |.own _ t,v=>RelW G F H ρ n t v
 |c,v=>RelS G F ρ n c v
abbrev RelCs:η CV->η V->Prop:=Paired (RelC G F H ρ n)
def CoOk(a:J4):CO->Prop
 |.e l=>∃vs,H a=ς (.e vs)/\RelSs G F ρ n l vs
 |.t l=>∃vs,H a=ς (.t vs)/\RelSs G F ρ n l vs
 |.dK l=>(l.map (·.1)).Nodup/\∃J1,H a=ς (.dK J1)/\J1.map (·.1)=l.map (·.1)/\RelSs G F ρ n (l.map (·.2)) (J1.map (·.2))
 |.dT l=>(l.map (·.1)).Nodup/\∃J1,H a=ς (.dT J1)/\J1.map (·.1)=l.map (·.1)/\RelSs G F ρ n (l.map (·.2)) (J1.map (·.2))
 |.ins c l=>∃p C dx fs,G.ct[c]?=ς p/\ClsAt G.K p.1 C/\H a=ς (.ins C dx fs)/\fs.map (·.1)=p.2.take l.length/\RelSs G F ρ n l (fs.map (·.2))
end
section
variable{G:Gx}{F H F' H' F1 H1:Hp}{ρ ρ' ρ1:Nat->J4}{n n':Nat}{c:CV}{v:V}{l m:η CV}{vs ws:η V}
theorem Paired.get{α β:Type}{R:α->β->Prop}:∀{l:η α}{m:η β}{i:Nat}{a:α},Paired R l m->l[i]?=ς a->∃b,m[i]?=ς b/\R a b
 |_,_,_,_,.nil,e=>by simp at e
 |_,_,0,_,.cons r _,e=>by simp at e;subst e;exact⟨_,rfl,r⟩
 |_,_,i+1,a,.cons _ t,e=>by obtain⟨b,h1,h2⟩:=Paired.get (i:=i) (a:=a) t (by simpa using e);exact⟨b,by simpa using h1,h2⟩
theorem Paired.set{α β:Type}{R:α->β->Prop}{a:α}{b:β}(r:R a b):∀{l:η α}{m:η β}(i:Nat),Paired R l m->Paired R (l.set i a) (m.set i b)
 |_,_,_,.nil=>.nil
 |_,_,0,.cons _ t=>.cons r t
 |_,_,i+1,.cons q t=>.cons q (Paired.set r i t)
theorem Paired.app{α β:Type}{R:α->β->Prop}:∀{l O:η α}{m U:η β},Paired R l m->Paired R O U->Paired R (l++O) (m++U)
 |_,_,_,_,.nil,s=>s
 |_,_,_,_,.cons r t,s=>.cons r (Paired.app t s)
theorem RelS.mono(O:Same F F')(W:∀i,i<n->ρ' i=ρ i)(U:n<=n')(h:RelS G F ρ n c v):RelS G F' ρ' n' c v:=by
 cases c with
 |g d=>exact Rep.same O h
 |ref i=>exact⟨qc6 h.1 U,by rw[W i h.1];exact h.2⟩
 |fn a F0=>exact⟨h.1,h.2.trans O⟩
 |own b t=>exact h.elim
theorem RelSs.mono(W:Same F F')(U:∀i,i<n->ρ' i=ρ i)(O:n<=n')(h:RelSs G F ρ n l vs):RelSs G F' ρ' n' l vs:=Paired.mapP h fun _ _ r=>r.mono W U O
theorem RelS.toC(h:RelS G F ρ n c v):RelC G F H ρ n c v:=by cases c<;>first|exact h|exact h.elim
def CV.sol:CV->Bool
 |.own _ _=>ξ
 |_=>θ
theorem RelC.s(hs:c.sol=θ)(h:RelC G F H ρ n c v):RelS G F ρ n c v:=by cases c<;>first|exact h|cases hs
theorem RelCs.s:∀{l:η CV}{vs:η V},l.all CV.sol=θ->RelCs G F H ρ n l vs->RelSs G F ρ n l vs
 |_,_,_,.nil=>.nil
 |_,_,h,.cons r t=>by simp only[qc7,qa1]at h;exact .cons (r.s h.1) (RelCs.s h.2 t)
theorem RelSs.length(h:RelSs G F ρ n l vs):vs.length=l.length:=(Paired.length h).symm
theorem RelSs.dats:∀{l:η Dt}{vs:η V},Reps G.K F l vs->RelSs G F ρ n (l.map .g) vs
 |[],vs,h=>by simp only[Reps]at h;subst h;exact .nil
 |d::l,vs,h=>by simp only[Reps]at h;obtain⟨v,ws,rfl,h1,h2⟩:=h;exact .cons h1 (RelSs.dats h2)
def dats:η CV->ζ (η Dt)
 |[]=>ς []
 |.g d::l=>(dats l).map (d::·)
 |_=>ψ
theorem cA:∀l:η Dt,dats (l.map .g)=ς l
 |[]=>rfl
 |d::l=>by simp[dats,cA l]
theorem cN:∀{l:η CV}{ds:η Dt},dats l=ς ds->l=ds.map .g
 |[],ds,h=>by cases h;rfl
 |.g d::l,ds,h=>by simp only[dats,qd3]at h;obtain⟨es,h1,rfl⟩:=h;rw[cN h1];rfl
 |.ref _::_,_,h=>by simp[dats]at h
 |.fn _ _::_,_,h=>by simp[dats]at h
 |.own _ _::_,_,h=>by simp[dats]at h
theorem ou:∀{ds:η Dt}{vs:η V},RelSs G F ρ n (ds.map .g) vs->Reps G.K F ds vs
 |[],_,.nil=>by simp only[Reps]
 |d::ds,_,.cons r t=>by simp only[Reps];exact⟨_,_,rfl,r,ou t⟩
theorem bj(h:dats l=ς ds)(r:RelSs G F ρ n l vs):Reps G.K F ds vs:=by rw[cN h]at r;exact ou r
theorem CoOk.mono{o:CO}(U:Same F F')(Z:∀i,i<n->ρ' i=ρ i)(W:n<=n')(ha:∀u,H a=ς u->H' a=ς u)(h:CoOk G F H ρ n a o):CoOk G F' H' ρ' n' a o:=by
 cases o with
 |e l=>obtain⟨vs,h1,h2⟩:=h;exact⟨vs,ha _ h1,h2.mono U Z W⟩
 |t l=>obtain⟨vs,h1,h2⟩:=h;exact⟨vs,ha _ h1,h2.mono U Z W⟩
 |dK l=>obtain⟨nd,vs,h1,h2,O⟩:=h;exact⟨nd,vs,ha _ h1,h2,O.mono U Z W⟩
 |dT l=>obtain⟨nd,vs,h1,h2,O⟩:=h;exact⟨nd,vs,ha _ h1,h2,O.mono U Z W⟩
 |ins c l=>obtain⟨p,C,dx,fs,hp,h0,h1,h2,O⟩:=h;exact⟨p,C,dx,fs,hp,h0,ha _ h1,h2,O.mono U Z W⟩
theorem CoOk.there{o:CO}(h:CoOk G F H ρ n a o):∃u,H a=ς u:=by
 cases o with
 |e l=>obtain⟨vs,h1,h2⟩:=h;exact⟨_,h1⟩
 |t l=>obtain⟨vs,h1,h2⟩:=h;exact⟨_,h1⟩
 |dK l=>obtain⟨O,vs,h1,h2⟩:=h;exact⟨_,h1⟩
 |dT l=>obtain⟨O,vs,h1,h2⟩:=h;exact⟨_,h1⟩
 |ins c l=>obtain⟨p,C,dx,fs,hp,U,h1,h2⟩:=h;exact⟨_,h1⟩
end
def CO.live:CO->Prop
 |.t _=>False
 |_=>True
structure Gh(G:Gx)(F H:Hp)(ρ:Nat->J4)(ch:CH):Prop where
 fh:Same F H
 inj:∀i j,i<ch.length->j<ch.length->ρ i=ρ j->i=j
 out:∀i o,ch[i]?=ς o->o.live->F (ρ i)=ψ
 ok:∀i o,ch[i]?=ς o->CoOk G F H ρ ch.length (ρ i) o
structure Adv(G:Gx)(F H:Hp)(ρ:Nat->J4)(ch:CH)(F' H':Hp)(ρ':Nat->J4)(ch':CH):Prop where
 gh:Gh G F' H' ρ' ch'
 len:ch.length<=ch'.length
 ext:∀i,i<ch.length->ρ' i=ρ i
 fr:∀i,ch.length<=i->i<ch'.length->H (ρ' i)=ψ
 prot:∀b o,H b=ς o->(∀i,i<ch.length->ρ i≠b)->H' b=ς o
 old:Same F F'
 nw:∀b o,F' b=ς o->F b=ς o∨H b=ψ∨∃vs,o=.t vs
 hs:∀b,H' b=ψ->H b=ψ
variable{u:HO}
section
variable{G:Gx}{F H F' H' F1 H1:Hp}{ρ ρ' ρ1:Nat->J4}{ch ch' ch1:CH}{c:CV}{v:V}
theorem Gh.at(g:Gh G F H ρ ch)(hi:i<ch.length):∃u,H (ρ i)=ς u:=(g.ok i ch[i] (by simp[hi])).there
theorem Adv.refl(g:Gh G F H ρ ch):Adv G F H ρ ch F H ρ ch:=⟨g,nL _,fun _ _=>rfl,fun i h1 h2=>absurd h2 (qn7.mpr h1),fun _ _ h _=>h,Same.refl _,fun _ _ h=>.inl h,fun _ h=>h⟩
theorem Adv.trans(a:Adv G F H ρ ch F1 H1 ρ1 ch1)(b:Adv G F1 H1 ρ1 ch1 F' H' ρ' ch'):Adv G F H ρ ch F' H' ρ' ch' where
 gh:=b.gh
 len:=qd1 a.len b.len
 ext:=fun i hi=>(b.ext i (qc6 hi a.len)).trans (a.ext i hi)
 fr:=fun i h1 h2=>by
  by_cases hi:i<ch1.length
  .rw[b.ext i hi];exact a.fr i h1 hi
  .exact a.hs _ (b.fr i (qn7.mp hi) h2)
 prot:=fun x o h1 h2=>b.prot x o (a.prot x o h1 h2) fun i hi e=>by
  by_cases O:i<ch.length
  .rw[a.ext i O]at e;exact h2 i O e
  .have:=a.fr i (qn7.mp O) hi;rw[e,h1]at this;cases this
 old:=a.old.trans b.old
 nw:=fun x o h=>(b.nw x o h).elim (a.nw x o) fun z=>.inr (z.imp_left (a.hs x))
 hs:=fun x h=>a.hs x (b.hs x h)
theorem jn(h:Same H H')(b:J4)(e:H' b=ψ):H b=ψ:=h.free e
theorem Gh.of(g:Gh G F H ρ ch)(st:Step F H F' H'):Gh G F' H' ρ ch:=by
 refine⟨st.fh,g.inj,fun i o hi hl=>?_,fun i o h=>(g.ok i o h).mono st.ff (fun _ _=>rfl) (nL _) fun u U=>st.hh _ _ U⟩;cases q:F' (ρ i)with
 |none=>rfl
 |some u=>
  have O:=g.ok i o hi;rcases st.nw _ _ q with z|z|⟨vs,z⟩
  .rw[g.out i o hi hl]at z;cases z
  .obtain⟨u,U⟩:=O.there;rw[U]at z;cases z
  .cases o with
   |e l=>obtain⟨vs,h1,_⟩:=O;rw[h1]at z;cases z
   |t l=>exact hl.elim
   |dK l=>obtain⟨W,vs,h1,_⟩:=O;rw[h1]at z;cases z
   |dT l=>obtain⟨W,vs,h1,_⟩:=O;rw[h1]at z;cases z
   |ins c l=>obtain⟨p,C,dx,fs,hp,Z,h1,_⟩:=O;rw[h1]at z;cases z
theorem ox(st:Step F H F' H')(b:J4)(o:HO)(h:F' b=ς o):F b=ς o∨H b=ψ∨∃vs,o=.t vs:=(st.nw b o h).imp_right fun z=>z.imp_right fun⟨vs,z⟩=>⟨vs,qc9 ((st.fh b o h).symm.trans (st.hh b _ z))⟩
theorem Adv.of(g:Gh G F H ρ ch)(st:Step F H F' H'):Adv G F H ρ ch F' H' ρ ch:=⟨g.of st,nL _,fun _ _=>rfl,fun i h1 h2=>absurd h2 (qn7.mpr h1),fun b o h _=>st.hh b o h,st.ff,ox st,jn st.hh⟩
theorem ao{α:Type}{l:η α}{x:α}(h:l[i]?=ς x):i<l.length:=(gX h).1
theorem Adv.put(g:Gh G F H ρ ch){o w:CO}(U:ch[i]?=ς w)(hl:w.live)(ho:CoOk G F (upd H (ρ i) u) ρ ch.length (ρ i) o):Adv G F H ρ ch F (upd H (ρ i) u) ρ (ch.set i o) where
 gh:=⟨fun b x e=>by
     rw[ai fun q=>by rw[q,g.out i w U hl]at e;cases e];exact g.fh b x e,fun j k hj Z=>g.inj j k (by simpa using hj) (by simpa using Z),fun j x O W=>by
     by_cases q:i=j
     .subst q;exact g.out i w U hl
     .rw[gN q]at O;exact g.out j x O W,fun j x O=>by
     rw[qu6];by_cases q:i=j
     .subst q;rw[qe5 (ao U)]at O;cases O;exact ho
     .rw[gN q]at O;refine(g.ok j x O).mono (Same.refl _) (fun _ _=>rfl) (nL _) fun y hy=>?_
      rw[ai fun e=>q (g.inj j i (ao O) (ao U) e).symm];exact hy⟩
 len:=by simp
 ext:=fun _ _=>rfl
 fr:=fun j h1 h2=>absurd h2 (by simpa using h1)
 prot:=fun b x h1 h2=>by rw[ai fun e=>h2 i (ao U) e.symm];exact h1
 old:=Same.refl _
 nw:=fun _ _ h=>.inl h
 hs:=fun b h=>by
  by_cases e:b=ρ i
  .subst e;rw[ah]at h;cases h
  .rwa [ai e]at h
theorem Adv.new (g:Gh G F H ρ ch) (st:Step F H F' H') {o:CO} (ha:H a=ψ) (hf:F' a=ψ) (ho:CoOk G F' H' (fun i=>if i=ch.length then a else ρ i) (ch.length+1) a o) :
  Adv G F H ρ ch F' H' (fun i=>if i=ch.length then a else ρ i) (ch++[o]):=by
 have g':=(Adv.of g st).gh;have lt:∀{i:Nat},i<ch.length->(if i=ch.length then a else ρ i)=ρ i:=fun {i} hi=>if_neg (qc2 hi)
 have ne:∀{i:Nat},i<ch.length->ρ i≠a:=fun {i} hi e=>by obtain⟨u,W⟩:=g.at hi;rw[e,ha]at W;cases W
 have U:∀i x,(ch++[o])[i]?=ς x->(i<ch.length/\ch[i]?=ς x)∨(i=ch.length/\x=o):=fun i x O=>by
  by_cases h1:i<ch.length
  .rw[gL h1]at O;exact .inl ⟨h1,O⟩
  .rw[gR (qn7.mp h1)]at O;have h2:i=ch.length:=by have:=ao O;simp at this;lia
   subst h2;simp at O;exact .inr ⟨rfl,O.symm⟩
 refine⟨⟨st.fh,fun i j hi Z e=>?_,fun i x O hl=>?_,fun i x O=>?_⟩,Ξ,fun i hi=>lt hi,fun i h1 h2=>?_,fun b x h1 _=>st.hh b x h1,st.ff,ox st,jn st.hh⟩
 .simp only[qc5,qb8,qg4]at hi Z;by_cases h1:i=ch.length<;>by_cases h2:j=ch.length
  .rw[h1,h2]
  .rw[if_pos h1,if_neg h2]at e;exact absurd e.symm (ne Θ)
  .rw[if_neg h1,if_pos h2]at e;exact absurd e (ne Θ)
  .rw[if_neg h1,if_neg h2]at e;exact g.inj i j Θ Θ e
 .rcases U i x O with ⟨h1,h2⟩|⟨h1,h2⟩
  .rw[lt h1];exact g'.out i x h2 hl
  .rw[if_pos h1];exact hf
 .simp only[qc5,qb8,qg4];rcases U i x O with ⟨h1,h2⟩|⟨h1,h2⟩
  .rw[lt h1];exact(g'.ok i x h2).mono (Same.refl _) (fun j Z=>lt Z) (qi3 _) fun u W=>W
  .subst h1;subst h2;rw[if_pos rfl];exact ho
 .simp only[qc5,qb8,qg4]at h2;have h3:i=ch.length:=by lia
  rw[if_pos h3];exact ha
theorem RelW.adv{t:T}(a:Adv G F H ρ ch F' H' ρ' ch')(h:RelW G F H ρ ch.length t v):RelW G F' H' ρ' ch'.length t v:=by
 obtain⟨x,rfl,W,O,hF,hp⟩:=h;have Z:∀o,H x=ς o->H' x=ς o:=fun o e=>a.prot x o e hp
 have hs:∃o,H x=ς o/\NT o:=by
  cases t<;>first|(cases W;done)|skip
  .obtain⟨b,vs,e,rfl,h1,_⟩:=O;exact⟨_,h1,by intro _ z;cases z⟩
  .obtain⟨b,vs,e,rfl,h1,_⟩:=O;exact⟨_,h1,by intro _ z;cases z⟩
  .obtain⟨b,vs,e,rfl,h1,_⟩:=O;exact⟨_,h1,by intro _ z;cases z⟩
 obtain⟨o,h1,nt⟩:=hs;refine⟨x,rfl,W,Own.step a.old (fun b o e h=>by cases e;exact Z o h) O,?_,fun i hi e=>?_⟩
 .cases q:F' x with
  |none=>rfl
  |some w=>
   rcases a.nw x w q with z|z|⟨vs,z⟩
   .rw[hF]at z;cases z
   .rw[h1]at z;cases z
   .have y:=a.gh.fh x w q;rw[Z o h1]at y;cases y
    exact absurd z (nt vs)
 .by_cases U:i<ch.length
  .rw[a.ext i U]at e;exact hp i U e
  .have:=a.fr i (qn7.mp U) hi;rw[e,h1]at this;cases this
theorem RelS.adv(a:Adv G F H ρ ch F' H' ρ' ch')(h:RelS G F ρ ch.length c v):RelS G F' ρ' ch'.length c v:=h.mono a.old (fun i hi=>a.ext i hi) a.len
theorem RelC.adv(a:Adv G F H ρ ch F' H' ρ' ch')(h:RelC G F H ρ ch.length c v):RelC G F' H' ρ' ch'.length c v:=by
 cases c with
 |own b t=>exact RelW.adv a h
 |g d=>exact RelS.adv (c:=.g d) a h
 |ref i=>exact RelS.adv (c:=.ref i) a h
 |fn x F0=>exact RelS.adv (c:=.fn x F0) a h
theorem RelCs.adv{l:η CV}(a:Adv G F H ρ ch F' H' ρ' ch')(h:RelCs G F H ρ ch.length l vs):RelCs G F' H' ρ' ch'.length l vs:=Paired.mapP h fun _ _ r=>r.adv a
end
structure Fr0 where
 F:Hp
 H:Hp
 ρ:Nat->J4
 ch:CH
structure Ge(G:Gx)(Φ:Fr0)(δ:Sl)(ch:CH)(σ:af)(F H:Hp)(ρ:Nat->J4):Prop where
 ad:Adv G Φ.F Φ.H Φ.ρ Φ.ch F H ρ ch
 len:δ.length=σ.length
 has:∀(i:Nat)(c:CV),δ[i]?=ς (ς c)->∃v,σ[i]?=ς (ς v)/\RelC G F H ρ ch.length c v
 nw:∀(i:Nat)(t:T)(a:J4),δ[i]?=ς (ς (.own θ t))->σ[i]?=ς (ς (.ref a))->Φ.H a=ψ
 dis:∀(i j:Nat)(t u:T)(b:Bool)(a:J4),i≠j->δ[i]?=ς (ς (.own θ t))->δ[j]?=ς (ς (.own b u))->σ[i]?=ς (ς (.ref a))->σ[j]?=ς (ς (.ref a))->False
variable{Φ:Fr0}{δ:Sl}{ch:CH}{ρ:Nat->J4}
theorem Ge.gh{G:Gx}{F:Hp}(e:Ge G Φ δ ch σ F H ρ):Gh G F H ρ ch:=e.ad.gh
abbrev RL(α β:Type):=Gx->Hp->Hp->Hp->(Nat->J4)->Nat->α->β->Prop
def yW(H:Hp)(c:CV)(v:V):Prop:=∀t,c=.own θ t->∀a,v=.ref a->H a=ψ
def RV:RL CV V:=fun G O F H ρ n c v=>RelC G F H ρ n c v/\yW O c v
def RB:RL Bool Bool:=fun _ _ _ _ _ _ a b=>a=b
def RA:RL (η CV) (η V):=fun G _ F H ρ n c v=>RelCs G F H ρ n c v
abbrev FM(α:Type):=Sl->CH->ζ (α×CH)
abbrev Fg:=FM CV
def KM(G:Gx){α β:Type}(R:RL α β)(F H:Hp)(ρ:Nat->J4)(ch:CH)(a:α)(ch':CH)(Q:β->Hp->Prop):Prop:=∀b F' H' ρ',Adv G F H ρ ch F' H' ρ' ch'->R G H F' H' ρ' ch'.length a b->Q b H'
def tK(G:Gx){α β:Type}(R:RL α β)(f:η CV->FM α)(σ:af)(vs:η V)(H:Hp)(Q:β->Hp->Prop):Prop:=∃ Φ δ ch F ρ cs a ch',Ge G Φ δ ch σ F H ρ/\RelCs G F H ρ ch.length cs vs/\f cs δ ch=ς (a,ch')/\KM G R F H ρ ch a ch' Q
def tM(G:Gx){α β:Type}(R:RL α β)(f:FM α):af->Hp->(β->Hp->Prop)->Prop:=fun σ H Q=>∃ Φ δ ch F ρ a ch',Ge G Φ δ ch σ F H ρ/\f δ ch=ς (a,ch')/\KM G R F H ρ ch a ch' Q
def GE(G:Gx)(X:Cx)(e:J6)(f:Fg):Prop:=PE X e (tM G RV f)
def GT(G:Gx)(X:Cx)(e:J6)(f:FM Bool):Prop:=PT X e (tM G RB f)
def GW(G:Gx)(X:Cx)(e:J6)(f:FM Bool):Prop:=PW X e (tM G RB f)
def GA(G:Gx)(X:Cx)(es:η J6)(f:FM (η CV)):Prop:=PA X es (tM G RA f)
class RMono{α β:Type}(R:RL α β):Prop where
 m:∀{G H0 H1 F H ρ n a b},(∀x,H1 x=ψ->H0 x=ψ)->R G H1 F H ρ n a b->R G H0 F H ρ n a b
instance:RMono RV:=⟨fun h r=>⟨r.1,fun t e a q=>h a (r.2 t e a q)⟩⟩
instance:RMono RB:=⟨fun _ r=>r⟩
instance:RMono RA:=⟨fun _ r=>r⟩
section
variable{G:Gx}{Φ:Fr0}{F H F' H' F1 H1:Hp}{ρ ρ' ρ1:Nat->J4}{δ:Sl}{σ:af}{ch ch' ch1 ch2:CH}{c:CV}{v:V}{Q:VK}
theorem Ge.adv(e:Ge G Φ δ ch σ F H ρ)(a:Adv G F H ρ ch F' H' ρ' ch'):Ge G Φ δ ch' σ F' H' ρ':=⟨e.ad.trans a,e.len,fun i c h=>let ⟨v,h1,h2⟩:=e.has i c h;⟨v,h1,h2.adv a⟩,e.nw,e.dis⟩
theorem KM.adv{α β:Type}{R:RL α β}[RMono R]{a:α}{Q:β->Hp->Prop}(k:KM G R F H ρ ch a ch' Q)(d:Adv G F H ρ ch F1 H1 ρ1 ch1):KM G R F1 H1 ρ1 ch1 a ch' Q:=fun b F' H' ρ' d' r=>k b F' H' ρ' (d.trans d') (RMono.m d.hs r)
theorem KM.sol(k:KM G RV F H ρ ch c ch' Q)(a:Adv G F H ρ ch F' H' ρ' ch')(r:RelS G F' ρ' ch'.length c v):Q v H':=k v F' H' ρ' a ⟨r.toC,fun t e=>by rw[e]at r;exact r.elim⟩
theorem KM.dat{d:Dt}(k:KM G RV F H ρ ch (.g d) ch Q)(g:Gh G F H ρ ch)(r:Rep G.K F d v):Q v H:=k.sol (.refl g) r
theorem bS{α β:Type}{x:ζ α}{f:α->ζ β}{b:β}(h:x.bind f=ς b):∃a,x=ς a/\f a=ς b:=qj8.mp h
theorem mS{α β:Type}{x:ζ α}{f:α->β}{b:β}(h:x.map f=ς b):∃a,x=ς a/\f a=b:=qd3.mp h
section
variable{α β:Type}{R:RL α β}[RMono R]{f fa fb fc:Fg}{fs:FM (η CV)}{ft:FM Bool}{k:η CV->FM α}{Q Q':β->Hp->Prop}
theorem tM.imp{f:FM α}(h:tM G R f σ H Q)(i:∀b H',Q b H'->Q' b H'):tM G R f σ H Q':=let ⟨Φ,δ,ch,F,ρ,a,ch',en,hf,k⟩:=h;⟨Φ,δ,ch,F,ρ,a,ch',en,hf,fun b F' H' ρ' d r=>i b H' (k b F' H' ρ' d r)⟩
theorem tK.one(h:tM G R (fun δ ch=>(fa δ ch).bind fun p=>k [p.1] δ p.2) σ H Q):tM G RV fa σ H fun x H1=>tK G R k σ [x] H1 Q:=by obtain⟨Φ,δ,ch,F,ρ,a,ch',en,O,U⟩:=h;obtain⟨p,h1,O⟩:=bS O;exact⟨Φ,δ,ch,F,ρ,p.1,p.2,en,h1,fun x F1 H1 ρ1 d1 W=>⟨Φ,δ,p.2,F1,ρ1,[p.1],a,ch',en.adv d1,.cons W.1 .nil,O,U.adv d1⟩⟩
theorem tK.two(h:tM G R (fun δ ch=>(fa δ ch).bind fun p=>(fb δ p.2).bind fun q=>k [p.1,q.1] δ q.2) σ H Q):tM G RV fa σ H fun x H1=>tM G RV fb σ H1 fun y H2=>tK G R k σ [x,y] H2 Q:=by obtain⟨Φ,δ,ch,F,ρ,a,ch',en,O,W⟩:=h;obtain⟨p,h1,O⟩:=bS O;obtain⟨q,h2,O⟩:=bS O;exact⟨Φ,δ,ch,F,ρ,p.1,p.2,en,h1,fun x F1 H1 ρ1 d1 Z=>⟨Φ,δ,p.2,F1,ρ1,q.1,q.2,en.adv d1,h2,fun y F2 H2 ρ2 d2 U=>⟨Φ,δ,q.2,F2,ρ2,[p.1,q.1],a,ch',(en.adv d1).adv d2,.cons (Z.1.adv d2) (.cons U.1 .nil),O,(W.adv d1).adv d2⟩⟩⟩
theorem tK.args(h:tM G R (fun δ ch=>(fs δ ch).bind fun p=>k p.1 δ p.2) σ H Q):tM G RA fs σ H fun us H1=>tK G R k σ us H1 Q:=by obtain⟨Φ,δ,ch,F,ρ,a,ch',en,O,U⟩:=h;obtain⟨p,h1,O⟩:=bS O;exact⟨Φ,δ,ch,F,ρ,p.1,p.2,en,h1,fun x F1 H1 ρ1 d1 W=>⟨Φ,δ,p.2,F1,ρ1,p.1,a,ch',en.adv d1,W,O,U.adv d1⟩⟩
theorem tK.test{k:Bool->FM α}(h:tM G R (fun δ ch=>(ft δ ch).bind fun p=>k p.1 δ p.2) σ H Q):tM G RB ft σ H fun b H1=>tM G R (k b) σ H1 Q:=by obtain⟨Φ,δ,ch,F,ρ,a,ch',en,O,U⟩:=h;obtain⟨p,h1,O⟩:=bS O;exact⟨Φ,δ,ch,F,ρ,p.1,p.2,en,h1,fun x F1 H1 ρ1 d1 W=>by cases W;exact⟨Φ,δ,p.2,F1,ρ1,a,ch',en.adv d1,O,U.adv d1⟩⟩
end
end
variable{J0:η (J4×Obj)}{A:ql3}{Q:Value->qb0->Prop}
section
variable{X:Cx}{o a b e c:J6}{es:η J6}{fa fb fo fe:De->ζ Dt}{fs:De->ζ (η Dt)}{pos apos cpos p:Pos}{x:Str}{sc:J8}{i:Nat}
def yX(K:xA9)(mg:Str->ζ Value)(x:Str)(d:Dt):Prop:=∃v,(∃u,mg x=ς u/\RelV v u)/\∀F,Rep K F d v
def sD:Dt->Bool
 |_=>ξ
def tyD:Dt->String
 |.non=>"NoneType"
 |.bl _=>"bool"
 |.int _=>"int"
 |.str _=>"str"
 |.t _=>"tuple"
 |.e _=>"list"
 |.dct _ _=>"dict"
 |.dcT _ _=>"dict"
def dP(c:String):Dt->Bool
 |.non=>c=="NoneType"
 |.bl _=>c=="bool"||c=="int"
 |.int _=>c=="int"
 |.str _=>c=="str"
 |.t _=>c=="tuple"
 |.e _=>c=="list"
 |.dct _ _=>c=="dict"
 |.dcT _ _=>c=="dict"
theorem mY {s:qb0} {E:Value->qb0->Prop} {c:Value} {b:Bool} {v:V} {u:Value} {d:Dt} (I:Inv X J0 σ H s) (O:RelV v u) (r:Rep X.K H d v) (hi:sD d=ξ) (e:xI9 X.K (.type (tyD d)) c=ς b) (h:∀ Z,Q (.bool b) {s with toks:=Z}) :
  wpAny (model X.prog X.w) A (call (.builtin "isinstance") [u,c]) Q E s:=by
 cases d with
 |non=>simp only[Rep]at r;subst r;exact dC I O .non e h
 |bl y=>simp only[Rep]at r;subst r;exact dC I O (.bl y) e h
 |int y=>simp only[Rep]at r;subst r;exact dC I O (.int y) e h
 |str y=>simp only[Rep]at r;subst r;exact dC I O (.str y) e h
 |t l=>simp only[Rep]at r;obtain⟨a,vs,rfl,h1,h2⟩:=r;cases O;obtain⟨J3,_,pl,_⟩:=I.tuple h1;obtain⟨o,U,e2,_⟩:=pl;exact xC9 PySem.W.kitx_tuple I.kIn ⟨o,U,e2⟩ e (fun z=>nomatch z) h
 |e l=>simp only[Rep]at r;obtain⟨a,vs,rfl,h1,h2⟩:=r;cases O;obtain⟨J3,_,pl,_⟩:=I.list h1;obtain⟨o,n,U,e2,_⟩:=pl;exact xC9 xU9 I.kIn ⟨o,U,e2⟩ e (fun z=>nomatch z) h
 |dct ks l=>simp only[Rep]at r;obtain⟨a,J1,rfl,h1,_⟩:=r;cases O;obtain⟨_,_,vs,_,p⟩:=gk I.hok h1;obtain⟨o,es,ep,U,e2,_⟩:=p;exact xC9 xN9 I.kIn ⟨o,U,e2.1⟩ e (fun z=>nomatch z) h
 |dcT ks l=>simp only[Rep]at r;obtain⟨a,J1,rfl,h1,_⟩:=r;cases O;obtain⟨_,_,xs,_,o,es,ep,U,e2,_⟩:=(show ObjOk X.prog X.w H s.heap a (.dT J1)from h1.ok I.hok);exact xC9 xN9 I.kIn ⟨o,U,e2.1⟩ e (fun z=>nomatch z) h
def kg(K:xA9)(c:String):Prop:=∀d:Dt,sD d=ξ->xI9 K (.type (tyD d)) (.type c)=ς (dP c d)
theorem mZ:CallR X (.builtin "isinstance") (fun xs H Q=>∃v c d b,xs=[v,.ty c]/\Rep X.K H d v/\sD d=ξ/\xI9 X.K (.type (tyD d)) (.type c)=ς b/\Q (.bl b) H):=by intro J0 s σ H xs us Q I r h;obtain⟨v,c,d,b,rfl,rd,hi,e,q⟩:=h;obtain⟨u,w',rfl,U,O⟩:=rh r;cases O;exact mY I U rd hi e fun Z=>⟨.bl b,H,I.tok _,rfl,q⟩
def MRD(K:xA9)(r:V->η V->Hp->VK->Prop)(g:Dt->η Dt->ζ T):Prop:=∀F H d v ds vs (Q:VK) t,Same F H->RepB K F H d v->lm K F H ds vs->g d ds=ς t->KO K F H t Q->r v vs H Q
def dj:η Dt->ζ (η Str)
 |[]=>ς []
 |.str b::r=>(dj r).map (b::·)
 |_=>ψ
theorem fR{F:Hp}:∀{l:η Dt}{vs:η V}{bs:η Str},Reps K F l vs->dj l=ς bs->vs=bs.map V.str
 |[],vs,bs,r,h=>by cases h;simp only[Reps]at r;exact r
 |d::l,vs,bs,r,h=>by
  cases d<;>first|cases h;done|skip
  simp only[dj]at h;obtain⟨cs,hc,h⟩:=qd3.mp h;cases h;simp only[Reps,Rep]at r;obtain⟨v,ws,rfl,rfl,O⟩:=r;rw[fR O hc];rfl
def kh:Dt->η Dt->ζ T
 |.str a,[.e l]=>(dj l).bind fun ts=>if JoinOk a ts then ς (.f (.str (zg1 a ts)))else ψ
 |_,_=>ψ
theorem wr:MRD K (fun x vs H Q=>∃(a:Str)(l:J4)(ts:η Str),x=.str a/\vs=[.ref l]/\SqL K H l (ts.map V.str)/\JoinOk a ts=θ/\Q (.str (zg1 a ts)) H) kh:=by
 intro F H d v ds vs Q t W rd rs O k;unfold kh at O;split at O<;>first|cases O;done|skip
 obtain⟨ts,ht,O⟩:=qj8.mp O;split at O
 .rename_i Z;cases O;cases rd;obtain⟨v,rfl,U⟩:=bC rs;obtain⟨a,vs,rfl,h1,h2⟩:=U;have:=fR h2 ht;subst this;exact⟨_,a,ts,rfl,rfl,h1,Z,k.str W⟩
 .cases O
end
def ay{κ:Type}[DecidableEq κ]:η κ->η Dt->κ->ζ Dt
 |k'::ks,d::l,k=>if k'=k then ς d else ay ks l k
 |_,_,_=>ψ
theorem fU{κ:Type}[DecidableEq κ]{F:Hp}{k:κ}:∀{J1:η (κ×V)}{l:η Dt}{d:Dt},Reps K F l (J1.map (·.2))->ay (J1.map (·.1)) l k=ς d->∃v,bM J1 k=ς v/\Rep K F d v
 |[],l,d,r,h=>by cases l<;>cases h
 |p::J1,[],d,r,h=>by cases h
 |p::J1,e::l,d,r,h=>by
  simp only[qa3,Reps]at r;obtain⟨v,ws,Z,W,U⟩:=r;cases Z;simp only[qa3,ay]at h;by_cases O:p.1=k
  .rw[if_pos O]at h;cases h;exact⟨p.2,eF O,W⟩
  .rw[if_neg O]at h;rw[c9 O];exact fU U h
theorem fV{κ:Type}[DecidableEq κ]{F:Hp}{k:κ}:∀{J1:η (κ×V)}{l:η Dt},Reps K F l (J1.map (·.2))->ay (J1.map (·.1)) l k=ψ->bM J1 k=ψ
 |[],l,r,h=>rfl
 |p::J1,[],r,h=>by simp only[qa3,Reps]at r;cases r
 |p::J1,e::l,r,h=>by
  simp only[qa3,Reps]at r;obtain⟨v,ws,W,Z,U⟩:=r;cases W;simp only[qa3,ay]at h;by_cases O:p.1=k
  .rw[if_pos O]at h;cases h
  .rw[if_neg O]at h;rw[c9 O];exact fV U h
def cX:Dt->ζ Key
 |.int i=>ς (.inl i)
 |.str x=>ς (.inr x)
 |_=>ψ
theorem dD{F:Hp}{d:Dt}{v:V}{k:Key}(r:RepB K F H d v)(h:cX d=ς k):v=kV k:=by
 unfold cX at h;split at h<;>first|(cases h;done)|skip
 .cases h;exact r
 .cases h;exact r
def gIxA:Dt->Dt->ζ T
 |.dct ks l,k=>(cX k).bind fun k=>(ay ks l k).map .f
 |x,y=>gIx x y
section
variable{X:Cx}{o a b e c:J6}{es:η J6}{fa fb fo fe fk:De->ζ Dt}{fs:De->ζ (η Dt)}{pos apos cpos p:Pos}{x:Str}{sc:J8}{i:Nat}
def bY{κ:Type}[DecidableEq κ]:η (κ×Dt)->κ->Dt->η (κ×Dt)
 |[],k,d=>[(k,d)]
 |p::l,k,d=>if p.1=k then(p.1,d)::l else p::bY l k d
end
def vwO:CO->ζ Dt
 |.e l=>(dats l).map .e
 |.dK l=>(dats (l.map (·.2))).map (.dct (l.map (·.1)))
 |.dT l=>(dats (l.map (·.2))).map (.dcT (l.map (·.1)))
 |_=>ψ
def vw(ch:CH):CV->ζ Dt
 |.g d=>ς d
 |.ref i=>(ch[i]?).bind vwO
 |.own _ t=>t.d
 |.fn _ _=>ψ
def vws(ch:CH):η CV->ζ (η Dt)
 |[]=>ς []
 |c::l=>(vw ch c).bind fun d=>(vws ch l).map (d::·)
section
variable{G:Gx}{Φ:Fr0}{F H F' H' F1 H1:Hp}{ρ ρ' ρ1:Nat->J4}{n:Nat}{δ:Sl}{σ:af}{ch ch' ch1 ch2:CH}{c:CV}{v:V}{Q:VK}{d:Dt}{t:T}
theorem aV(g:Gh G F H ρ ch)(r:RelC G F H ρ ch.length c v)(h:vw ch c=ς d):RepB G.K F H d v:=by
 cases c with
 |g e=>cases h;exact RepB.of g.fh r
 |fn _ _=>cases h
 |own b t=>obtain⟨a,rfl,_,W,_⟩:=r;exact W.repB g.fh h
 |ref i=>
  obtain⟨_,rfl⟩:=r;obtain⟨o,h1,h2⟩:=bS h;have O:=g.ok i o h1;cases o with
  |e l=>obtain⟨ds,q,rfl⟩:=mS h2;obtain⟨vs,e,rs⟩:=O;exact⟨_,vs,rfl,SqL.of e,bj q rs⟩
  |t l=>cases h2
  |dK l=>obtain⟨ds,q,rfl⟩:=mS h2;obtain⟨_,vs,e,U,rs⟩:=O;exact⟨_,vs,rfl,.of e,U,bj q rs⟩
  |dT l=>obtain⟨ds,q,rfl⟩:=mS h2;obtain⟨_,vs,e,U,rs⟩:=O;exact⟨_,vs,rfl,.of e,U,bj q rs⟩
  |ins c l=>cases h2
theorem fW(g:Gh G F H ρ ch):∀{l:η CV}{ds:η Dt}{vs:η V},RelCs G F H ρ ch.length l vs->vws ch l=ς ds->lm G.K F H ds vs
 |[],_,_,.nil,h=>by cases h;exact rfl
 |c::l,_,_,.cons r t,h=>by obtain⟨d,h1,h2⟩:=bS h;obtain⟨ds,O,rfl⟩:=mS h2;exact⟨_,_,rfl,aV g r h1,fW g t O⟩
inductive Md where|v|o|w
def al(ch:CH):T->ζ (CV×CH)
 |.f d=>ς (.g d,ch)
 |.e l=>ς (.ref ch.length,ch++[.e (l.map .g)])
 |.dct l=>if(l.map (·.1)).Nodup then ς (.ref ch.length,ch++[.dK (l.map fun p=>(p.1,.g p.2))])else ψ
 |.dcT l=>if(l.map (·.1)).Nodup then ς (.ref ch.length,ch++[.dT (l.map fun p=>(p.1,.g p.2))])else ψ
 |_=>ψ
def fin(m:Md)(ch:CH)(t:T):ζ (CV×CH):=match m with
 |.v=>t.d.map fun d=>(.g d,ch)
 |.o=>al ch t
 |.w=>if t.own then ς (.own θ t,ch)else ψ
theorem bZ{m:Md}(g:Gh G F H ρ ch)(h:fin m ch t=ς (c,ch'))(k:KM G RV F H ρ ch c ch' Q):KO G.K F H t Q:=by
 have f:∀{d:Dt},KM G RV F H ρ ch (.g d) ch Q->KL G.K F H d Q:=fun k v H' F' st r=>k.sol (.of g st) r
 cases m with
 |v=>have h:t.d.map (fun d=>(CV.g d,ch))=ς (c,ch'):=h;obtain⟨d,hd,e⟩:=mS h;cases e;exact KL.to hd (f k)
 |w=>
  have h:(if t.own then ς (CV.own θ t,ch)else ψ)=ς (c,ch'):=h;split at h<;>first|(cases h;done)|skip
  rename_i W;cases h;intro v H' F' S st o O
  have ha:∃a,v=.ref a:=by
   cases t<;>first|(cases W;done)|skip
   all_goals (obtain⟨a,_,e,_⟩:=o;exact⟨a,e⟩)
  obtain⟨a,rfl⟩:=ha;have U:=qa W o;refine k _ F' H' ρ (.of g st) ⟨⟨a,rfl,W,?_,(O a U).1,fun i hi e=>?_⟩,fun _ _ b e=>by cases e;exact(O a U).2.1⟩
  .cases t<;>first|(cases W;done)|skip
   all_goals (obtain⟨b,vs,e,_,r⟩:=o;cases e;exact⟨a,vs,rfl,rfl,r⟩)
  .obtain⟨u,hu⟩:=g.at hi;rw[e,(O a U).2.1]at hu;cases hu
 |o=>
  cases t with
  |f d=>cases h;exact KL.to rfl (f k)
  |e l=>cases h;rintro v H' F' S st ⟨a,vs,rfl,U,h1,h2⟩ O;refine k.sol (.new g st (O a U).2.1 (O a U).1 ⟨vs,h1,RelSs.dats h2⟩) ⟨Ξ,?_⟩;simp
  |dct l=>
   have h:(if(l.map (·.1)).Nodup then ς (CV.ref ch.length,ch++[CO.dK (l.map fun p=>(p.1,CV.g p.2))])else ψ)=ς (c,ch'):=h;split at h<;>cases h
   rename_i Z;rintro v H' F' S st ⟨a,vs,rfl,U,h1,h2,h3⟩ O;refine k.sol (.new g st (O a U).2.1 (O a U).1 ⟨by rw[qd4];exact Z,vs,h1,by rw[h2,qd4];rfl,?_⟩) ⟨Ξ,Ξ⟩;have:=RelSs.dats (G:=G) (F:=F') (ρ:=fun i=>if i=ch.length then a else ρ i) (n:=ch.length+1) h3
   rwa [qd4]at this ⊢
  |dcT l=>
   have h:(if(l.map (·.1)).Nodup then ς (CV.ref ch.length,ch++[CO.dT (l.map fun p=>(p.1,CV.g p.2))])else ψ)=ς (c,ch'):=h;split at h<;>cases h
   rename_i Z;rintro v H' F' S st ⟨a,vs,rfl,U,h1,h2,h3⟩ O;refine k.sol (.new g st (O a U).2.1 (O a U).1 ⟨by rw[qd4];exact Z,vs,h1,by rw[h2,qd4];rfl,?_⟩) ⟨Ξ,Ξ⟩;have:=RelSs.dats (G:=G) (F:=F') (ρ:=fun i=>if i=ch.length then a else ρ i) (n:=ch.length+1) h3
   rwa [qd4]at this ⊢
  |fn a F0=>cases h
  |exc _ _=>cases h
  |rse _ _=>cases h
end
variable{r:R2}{y:V}
section
variable{G:Gx}{X:Cx}{e a b c o:J6}{es rest:η J6}{f fa fb fc:Fg}{fs:FM (η CV)}{ta tb tc:FM Bool}{pos apos cpos p:Pos}{i:Nat}{m:Md}{d:Dt}
def eK(d:Dt):Fg:=fun _ ch=>ς (.g d,ch)
theorem sF{v:V}(h:PE X e (tC v))(r:∀F,Rep G.K F d v):GE G X e (eK d):=PE.mono h fun σ H Q ⟨Φ,δ,ch,F,ρ,a,ch',en,O,k⟩=>by cases O;exact k.dat en.gh (r F)
def lent:CV->CV
 |.own _ t=>.own ξ t
 |c=>c
def eV(i:Nat):Fg:=fun δ ch=>match δ[i]? with
 |some (ς c)=>ς (lent c,ch)
 |_=>ψ
theorem A9(h:PE X e (qO i)):GE G X e (eV i):=PE.mono h fun σ H Q ⟨Φ,δ,ch,F,ρ,a,ch',en,O,k⟩=>by
 unfold eV at O;split at O<;>first|(cases O;done)|skip
 rename_i c hc;cases O;obtain⟨v,h1,h2⟩:=en.has i c hc;refine⟨v,h1,k v F H ρ (.refl en.gh) ⟨?_,fun t e=>?_⟩⟩
 .cases c<;>exact h2
 .cases c<;>cases e
def k2(m:Md)(g:Dt->Dt->ζ T):η CV->Fg:=fun cs _ ch=>match cs with
 |[x,y]=>(vw ch x).bind fun x=>(vw ch y).bind fun y=>(g x y).bind (fin m ch)
 |_=>ψ
def e2(m:Md)(g:Dt->Dt->ζ T)(fa fb:Fg):Fg:=fun δ ch=>(fa δ ch).bind fun p=>(fb δ p.2).bind fun q=>(vw q.2 p.1).bind fun x=>(vw q.2 q.1).bind fun y=>(g x y).bind (fin m q.2)
theorem DZ{g:Dt->Dt->ζ T}(Z:R2D G.K r g){Q:VK}{x:V}(h:tK G RV (k2 m g) σ [x,y] H Q):r x y H Q:=by obtain⟨Φ,δ,ch,F,ρ,cs,c,ch',en,rs,O,k⟩:=h;obtain _|⟨r1,_|⟨W,_|_⟩⟩:=rs;obtain⟨x,U,O⟩:=bS O;obtain⟨y,hy,O⟩:=bS O;obtain⟨t,ht,O⟩:=bS O;exact Z F H x y _ _ Q t en.gh.fh (aV en.gh r1 U) (aV en.gh W hy) ht (bZ en.gh O k)
theorem sG{g:Dt->Dt->ζ T}(O:R2D G.K r g){Q:VK}(h:tM G RV (e2 m g fa fb) σ H Q):tOp r (tM G RV fa) (tM G RV fb) σ H Q:=(tK.two (k:=k2 m g) h).imp fun _ _ h=>h.imp fun _ _ h=>DZ O h
theorem Ba{op:qv3}{g:Dt->Dt->ζ T}(O:OpR X (qh4 op) r)(U:R2D G.K r g)(W:GE G X a fa)(hb:GE G X b fb):GE G X (.BinOp a op b pos) (e2 m g fa fb):=PE.mono (DD O W hb) fun _ _ _=>sG U
theorem Bb{op:CmpOp}{g:Dt->Dt->ζ T}(O:OpR X (qf0 op) r)(U:R2D G.K r g)(Z:GE G X a fa)(hb:GE G X b fb)(W:qy7 op b=ξ):GE G X (.Compare a [op] [b] pos) (e2 m g fa fb):=PE.mono (vN O Z hb W) fun _ _ _=>sG U
def bN:CV->ζ Bool
 |.g (.bl b)=>ς b
 |_=>ψ
theorem oy{F:Hp}{c:CV}{b:Bool}{v:V}(h:bN c=ς b)(r:RelC G F H ρ n c v):v=.bl b:=by
 cases c with
 |g d=>cases d<;>cases h;exact r
 |_=>cases h
def aL(f:Fg):FM Bool:=fun δ ch=>(f δ ch).bind fun p=>(bN p.1).map fun b=>(b,p.2)
theorem wt{Q:Bool->Hp->Prop}(h:tM G RB (aL f) σ H Q):tM G RV f σ H fun x H'=>∃k,x=.bl k/\Q k H':=by
 refine(tK.one (k:=fun cs _ ch=>match cs with|[c]=>(bN c).map fun b=>(b,ch)|_=>ψ) h).imp fun x H' h=>?_
 obtain⟨Φ,δ,ch,F,ρ,cs,c,ch',en,rs,U,k⟩:=h;obtain _|⟨O,_|_⟩:=rs;obtain⟨q,hb,e⟩:=mS U;cases e;exact⟨_,oy hb O,k _ F H' ρ (.refl en.gh) rfl⟩
theorem Bc{op:CmpOp}{g:Dt->Dt->ζ T}(O:OpR X (qf0 op) r)(U:R2D G.K r g)(Z:GE G X a fa)(hb:GE G X b fb)(W:qy7 op b=ξ):GT G X (.Compare a [op] [b] pos) (aL (e2 m g fa fb)):=PT.mono (vO O Z hb W) fun _ _ _ h=>sG U (wt h)
def cq(f:Fg):FM Bool:=fun δ ch=>(f δ ch).bind fun p=>(vw p.2 p.1).bind fun d=>(j9 d).map fun b=>(b,p.2)
theorem Be(Z:X.K=G.K)(ha:GE G X a fa)(he:∀O,isTrue a X.env O=(do let v <- O;qw5 a.pos;qp1 [v] (truthy v))):GT G X a (cq fa):=PT.mono (re ha he) fun σ H Q h=>by
 refine(tK.one (k:=fun cs _ ch=>match cs with|[c]=>(vw ch c).bind fun d=>(j9 d).map fun b=>(b,ch)|_=>ψ) h).imp fun x H' h=>?_
 obtain⟨Φ,δ,ch,F,ρ,cs,c,ch',en,rs,U,k⟩:=h;obtain _|⟨r1,_|_⟩:=rs;obtain⟨d,W,U⟩:=bS U;obtain⟨q,hb,e⟩:=mS U;cases e;exact⟨_,by rw[Z];exact wg en.gh.fh (aV en.gh r1 W) hb,k _ F H' ρ (.refl en.gh) rfl⟩
variable{σ:af}{H:Hp}
def tNt(f:FM Bool):FM Bool:=fun δ ch=>(f δ ch).map fun p=>(!p.1,p.2)
def tAn(f g:FM Bool):FM Bool:=fun δ ch=>(f δ ch).bind fun p=>if p.1 then g δ p.2 else ς (ξ,p.2)
def iT(f g:FM Bool):FM Bool:=fun δ ch=>(f δ ch).bind fun p=>if p.1 then ς (θ,p.2)else g δ p.2
theorem tM.ret{α β:Type}{R:RL α β}{x:α}{y:β}{Q:β->Hp->Prop}(h:tM G R (fun _ ch=>ς (x,ch)) σ H Q)(r:∀F ρ n,R G H F H ρ n x y):Q y H:=by obtain⟨Φ,δ,ch,F,ρ,a,ch',en,O,k⟩:=h;cases O;exact k y F H ρ (.refl en.gh) (r _ _ _)
theorem Bg(h:GT G X a ta):GT G X (.UnaryOp .Not a pos) (tNt ta):=PT.mono (z7 h) fun σ H Q ⟨Φ,δ,ch,F,ρ,c,ch',en,O,k⟩=>by obtain⟨p,h1,e⟩:=mS O;cases e;exact⟨Φ,δ,ch,F,ρ,p.1,p.2,en,h1,fun b F' H' ρ' d r=>by cases r;exact k _ F' H' ρ' d rfl⟩
theorem Bh{Q:Bool->Hp->Prop}(h:tM G RB (tAn ta tb) σ H Q):tAnd (tM G RB ta) (tM G RB tb) σ H Q:=(tK.test (k:=fun b δ ch=>if b then tb δ ch else ς (ξ,ch)) h).imp fun b H' h=>by
 cases b with
 |true=>exact h
 |false=>exact h.ret fun _ _ _=>rfl
theorem Bi{Q:Bool->Hp->Prop}(h:tM G RB (iT ta tb) σ H Q):tOr (tM G RB ta) (tM G RB tb) σ H Q:=(tK.test (k:=fun b δ ch=>if b then ς (θ,ch)else tb δ ch) h).imp fun b H' h=>by
 cases b with
 |true=>exact h.ret fun _ _ _=>rfl
 |false=>exact h
theorem wu(h:GT G X a ta):GW G X (.BoolOp .And [a] pos) ta:=vF h
theorem Bj(h:GT G X a ta):GW G X (.BoolOp .Or [a] pos) ta:=z0 h
theorem sH(h:GT G X a ta)(h':GW G X (.BoolOp .And (b::rest) pos) tb):GW G X (.BoolOp .And (a::b::rest) pos) (tAn ta tb):=PW.mono (z6 h h') fun _ _ _ h=>Bh h
theorem yY(h:GT G X a ta)(h':GW G X (.BoolOp .Or (b::rest) pos) tb):GW G X (.BoolOp .Or (a::b::rest) pos) (iT ta tb):=PW.mono (Dv h h') fun _ _ _ h=>Bi h
theorem GW.t(h:GW G X a ta):GT G X a ta:=PW.pt h
def eAn(f g:Fg):Fg:=fun δ ch=>(f δ ch).bind fun p=>(bN p.1).bind fun b=>if b then g δ p.2 else ς (.g (.bl ξ),p.2)
def eNt(f:Fg):Fg:=fun δ ch=>(f δ ch).bind fun p=>(bN p.1).bind fun b=>ς (.g (.bl (!b)),p.2)
theorem Bk{op}(h:GE G X a fa):GE G X (.BoolOp op [a] pos) fa:=z8 h
theorem yZ{α β:Type}{R:RL α β}[RMono R]{kk:Bool->FM α}{Q:β->Hp->Prop}(h:tM G R (fun δ ch=>(fa δ ch).bind fun p=>(bN p.1).bind fun b=>kk b δ p.2) σ H Q):tM G RV fa σ H fun x H1=>∃c,x=.bl c/\tM G R (kk c) σ H1 Q:=by
 refine(tK.one (k:=fun cs δ ch=>match cs with|[c]=>(bN c).bind fun b=>kk b δ ch|_=>ψ) h).imp fun x H' h=>?_
 obtain⟨Φ,δ,ch,F,ρ,cs,c,ch',en,rs,U,k⟩:=h;obtain _|⟨O,_|_⟩:=rs;obtain⟨q,hb,e⟩:=bS U;exact⟨q,oy hb O,Φ,δ,ch,F,ρ,c,ch',en,e,k⟩
theorem sI{d:Dt}{v:V}(r:∀F,Rep G.K F d v):∀F ρ n,RV G H F H ρ n (.g d) v:=fun F _ _=>⟨r F,fun _ e=>nomatch e⟩
theorem Bl(h:GE G X a fa):GE G X (.UnaryOp .Not a pos) (eNt fa):=PE.mono (Aa h) fun σ H Q h=>(yZ (kk:=fun b _ ch=>ς (CV.g (.bl (!b)),ch)) h).imp fun x H' ⟨c,e,h⟩=>⟨c,e,h.ret (sI fun _=>ib)⟩
theorem sK(h:GE G X a fa)(h':GE G X (.BoolOp .And (b::rest) pos) fb):GE G X (.BoolOp .And (a::b::rest) pos) (eAn fa fb):=PE.mono (z9 h h') fun σ H Q h=>(yZ (kk:=fun b δ ch=>if b then fb δ ch else ς (.g (.bl ξ),ch)) h).imp fun x H' ⟨c,e,h⟩=>⟨c,e,by
 cases c with
 |true=>exact h
 |false=>exact h.ret (sI fun _=>ib)⟩
def eIf(c:FM Bool)(f g:Fg):Fg:=fun δ ch=>(c δ ch).bind fun p=>if p.1 then f δ p.2 else g δ p.2
theorem D0(hc:GT G X c tc)(h:GE G X a fa)(h':GE G X b fb):GE G X (.IfExp c a b pos) (eIf tc fa fb):=PE.mono (qP hc h h') fun σ H Q h=>(tK.test (k:=fun b δ ch=>if b then fa δ ch else fb δ ch) h).imp fun b H' h=>by cases b<;>exact h
def bO:CV->ζ Int
 |.g (.int i)=>ς i
 |_=>ψ
theorem cO{F:Hp}{c:CV}{b:Int}{v:V}(h:bO c=ς b)(r:RelC G F H ρ n c v):v=.int b:=by
 cases c with
 |g d=>cases d<;>cases h;exact r
 |_=>cases h
def eNg(f:Fg):Fg:=fun δ ch=>(f δ ch).bind fun p=>(bO p.1).bind fun i=>ς (.g (.int (-i)),p.2)
theorem Bm(h:GE G X a fa):GE G X (.UnaryOp .USub a pos) (eNg fa):=PE.mono (DE Aw h) fun σ H Q h=>by
 refine(tK.one (k:=fun cs _ ch=>match cs with|[c]=>(bO c).bind fun i=>ς (CV.g (.int (-i)),ch)|_=>ψ) h).imp fun x H' h=>?_
 obtain⟨Φ,δ,ch,F,ρ,cs,c,ch',en,rs,U,k⟩:=h;obtain _|⟨O,_|_⟩:=rs;obtain⟨q,hb,e⟩:=bS U;cases e;exact⟨q,cO hb O,k.dat en.gh br⟩
def aNl:FM (η CV):=fun _ ch=>ς ([],ch)
def aCn(f:Fg)(fs:FM (η CV)):FM (η CV):=fun δ ch=>(f δ ch).bind fun p=>(fs δ p.2).map fun q=>(p.1::q.1,q.2)
theorem Bn:GA G X [] aNl:=PA.mono cK fun σ H Q h=>h.ret fun _ _ _=>.nil
theorem wv(h:GE G X e f)(W:GA G X es fs)(hs:qb3 (e::es) X.env=(ξ,eval e X.env)::qb3 es X.env):GA G X (e::es) (aCn f fs):=PA.mono (bF h W hs) fun σ H Q ⟨Φ,δ,ch,F,ρ,c,ch',en,O,k⟩=>by obtain⟨p,h1,O⟩:=bS O;obtain⟨q,h2,e⟩:=mS O;cases e;exact⟨Φ,δ,ch,F,ρ,p.1,p.2,en,h1,fun x F1 H1 ρ1 d1 Z=>⟨Φ,δ,p.2,F1,ρ1,q.1,q.2,en.adv d1,h2,fun us F2 H2 ρ2 d2 U=>(k.adv d1) _ F2 H2 ρ2 d2 (.cons (Z.1.adv d2) U)⟩⟩
end
variable{C:J4}
theorem ClsAt.inj{c:Str}{C':J4}(h:ClsAt K c C)(h':ClsAt K c C'):C=C':=by unfold ClsAt at h h';rw[h]at h';cases h';rfl
section
variable{X:Cx}
def Bo:R2:=fun x y H Q=>∃a v,x=.ref a/\DGet H a y (ς v)/\Q v H
theorem ww(Z:X.A.units+1<cLine):IxR X Bo:=by
 intro value O J0 s σ H x y v u Q I rx ry ⟨a,w,ex,g,q⟩ hs;subst ex;obtain rfl:v=qc1 a:=rx;have W:=lh I g;unfold ze2;refine wB ?_;rw[getitemInPython_of_ne W.not_modules];refine wB (wpAny_specialOf W PySem.F.slot_dict_getitem.lookup ?_)
 have fin:wpAny (model X.prog X.w) X.A (zd4 O ξ (.ref a) u) (fun r s₃=>wpAny (model X.prog X.w) X.A (letTemporaryGo value (.ref a) r >>= fun _=>pure r) (EP X J0 σ Q) X.xe s₃) X.xe s:=by rw[hs];exact wpAny_operating (pZ Z I g ry fun w' s3 I3 U=>wB (wpAny_letTemporaryGo (qa6 ⟨w,H,I3,U,q⟩)))
 first
  |exact qa6 (wB fin)
  |exact wB (qa6 (wB fin))
  |exact wB fin
def Bp(O:Bool):R2:=fun y x H Q=>∃a o,x=.ref a/\DGet H a y o/\Q (.bl (if O then !o.isSome else o.isSome)) H
theorem Bq(O:X.A.units+1<cLine):OpR X (qf0 .In) (Bp ξ):=by intro J0 s σ H y x iv u Q I U W ⟨a,o,ex,g,q⟩;subst ex;obtain rfl:u=qc1 a:=W;exact d_in O I g U fun s3 Z=>⟨.bl o.isSome,H,Z,rfl,q⟩
theorem qg(O:X.A.units+1<cLine):OpR X (qf0 .NotIn) (Bp θ):=by intro J0 s σ H y x iv u Q I U W ⟨a,o,ex,g,q⟩;subst ex;obtain rfl:u=qc1 a:=W;exact v5 O I g U fun s3 Z=>⟨.bl (!o.isSome),H,Z,rfl,q⟩
def y8:qS:=fun o i v H Q=>∃a H',o=.ref a/\DPut H a i v H'/\Q H'
theorem sM(O:X.A.units+1<cLine):PSet X y8:=by intro J0 s σ H o i v U iv u Q I ro ri W ⟨a,H',ex,g,q⟩;subst ex;obtain rfl:U=qc1 a:=ro;exact p4 O I g ri W fun s4 Z=>⟨H',Z,q⟩
theorem PSet.or{r W:qS}(h:PSet X r)(h':PSet X W):PSet X (fun o i v H Q=>r o i v H Q∨W o i v H Q):=by
 intro J0 s σ H o i v O iv u Q I ro Z U q;rcases q with q|q
 .exact h J0 s σ H o i v O iv u Q I ro Z U q
 .exact h' J0 s σ H o i v O iv u Q I ro Z U q
end
variable{ks:η Key}{vk:V}{as:TA}
section
variable{G:Gx}{X:Cx}{e a b c o:J6}{es rest:η J6}{f fa fb fc:Fg}{fs:FM (η CV)}{ta tb tc:FM Bool}{pos apos cpos p:Pos}{i:Nat}{m:Md}{d:Dt}{σ:af}{F H:Hp}{ρ:Nat->J4}{ch ch':CH}{Q:VK}
theorem Br{o:CO}{a:J4}(g:Gh G F H ρ ch)(O:H a=ψ)(U:CoOk G F (upd H a u) ρ ch.length a o):Adv G F H ρ ch F (upd H a u) (fun i=>if i=ch.length then a else ρ i) (ch++[o]):=Adv.new g (Step.made g.fh O) O (g.fh.free O) (U.mono (Same.refl _) (fun i hi=>if_neg (qc2 hi)) (qi3 _) fun _ h=>h)
theorem ki{o:CO}{a:J4}(g:Gh G F H ρ ch)(U:H a=ψ)(O:CoOk G F (upd H a u) ρ ch.length a o)(k:KM G RV F H ρ ch (.ref ch.length) (ch++[o]) Q):Q (.ref a) (upd H a u):=k.sol (Br g U O) ⟨Ξ,Ξ⟩
def finL(m:Md)(l:η CV)(ch:CH):ζ (CV×CH):=match dats l with
 |some ds=>fin m ch (.e ds)
 |none=>if l.all CV.sol then ς (.ref ch.length,ch++[.e l])else ψ
def eLs(m:Md)(fs:FM (η CV)):Fg:=fun δ ch=>(fs δ ch).bind fun p=>if p.1.length<=qa9 then finL m p.1 p.2 else ψ
theorem Bs(h:GA G X es fs):GE G X (.List es pos) (eLs m fs):=PE.mono (AE h) fun σ H Q h=>by
 refine(tK.args (k:=fun l _ ch=>if l.length<=qa9 then finL m l ch else ψ) h).imp fun vs H1 ⟨Φ,δ,ch,F,ρ,cs,c,ch',en,rs,O,k⟩=>?_
 dsimp only at O;split at O<;>first|(cases O;done)|skip
 rename_i Z;refine⟨by rw[<- Paired.length rs];exact Z,fun q W=>?_⟩;unfold finL at O;split at O
 .rename_i ds U;exact cg (bZ en.gh O k) en.gh.fh (bj U (RelCs.s (by rw[cN U];simp[CV.sol]) rs)) W
 .split at O<;>cases O
  rename_i hs;exact ki (o:=.e cs) en.gh W ⟨vs,ah,rs.s hs⟩ k
def eTu(fs:FM (η CV)):Fg:=fun δ ch=>(fs δ ch).bind fun p=>if p.1.length<=qa9 then(match dats p.1 with
 |some ds=>ς (.g (.t ds),p.2)
 |none=>if p.1.all CV.sol then ς (.ref p.2.length,p.2++[.t p.1])else ψ)else ψ
theorem Bt{x1}(h:GA G X es fs):GE G X (.Tuple es x1 pos) (eTu fs):=PE.mono (AD h) fun σ H Q h=>by
 refine(tK.args (k:=fun l _ ch=>if l.length<=qa9 then(match dats l with
  |some ds=>ς (CV.g (.t ds),ch)
  |none=>if l.all CV.sol then ς (.ref ch.length,ch++[.t l])else ψ)else ψ) h).imp fun vs H1 ⟨Φ,δ,ch,F,ρ,cs,c,ch',en,rs,O,k⟩=>?_
 dsimp only at O;split at O<;>first|(cases O;done)|skip
 rename_i Z;refine⟨by rw[<- Paired.length rs];exact Z,fun q W=>?_⟩;split at O
 .rename_i ds U;cases O;exact KO.tup (bZ (m:=.v) (t:=.f (.t ds)) en.gh rfl k) en.gh.fh (bj U (RelCs.s (by rw[cN U];simp[CV.sol]) rs)) W
 .split at O<;>cases O
  rename_i hs;exact ki (o:=.t cs) en.gh W ⟨vs,ah,rs.s hs⟩ k
def isK:Dt->ζ (η Key)
 |.t [.int n,.str s]=>ς [.inl n,.inr s]
 |.t [.str s,.int n]=>ς [.inr s,.inl n]
 |_=>ψ
def fX(K:xA9):Bool:=K.all fun p=>match p.2.data with
 |.seq J3 _=>(match J3.toList with
  |[.int _ _,.str _ _]|[.str _ _,.int _ _]=>ξ
  |_=>θ)
 |_=>θ
theorem lu{a:J4}{o:Obj}:∀{K:η (J4×Obj)},K.lookup a=ς o->(a,o)∈K
 |[],h=>by cases h
 |(b,u)::K,h=>by
  rw[qj4]at h;cases q:a==b with
  |true=>rw[q]at h;cases h;rw[beq_iff_eq.mp q];exact .head _
  |false=>rw[q]at h;exact .tail _ (lu h)
theorem kj{v:V}(Z:fX K=θ)(h:isK d=ς ks)(r:RepB K F H d v):∃b,v=.ref b/\F b=ς (.t (ks.map kV)):=by
 have O:∀{a:J4}{x y:V},SqT K F a [x,y]->((∃n s,x=.int n/\y=.str s)∨∃n s,x=.str s/\y=.int n)->F a=ς (.t [x,y]):=fun {a x y} h hx=>by
  rcases h with h|⟨o,J3,m,hk,hc,hd,hz,r⟩
  .exact h
  .have U:=qc0.mp Z (a,o) (lu hk);dsimp only at U;rw[hd.1]at U;dsimp only at U;generalize J3.toList=w at U r;obtain _|⟨r1,_|⟨W,_|_⟩⟩:=r;rcases hx with ⟨n,s,rfl,rfl⟩|⟨n,s,rfl,rfl⟩<;>(obtain⟨t1,rfl⟩:=r1;obtain⟨t2,rfl⟩:=W;cases U)
 unfold isK at h;split at h<;>cases h
 all_goals
  obtain⟨a,vs,rfl,h1,h2⟩:=r;unfold Reps at h2;obtain⟨v1,w1,rfl,q1,h2⟩:=h2;unfold Reps at h2;obtain⟨v2,w2,rfl,q2,h2⟩:=h2;unfold Reps at h2;subst h2;simp only[Rep]at q1 q2;subst q1 q2
 .exact⟨a,rfl,O h1 (.inl ⟨_,_,rfl,rfl⟩)⟩
 .exact⟨a,rfl,O h1 (.inr ⟨_,_,rfl,rfl⟩)⟩
def az(x k:Dt):ζ (ζ Dt):=match x with
 |.dct ks l=>(cX k).map (ay ks l)
 |.dcT ks l=>(isK k).map (ay ks l)
 |_=>ψ
theorem ie{x k:Dt}{r:ζ Dt}(hK:fX K=θ)(fh:Same F H)(W:RepB K F H x vx)(Z:RepB K F H k vk)(h:az x k=ς r):∃a o,vx=.ref a/\DGet H a vk o/\(∀d,r=ς d->∃v,o=ς v/\Rep K F d v)/\(r=ψ->o=ψ):=by
 cases x with
 |dct ks l=>obtain⟨q,U,rfl⟩:=mS h;obtain⟨a,J1,rfl,h1,rfl,O⟩:=W;refine⟨a,_,rfl,.inl ⟨J1,q,h1,dD Z U,rfl⟩,?_⟩;exact⟨fun d e=>fU O e,fun e=>fV O e⟩
 |dcT ks l=>obtain⟨q,U,rfl⟩:=mS h;obtain⟨a,J1,rfl,h1,rfl,O⟩:=W;obtain⟨b,rfl,hb⟩:=kj hK U Z;refine⟨a,_,rfl,.inr ⟨J1,q,b,h1,rfl,fh _ _ hb,rfl⟩,?_⟩;exact⟨fun d e=>fU O e,fun e=>fV O e⟩
 |_=>cases h
def lkC{κ:Type}[DecidableEq κ](l:η (κ×CV))(k:κ):ζ CV:=(l.find? fun p=>decide (p.1=k)).map (·.2)
theorem gD {κ:Type} [DecidableEq κ] {k:κ}:∀ {l:η (κ×CV)} {J1:η (κ×V)},J1.map (·.1)=l.map (·.1)->RelSs G F ρ n (l.map (·.2)) (J1.map (·.2))→
  match lkC l k with|some c=>∃v,bM J1 k=ς v/\RelS G F ρ n c v|none=>bM J1 k=ψ
 |[],[],_,_=>rfl
 |[],p::J1,e,_=>by cases e
 |p::l,[],e,_=>by cases e
 |(k1,c)::l,(k2,v)::J1,e,r=>by
  simp only[qa3,zc0]at e;obtain⟨rfl,e⟩:=e;obtain _|⟨Z,U⟩:=r;have W:=gD (k:=k) e U;by_cases O:k2=k
  .subst O;simp only[lkC,qk6,decide_true,qb2];exact⟨v,by simp[bM],Z⟩
  .have e1:lkC ((k2,c)::l) k=lkC l k:=by simp[lkC,qk6,O]
   have e2:bM ((k2,v)::J1) k=bM J1 k:=by simp[bM,O]
   rw[e1,e2];exact W
def ixO(o:CO)(d:Dt):ζ CV:=match o with
 |.e l=>(asI d).bind (atI l)
 |.t l=>(asI d).bind (atI l)
 |.dK l=>(cX d).bind (lkC l)
 |.dT l=>(isK d).bind (lkC l)
 |_=>ψ
def ixD(x d:Dt):ζ Dt:=match az x d with
 |some r=>r
 |none=>match gIx x d with
  |some (.f y)=>ς y
  |_=>ψ
def ixV(ch:CH)(x:CV)(d:Dt):ζ CV:=match x with
 |.ref i=>(ch[i]?).bind fun o=>ixO o d
 |x=>(vw ch x).bind fun x=>(ixD x d).map .g
def eIx(fa fb:Fg):Fg:=fun δ ch=>(fa δ ch).bind fun p=>(fb δ p.2).bind fun q=>(vw q.2 q.1).bind fun d=>(ixV q.2 p.1 d).map fun c=>(c,q.2)
theorem ig{v:V}(h:asI d=ς j)(r:RepB K F H d v):v=.int j:=by cases d<;>cases h;exact r
theorem oz{l:η CV}{c:CV}(r:RelSs G F ρ n l vs)(h:atI l j=ς c):∃v,atI vs j=ς v/\RelS G F ρ n c v:=by unfold atI at h ⊢;obtain⟨k,h1,h2⟩:=bS h;rw[RelSs.length r,h1];exact Paired.get r h2
def kIx:η CV->Fg:=fun cs _ ch=>match cs with
 |[x,y]=>(vw ch y).bind fun d=>(ixV ch x d).map fun c=>(c,ch)
 |_=>ψ
theorem Bu(hI:fX G.K=θ){x:V}(h:tK G RV kIx σ [x,y] H Q):rIx G.K x y H Q∨Bo x y H Q:=by
 obtain⟨Φ,δ,ch,F,ρ,cs,c,ch',en,rs,hf,k⟩:=h;obtain _|@⟨cx,_,_,_,r1,_|@⟨cy,_,_,_,r2,_|_⟩⟩:=rs;obtain⟨d,hd,hf⟩:=bS hf;obtain⟨c',hc,e⟩:=mS hf;cases e;have rd:=aV en.gh r2 hd
 have dta:∀x z y,vw ch cx=ς x->ixD x d=ς y->CV.g y=c->RepB G.K F H x z->rIx G.K z _ H Q∨Bo z _ H Q:=fun x z y _ hi hy rx=>by
  subst hy;unfold ixD at hi;split at hi
  .rename_i r hr;obtain⟨a,o,e,hg,hm⟩:=ie hI en.gh.fh rx rd hr;obtain⟨v,rfl,rv⟩:=hm.1 _ hi;exact .inr ⟨a,v,e,hg,k.dat en.gh rv⟩
  .split at hi<;>cases hi
   rename_i hg;exact .inl (r_ix F H x d _ _ Q _ en.gh.fh rx rd hg (bZ (m:=.v) (t:=.f y) en.gh rfl k))
 cases cx with
 |ref i=>
  obtain⟨_,rfl⟩:=r1;obtain⟨o,ho,hc⟩:=bS hc;have O:=en.gh.ok i o ho;cases o with
  |e l=>obtain⟨j,U,hc⟩:=bS hc;obtain⟨vs,h1,h2⟩:=O;obtain⟨u,Z,W⟩:=oz h2 hc;exact .inl (.inl ⟨_,vs,j,u,rfl,ig U rd,SqL.of h1,Z,k.sol (.refl en.gh) W⟩)
  |t l=>obtain⟨j,U,hc⟩:=bS hc;obtain⟨vs,h1,h2⟩:=O;obtain⟨u,Z,W⟩:=oz h2 hc;exact .inl (.inr (.inl ⟨_,vs,j,u,rfl,ig U rd,SqT.of h1,Z,k.sol (.refl en.gh) W⟩))
  |dK l=>obtain⟨j,U,hc⟩:=bS hc;obtain⟨nd,J1,h1,h2,h3⟩:=O;have lk:=gD (k:=j) h2 h3;rw[hc]at lk;obtain⟨u,Z,W⟩:=lk;refine .inr ⟨_,u,rfl,?_,k.sol (.refl en.gh) W⟩;rw[dD rd U,<- Z];exact DGet.k h1
  |dT l=>obtain⟨j,U,hc⟩:=bS hc;obtain⟨nd,J1,h1,h2,h3⟩:=O;obtain⟨b,rfl,hb⟩:=kj hI U rd;have lk:=gD (k:=j) h2 h3;rw[hc]at lk;obtain⟨u,Z,W⟩:=lk;refine .inr ⟨_,u,rfl,?_,k.sol (.refl en.gh) W⟩;rw[<- Z];exact DGet.t h1 (en.gh.fh _ _ hb)
  |ins c l=>cases hc
 |g x0=>have hc:(vw ch (.g x0)).bind (fun x=>(ixD x d).map .g)=ς c:=hc;obtain⟨x,hx,hc⟩:=bS hc;obtain⟨y,hy,e⟩:=mS hc;exact dta x _ y hx hy e (aV en.gh r1 hx)
 |own b t=>obtain⟨x,hx,hc⟩:=bS hc;obtain⟨y,hy,e⟩:=mS hc;exact dta x _ y hx hy e (aV en.gh r1 hx)
 |fn _ _=>cases hc
theorem D3{k:Nat}(U:X.K=G.K)(W:fX G.K=θ)(O:Room k X.A)(Z:GE G X a fa)(hb:GE G X b fb)(hs:jR b):GE G X (.Subscript a b pos) (eIx fa fb):=PE.mono (DO (IxR.or AI (ww (lj O))) Z hb hs) fun σ H Q h=>(tK.two (k:=kIx) h).imp fun _ _ h=>h.imp fun _ _ h=>by rw[U];exact Bu W h
def jo(G:Gx)(c:Nat):Prop:=∀p,G.ct[c]?=ς p->∃C,ClsAt G.K p.1 C/\Cls G.K C/\p.2.Nodup/\∀f∈p.2,NoAttr G.K C f
def eAt(c f:Nat)(fa:Fg):Fg:=fun δ ch=>(fa δ ch).bind fun p=>match p.1 with
 |.ref i=>match p.2[i]? with
  |some (.ins O l)=>if O=c then(l[f]?).map fun x=>(x,p.2)else ψ
  |_=>ψ
 |_=>ψ
theorem dX{f:Str}:∀{fs:η (Str×V)}{j:Nat}{v:V},(fs.map (·.1)).Nodup->(fs.map (·.1))[j]?=ς f->(fs.map (·.2))[j]?=ς v->fs.lookup f=ς v
 |[],j,v,_,h,_=>by simp at h
 |(g,x)::fs,0,v,_,h,h'=>by simp at h h';subst h h';simp[qg8]
 |(g,x)::fs,j+1,v,O,h,h'=>by
  simp only[qa3,qd6]at O;simp only[qa3,qd2]at h h'
  have U:(f==g)=ξ:=by
   have:f≠g:=fun e=>O.1 (by rw[<- e];exact qa5 h)
   simpa using this
  simp only[qg8,U];exact dX O.2 h h'
theorem lw{ns:η Str}{l:η CV}{fs:η (Str×V)}{j:Nat}{x:CV}(h:fs.map (·.1)=ns.take l.length)(O:l[j]?=ς x){f:Str}(U:ns[j]?=ς f):(fs.map (·.1))[j]?=ς f:=by rw[h,qq7 (ao O)];exact U
theorem D4{c f:Nat}{pn:Str×η Str}{fn:Str}(hK:X.K=G.K)(hc:jo G c)(hp:G.ct[c]?=ς pn)(hn:pn.2[f]?=ς fn)(h:GE G X o fa)(hb:qh5 o fn X.env (eval o X.env)=eval o X.env):GE G X (.Attribute o fn pos) (eAt c f fa):=PE.mono (AB h hb) fun σ H Q ⟨Φ,δ,ch,F,ρ,c0,ch',en,O,kk⟩=>by
 have⟨⟨c1,ch1⟩,h1,hg'⟩:=bS O;clear O;have O:=hg';clear hg';cases c1 with
 |ref i=>
  dsimp only at O;split at O<;>first|(cases O;done)|skip
  rename_i c' l ho;split at O<;>first|(cases O;done)|skip
  rename_i W;subst W;obtain⟨x,hx,e⟩:=mS O;cases e;refine⟨Φ,δ,ch,F,ρ,_,_,en,h1,fun v F1 H1 ρ1 a1 r1=>?_⟩;obtain⟨p',C',dx,fs,U,h0,ha,h2,h3⟩:=a1.gh.ok i _ ho;rw[hp]at U;cases U
  obtain⟨C,hC,hcl,nd,Z⟩:=hc pn hp;have:=hC.inj h0;subst this;obtain⟨u,hu,ru⟩:=Paired.get h3 hx;exact⟨_,C,dx,fs,u,r1.1.2,ha,by rw[hK];exact hcl,by rw[hK];exact Z _ (qa5 hn),dX (by rw[h2];exact nd.sublist (qo9 _ _)) (lw h2 hx hn) hu,kk.sol a1 ru⟩
 |_=>cases O
abbrev Fd:=η CV->CH->ζ (CV×CH)
def RS:RL CV V:=fun G _ F _ ρ n c v=>RelS G F ρ n c v
def spZ(G:Gx)(n:Nat)(f:Fd):Sp:=fun vs H Q _=>∃F ρ cs ch c ch',Gh G F H ρ ch/\cs.length=n/\(∀t,CV.own θ t∉cs)/\RelCs G F H ρ ch.length cs vs/\f cs ch=ς (c,ch')/\KM G RS F H ρ ch c ch' Q
def CV.old:CV->Bool
 |.own θ _=>ξ
 |_=>θ
theorem Bv{cs:η CV}(h:cs.all CV.old=θ)(t:T):CV.own θ t∉cs:=fun z=>by have:=qc0.mp h _ z;cases this
def kCa(n:Nat)(g:Fd):η CV->Fg:=fun cs _ ch=>if cs.length=n/\cs.all CV.old=θ then g cs ch else ψ
theorem ij{g:Fd}(h:tK G RV (kCa n g) σ vs H Q):spZ G n g vs H Q E0:=by
 obtain⟨Φ,δ,ch,F,ρ,cs,c,ch',en,rs,O,k⟩:=h;unfold kCa at O;split at O<;>first|(cases O;done)|skip
 rename_i U;exact⟨F,ρ,cs,ch,c,ch',en.gh,U.1,Bv U.2,rs,O,fun b F' H' ρ' a r=>k.sol a r⟩
def eCa(n:Nat)(g:Fd)(fs:FM (η CV)):Fg:=fun δ ch=>(fs δ ch).bind fun p=>kCa n g p.1 δ p.2
section
variable{sc:J8}{x:Str}{k n:Nat}{ps:η Str}{g:Fd}
theorem wx(h:aQ sc x=θ)(F:OkF X.prog X.w X.K X.mg X.base x k ps (spZ G n g))(U:Room k X.A)(ha:GA G X (e::es) fs)(Z:bp X sc)(W:qb3 (e::es) X.env=(ξ,eval e X.env)::qb3 es X.env)(O:(qh3 cpos (qb3 es X.env)).any (·.1)=ξ):GE G X (.Call (.Name x p) (e::es) [] cpos) (eCa n g fs):=PE.mono (p9 h F U ha Z W O) fun σ H Q h=>(tK.args (k:=kCa n g) h).imp fun vs H1 h=>by rw[qh6];exact ij h
theorem kl{Q:η V->Hp->Prop}(h:tM G RA aNl σ H Q):mH σ H Q:=h.ret fun _ _ _=>.nil
theorem sO(h:aQ sc x=θ)(F:OkF X.prog X.w X.K X.mg X.base x k ps (spZ G n g))(O:Room k X.A)(U:bp X sc):GE G X (.Call (.Name x p) [] [] cpos) (eCa n g aNl):=PE.mono (mT h F O U) fun σ H Q h=>kl ((tK.args (k:=kCa n g) h).imp fun vs H1 h=>by rw[qh6];exact ij h)
structure OkM(P:qe7)(w:J5)(K:xA9)(mg:Str->Option Value)(base:Heap)(c m:Str)(k:Nat)(ps:List Str)(sp:Sp):Prop where
 ex:∃C f fd,ClsAt K c C/\Cls K C/\Meth K C m f/\Binds K fd ps []/\FnOk P w K mg base CX0 k f fd ps sp
structure OkI(P:qe7)(w:J5)(K:xA9)(mg:Str->Option Value)(base:Heap)(c:Str)(k:Nat)(ps:List Str)(sp:Sp):Prop where
 ex:∃C f fd,ClsAt K c C/\mg c=ς (.ref C)/\Mk K C f/\Binds K fd ps []/\FnOk P w K mg base CX0 k f fd ps sp
def eMe(c n:Nat)(g:Fd)(fo:Fg)(fs:FM (η CV)):Fg:=fun δ ch=>(fo δ ch).bind fun p=>match p.1 with
 |.ref i=>match p.2[i]? with
  |some (.ins O _)=>if O=c then(fs δ p.2).bind fun q=>kCa n g (.ref i::q.1) δ q.2 else ψ
  |_=>ψ
 |_=>ψ
theorem gp{m:Str}:∀{fs:η (Str×V)},m∉fs.map (·.1)->fs.lookup m=ψ
 |[],_=>rfl
 |(g,x)::fs,h=>by
  simp only[qa3,qc4,not_or]at h;have:(m==g)=ξ:=by simpa using h.1
  simp only[qg8,this];exact gp h.2
theorem sP{c:Nat}{m:Str}{pn:Str×η Str}(hp:G.ct[c]?=ς pn)(h1:ClsAt G.K pn.1 C)(hm:m∉pn.2)(has:∀ σ H Q,tM G RA fs σ H Q->as σ H Q)(σ:af)(H:Hp)(Q:VK)(h:tM G RV (eMe c n g fa fs) σ H Q):rC C m (spZ G n g) [] E0 (tM G RV fa) as σ H Q:=by
 obtain⟨Φ,δ,ch,F,ρ,c0,ch',en,O,kk⟩:=h;have⟨⟨c1,ch1⟩,h2,hg'⟩:=bS O;clear O;have O:=hg';clear hg';cases c1 with
 |ref i=>
  dsimp only at O;split at O<;>first|(cases O;done)|skip
  rename_i c' l ho;split at O<;>first|(cases O;done)|skip
  rename_i W;subst W;obtain⟨q,hq,Z⟩:=bS O;refine⟨Φ,δ,ch,F,ρ,_,_,en,h2,fun v F1 H1 ρ1 a1 r1=>?_⟩;obtain⟨p',C',dx,gs,U,h0,ha,h3,h4⟩:=a1.gh.ok i _ ho;rw[hp]at U;cases U
  have:=h1.inj h0;subst this;refine⟨_,dx,gs,r1.1.2,ha,gp (by rw[h3];exact fun z=>hm (qp2 z)),has _ _ _ ⟨Φ,δ,ch1,F1,ρ1,q.1,q.2,en.adv a1,hq,fun vs F2 H2 ρ2 a2 r2=>?_⟩⟩;show spZ G n g (v::(vs++[])) H2 Q E0;rw[qh6];exact ij (σ:=σ) ⟨Φ,δ,q.2,F2,ρ2,.ref i::q.1,c0,ch',(en.adv a1).adv a2,.cons (r1.1.adv a2) r2,Z,(kk.adv a1).adv a2⟩
 |_=>cases O
theorem wy {c:Nat} {m:Str} {pn:Str×η Str} (hK:X.K=G.K) (hp:G.ct[c]?=ς pn) (hm:m∉pn.2) (F:OkM X.prog X.w X.K X.mg X.base pn.1 m k ps (spZ G n g)) (Z:Room k X.A) (ho:GE G X o fa) (ha:GA G X (e::es) fs) {pl:Sem Bool} (he:qb3 (e::es) X.env=(ξ,eval e X.env)::qb3 es X.env) (O:(qh3 cpos (qb3 es X.env)).any (·.1)=ξ)
  (ht:eval (.Call (.Attribute o m apos) (e::es) [] cpos) X.env=(do
   let ov <- eval o X.env
   qw5 apos.atName
   let (f,first) <- qp1 [ov] (qu4 ov m pl)
   zc7 cpos f first (qh3 cpos (qb3 (e::es) X.env)) (qo8 cpos (qi2 [] X.env)))):GE G X (.Call (.Attribute o m apos) (e::es) [] cpos) (eMe c n g fa fs):=by
 obtain⟨C,f,fd,h1,h2,U,h4,W⟩:=F.ex;rw[hK]at h1;exact PE.mono (vT ho h2 U W Z h4 .nil ia ha he O ht) (sP hp h1 hm fun _ _ _ q=>q)
theorem sQ {c:Nat} {m:Str} {pn:Str×η Str} (Z:X.K=G.K) (hp:G.ct[c]?=ς pn) (hm:m∉pn.2) (F:OkM X.prog X.w X.K X.mg X.base pn.1 m k ps (spZ G n g)) (W:Room k X.A) (ho:GE G X o fa) {pl:Sem Bool}
  (ht:eval (.Call (.Attribute o m apos) [] [] cpos) X.env=(do
   let ov <- eval o X.env
   qw5 apos.atName
   let (f,first) <- qp1 [ov] (qu4 ov m pl)
   zc7 cpos f first (qh3 cpos (qb3 [] X.env)) (qo8 cpos (qi2 [] X.env)))):GE G X (.Call (.Attribute o m apos) [] [] cpos) (eMe c n g fa aNl):=by
 obtain⟨C,f,fd,h1,h2,O,h4,U⟩:=F.ex;rw[Z]at h1;exact PE.mono (rF ho h2 O U W h4 .nil ia ht) (sP hp h1 hm fun _ _ _ q=>kl q)
def eMk(c n:Nat)(g:Fd)(fs:FM (η CV)):Fg:=fun δ ch=>(fs δ ch).bind fun p=>(kCa n g (.ref p.2.length::p.1) δ (p.2++[.ins c []])).bind fun q=>match q.1 with
 |.g .non=>if p.2.length<q.2.length then ς (.ref p.2.length,q.2)else ψ
 |_=>ψ
theorem sR{c:Nat}{pn:Str×η Str}(hp:G.ct[c]?=ς pn)(h1:ClsAt G.K pn.1 C)(has:∀ σ H Q,tM G RA fs σ H Q->as σ H Q)(σ:af)(H:Hp)(Q:VK)(h:tM G RV (eMk c n g fs) σ H Q):rD C (spZ G n g) [] E0 as σ H Q:=by
 obtain⟨Φ,δ,ch,F,ρ,c0,ch',en,hg,kk⟩:=h;obtain⟨p,h2,hg2⟩:=bS hg;obtain⟨⟨q,ch2⟩,h3,O⟩:=bS hg2;dsimp only at O;split at O<;>first|(cases O;done)|skip
 split at O<;>first|(cases O;done)|skip
 rename_i Z;cases O;refine has _ _ _ ⟨Φ,δ,ch,F,ρ,p.1,p.2,en,h2,fun vs F1 H1 ρ1 a1 r1 x dx W U hne=>?_⟩;rw[qh6];have st:Step F1 H1 F1 (upd (upd H1 dx (.own x)) x (.ins C dx [])):=(Step.made a1.gh.fh U).trans (Step.made (a1.gh.fh.trans (Same.upd U)) (by rw[ai (qk5 hne)];exact W))
 have a2:Adv G F1 H1 ρ1 p.2 F1 (upd (upd H1 dx (.own x)) x (.ins C dx [])) (fun i=>if i=p.2.length then x else ρ1 i) (p.2++[.ins c []]):=Adv.new a1.gh st W (a1.gh.fh.free W) ⟨pn,C,dx,[],hp,h1,ah,rfl,.nil⟩
 have hz:(fun i=>if i=p.2.length then x else ρ1 i) p.2.length=x:=if_pos rfl;refine ij (σ:=σ) (G:=G) ⟨Φ,δ,p.2++[.ins c []],F1,_,.ref p.2.length::p.1,.g .non,ch',(en.adv a1).adv a2,.cons ⟨Ξ,Ξ⟩ (RelCs.adv a2 r1),h3,fun v F3 H3 ρ3 a3 r3=>⟨?_,?_⟩⟩
 .exact r3.1
 .have hl:p.2.length<(p.2++[CO.ins c []]).length:=by simp
  exact kk.sol ((a1.trans a2).trans a3) ⟨Z,by rw[a3.ext _ hl];simp⟩
theorem wz{c:Nat}{pn:Str×η Str}(hK:X.K=G.K)(hp:G.ct[c]?=ς pn)(h:aQ sc pn.1=θ)(F:OkI X.prog X.w X.K X.mg X.base pn.1 k ps (spZ G n g))(Z:Room (k+1) X.A)(ha:GA G X (e::es) fs)(e1:bp X sc)(he:qb3 (e::es) X.env=(ξ,eval e X.env)::qb3 es X.env)(O:(qh3 cpos (qb3 es X.env)).any (·.1)=ξ):GE G X (.Call (.Name pn.1 p) (e::es) [] cpos) (eMk c n g fs):=by obtain⟨C,f,fd,h1,h2,U,h4,W⟩:=F.ex;rw[hK]at h1;exact PE.mono (vU U W Z (glD h e1) h2 h4 .nil ia ha (cM h) he O) (sR hp h1 fun _ _ _ q=>q)
theorem sS{c:Nat}{pn:Str×η Str}(Z:X.K=G.K)(hp:G.ct[c]?=ς pn)(h:aQ sc pn.1=θ)(F:OkI X.prog X.w X.K X.mg X.base pn.1 k ps (spZ G n g))(W:Room (k+1) X.A)(e1:bp X sc):GE G X (.Call (.Name pn.1 p) [] [] cpos) (eMk c n g aNl):=by obtain⟨C,f,fd,h1,h2,O,h4,U⟩:=F.ex;rw[Z]at h1;exact PE.mono (rG O U W (glD h e1) h2 h4 .nil ia (cM h)) (sR hp h1 fun _ _ _ q=>kl q)
end
end
def CV.kp:CV->Bool
 |.own ξ _=>ξ
 |_=>θ
section
variable{G:Gx}{Φ:Fr0}{F H F' H' F1 H1:Hp}{ρ ρ' ρ1:Nat->J4}{n:Nat}{δ:Sl}{σ:af}{ch ch' ch1 ch2:CH}{c:CV}{v:V}{Q:VK}{d:Dt}{t t':T}{i:Nat}{a:J4}
theorem RelW.there(h:RelW G F H ρ n t v):∃a o,v=.ref a/\H a=ς o/\NT o:=by
 obtain⟨x,rfl,O,U,_⟩:=h;cases t<;>first|(cases O;done)|skip
 all_goals (obtain⟨b,vs,e,rfl,h1,_⟩:=U;exact⟨_,_,rfl,h1,by intro _ z;cases z⟩)
theorem Ge.put(W:Ge G Φ δ ch σ F H ρ)(ad:Adv G F H ρ ch F' H' ρ' ch')(r:RelC G F' H' ρ' ch'.length c v)(hn:yW H c v)(hk:c.kp=θ)(i:Nat):Ge G Φ (δ.set i (ς c)) ch' (σ.set i (ς v)) F' H' ρ':=by
 have en:=W.adv ad;have hl:=en.len
 have U:∀(j:Nat)(b:Bool)(u:T)(x:J4),δ[j]?=ς (ς (.own b u))->σ[j]?=ς (ς (.ref x))->∃o,H x=ς o:=fun j b u x h1 h2=>by
  obtain⟨w,e1,e2⟩:=W.has j _ h1;obtain⟨y,o,rfl,Z,_⟩:=RelW.there e2;rw[h2]at e1;cases e1
  exact⟨o,Z⟩
 refine⟨en.ad,by simp[hl],fun j c' h=>?_,fun j u x h h'=>?_,fun j k u w b x hjk h1 h2 h3 h4=>?_⟩
 .rcases aJ h with ⟨rfl,e⟩|⟨O,h⟩
  .cases e;refine⟨v,?_,r⟩;have hi:i<δ.length:=by have:=ao h;simpa using this
   rw[qe5 Θ]
  .obtain⟨w,e1,e2⟩:=en.has j c' h;exact⟨w,by rw[gN O];exact e1,e2⟩
 .rcases aJ h with ⟨rfl,e⟩|⟨O,h⟩
  .cases e;rcases aJ h' with ⟨_,e'⟩|⟨z,_⟩
   .cases e';exact W.ad.hs x (hn u rfl x rfl)
   .exact absurd rfl z
  .rw[gN O]at h';exact en.nw j u x h h'
 .rcases aJ h1 with ⟨rfl,e⟩|⟨O,h1'⟩
  .cases e;rcases aJ h2 with ⟨z,_⟩|⟨_,h2⟩
   .exact hjk z
   .rw[gN hjk]at h4;rcases aJ h3 with ⟨_,e'⟩|⟨z,_⟩
    .cases e';obtain⟨o,Z⟩:=U k b w x h2 h4;rw[hn u rfl x rfl]at Z;cases Z
    .exact absurd rfl z
  .rw[gN O]at h3;rcases aJ h2 with ⟨rfl,e⟩|⟨hne2,h2⟩
   .cases e;rcases aJ h4 with ⟨_,e'⟩|⟨z,_⟩
    .cases e';cases b with
     |false=>cases hk
     |true=>obtain⟨o,Z⟩:=U j θ u x h1' h3;rw[hn w rfl x rfl]at Z;cases Z
    .exact absurd rfl z
   .rw[gN hne2]at h4;exact en.dis j k u w b x hjk h1' h2 h3 h4
theorem Ge.poke(en:Ge G Φ δ ch σ F H ρ){o:HO}(h:δ[i]?=ς (ς (.own θ t)))(Z:σ[i]?=ς (ς (.ref a)))(ht:t'.own=θ)(ho:Own G.K F (upd H a o) t' (.ref a) (· = a)):Ge G Φ (δ.set i (ς (.own θ t'))) ch σ F (upd H a o) ρ:=by
 obtain⟨w,W,e2⟩:=en.has i _ h;rw[Z]at W;cases W
 obtain⟨a',e,_,_,hF,hp⟩:=id e2;cases e;have hΦ:=en.nw i t a h Z;have adv:Adv G F H ρ ch F (upd H a o) ρ ch->True:=fun _=>trivial
 have fh:Same F (upd H a o):=fun b x e=>by rw[ai fun q=>by rw[q,hF]at e;cases e];exact en.gh.fh b x e
 have gh:Gh G F (upd H a o) ρ ch:=⟨fh,en.gh.inj,en.gh.out,fun j x hx=>(en.gh.ok j x hx).mono (Same.refl _) (fun _ _=>rfl) (nL _) fun y hy=>by rw[ai (hp j (ao hx))];exact hy⟩;refine⟨⟨gh,en.ad.len,en.ad.ext,en.ad.fr,fun b x h1 h2=>?_,en.ad.old,en.ad.nw,fun b h=>?_⟩,by simp[en.len],fun j c h1=>?_,fun j u x h1 h2=>?_,fun j k u w b x O h1 h2 h3 h4=>?_⟩
 .rw[ai fun q=>by rw[q,hΦ]at h1;cases h1];exact en.ad.prot b x h1 h2
 .by_cases q:b=a
  .subst q;rw[ah]at h;cases h
  .rw[ai q]at h;exact en.ad.hs b h
 .rcases aJ h1 with ⟨rfl,e⟩|⟨U,h1⟩
  .cases e;exact⟨.ref a,Z,a,rfl,ht,ho,hF,hp⟩
  .obtain⟨w,W,e3⟩:=en.has j c h1;refine⟨w,W,?_⟩;cases c with
   |own b u=>
    obtain⟨x,e,hu,hw,r1,r2⟩:=id e3;subst e;have hxa:x≠a:=fun z=>by subst z;exact en.dis i j t u b x U h h1 Z W
    exact⟨x,rfl,hu,Own.step (Same.refl _) (fun y o e h=>by cases e;rw[ai hxa];exact h) hw,r1,r2⟩
   |_=>exact e3
 .rcases aJ h1 with ⟨rfl,e⟩|⟨U,h1⟩
  .rw[Z]at h2;cases h2;exact hΦ
  .exact en.nw j u x h1 h2
 .rcases aJ h1 with ⟨rfl,e⟩|⟨U,h1⟩
  .rcases aJ h2 with ⟨z,_⟩|⟨_,h2⟩
   .exact O z
   .exact en.dis i k t w b x O h h2 h3 h4
  .rcases aJ h2 with ⟨rfl,e⟩|⟨_,h2⟩
   .exact en.dis j i u t θ x O h1 h h3 h4
   .exact en.dis j k u w b x O h1 h2 h3 h4
theorem Ge.frz(en:Ge G Φ δ ch σ F H ρ)(h:δ[i]?=ς (ς (.own θ t)))(hd:t.d=ς d):∃F',Ge G Φ (δ.set i (ς (.g d))) ch σ F' H ρ:=by
 obtain⟨w,e1,e2⟩:=en.has i _ h;obtain⟨a,rfl,ht,ho,hF,hp⟩:=id e2;have hΦ:=en.nw i t a h e1;have W:Same F (j7 F H (· = a)):=j8 fun b z=>by cases z;exact hF
 have O:∀b,b≠a->j7 F H (· = a) b=F b:=fun b hb=>eI hb
 have gh:Gh G (j7 F H (· = a)) H ρ ch:=⟨n9 en.gh.fh,en.gh.inj,fun j x Z hl=>by rw[O _ (hp j (ao Z))];exact en.gh.out j x Z hl,fun j x Z=>(en.gh.ok j x Z).mono W (fun _ _=>rfl) (nL _) fun _ h=>h⟩;refine⟨_,⟨gh,en.ad.len,en.ad.ext,en.ad.fr,en.ad.prot,en.ad.old.trans W,fun b o z=>?_,en.ad.hs⟩,by simp[en.len],fun j c h1=>?_,fun j u x h1 h2=>?_,fun j k u w b x hjk h1 h2 h3 h4=>?_⟩
 .by_cases hb:b=a
  .subst hb;exact .inr (.inl hΦ)
  .rw[O b hb]at z;exact en.ad.nw b o z
 .rcases aJ h1 with ⟨rfl,e⟩|⟨U,h1⟩
  .cases e;exact⟨_,e1,Own.freeze (fun b z=>by cases z;exact hF) ho hd⟩
  .obtain⟨w,q1,q2⟩:=en.has j c h1;refine⟨w,q1,?_⟩;cases c with
   |own b u=>
    obtain⟨x,e,hu,hw,r1,r2⟩:=id q2;subst e;have hxa:x≠a:=fun z=>by subst z;exact en.dis i j t u b x U h h1 e1 q1
    exact⟨x,rfl,hu,Own.step W (fun _ _ _ h=>h) hw,by rw[O x hxa];exact r1,r2⟩
   |g d=>exact Rep.same W q2
   |ref k=>exact q2
   |fn x F0=>exact⟨q2.1,q2.2.trans W⟩
 .rcases aJ h1 with ⟨rfl,e⟩|⟨U,h1⟩
  .cases e
  .exact en.nw j u x h1 h2
 .rcases aJ h1 with ⟨rfl,e⟩|⟨U,h1⟩
  .cases e
  .rcases aJ h2 with ⟨rfl,e⟩|⟨_,h2⟩
   .cases e
   .exact en.dis j k u w b x hjk h1 h2 h3 h4
end
inductive Og where
 |nx (δ:Sl) (ch:CH)|rt (c:CV) (ch:CH)|bk (δ:Sl) (ch:CH)|ct (δ:Sl) (ch:CH)
def PostZ(G:Gx)(Φ:Fr0)(D:Ends):Og->Prop
 |.nx δ ch=>∀ σ F H ρ,Ge G Φ δ ch σ F H ρ->D.nx σ H
 |.bk δ ch=>∀ σ F H ρ,Ge G Φ δ ch σ F H ρ->D.bk σ H
 |.ct δ ch=>∀ σ F H ρ,Ge G Φ δ ch σ F H ρ->D.ct σ H
 |.rt c ch=>∀v F H ρ,Adv G Φ.F Φ.H Φ.ρ Φ.ch F H ρ ch->RelS G F ρ ch.length c v->D.rt v H
abbrev Fs:=Sl->CH->ζ Og
def tZ(G:Gx)(g:Fs):TS:=fun D σ H=>∃ Φ δ ch F ρ o,Ge G Φ δ ch σ F H ρ/\g δ ch=ς o/\PostZ G Φ D o
def GS1(G:Gx)(X:Cx)(st:Stmt)(g:Fs):Prop:=PSBq X st (tZ G g)
def GS(G:Gx)(X:Cx)(ss:η Stmt)(g:Fs):Prop:=PSs X ss (tZ G g)
variable{sc:J8}{N:η Str}{x:Str}
section
variable{G:Gx}{X:Cx}{st:Stmt}{rest a b body:η Stmt}{g g1 g2:Fs}{e c o tg iter:J6}{es:η J6}{pos pos' apos cpos:Pos}{f fa fe fk:Fg}{tc:FM Bool}{i:Nat}
def ar:Fs:=fun δ ch=>ς (.nx δ ch)
def aj(g1 g2:Fs):Fs:=fun δ ch=>(g1 δ ch).bind fun o=>match o with
 |.nx δ' ch'=>g2 δ' ch'
 |o=>ς o
theorem Bw:GS G X [] ar:=PSs.mono vG fun D σ H ⟨Φ,δ,ch,F,ρ,o,en,O,k⟩=>by cases O;exact k σ F H ρ en
theorem wA(h1:GS1 G X st g1)(h2:GS G X rest g2):GS G X (st::rest) (aj g1 g2):=PSs.mono (qR h1 h2) fun D σ H ⟨Φ,δ,ch,F,ρ,o,en,hg,k⟩=>by
 obtain⟨W,h1,O⟩:=bS hg;refine⟨Φ,δ,ch,F,ρ,W,en,h1,?_⟩;cases W with
 |nx δ' ch'=>exact fun Z F' H' ρ' U=>⟨Φ,δ',ch',F',ρ',o,U,O,k⟩
 |bk _ _=>cases O;exact k
 |ct _ _=>cases O;exact k
 |rt _ _=>cases O;exact k
theorem FE:GS1 G X (.Pass pos) ar:=PSBq.mono vH fun D σ H ⟨Φ,δ,ch,F,ρ,o,en,O,k⟩=>by cases O;exact k σ F H ρ en
theorem gs_doc{y j}:GS1 G X (.Expr (.Constant (.str y) j pos) pos') ar:=PSBq.mono Ab fun D σ H ⟨Φ,δ,ch,F,ρ,o,en,O,k⟩=>by cases O;exact k σ F H ρ en
def sFz(i:Nat)(g:Fs):Fs:=fun δ ch=>match δ[i]? with
 |some (ς (.own θ t))=>t.d.bind fun d=>g (δ.set i (ς (.g d))) ch
 |_=>ψ
theorem By(h:GS G X rest g):GS G X rest (sFz i g):=PSs.mono h fun D σ H ⟨Φ,δ,ch,F,ρ,o,en,O,k⟩=>by
 unfold sFz at O;split at O<;>first|(cases O;done)|skip
 rename_i t ht;obtain⟨d,Z,W⟩:=bS O;obtain⟨F',U⟩:=en.frz ht Z;exact⟨Φ,_,ch,F',ρ,o,U,W,k⟩
def sDr(f:Fg):Fs:=fun δ ch=>(f δ ch).map fun p=>.nx δ p.2
theorem wC(h:GE G X e f)(hs:qi6 e ψ pos.line X.env=pure ξ):GS1 G X (.Expr e pos) (sDr f):=PSBq.mono (dB h hs) fun D σ H ⟨Φ,δ,ch,F,ρ,o,en,O,k⟩=>by obtain⟨p,h1,e⟩:=mS O;cases e;exact⟨Φ,δ,ch,F,ρ,p.1,p.2,en,h1,fun v F' H' ρ' a r=>k σ F' H' ρ' (en.adv a)⟩
def sRt(f:Fg):Fs:=fun δ ch=>(f δ ch).bind fun p=>if p.1.sol then ς (.rt p.1 p.2)else ψ
theorem Bz(h:GE G X e f):GS1 G X (.Return (ς e) pos) (sRt f):=PSBq.mono (Ac h) fun D σ H ⟨Φ,δ,ch,F,ρ,o,en,W,k⟩=>by
 obtain⟨p,h1,O⟩:=bS W;split at O<;>cases O
 rename_i U;exact⟨Φ,δ,ch,F,ρ,p.1,p.2,en,h1,fun v F' H' ρ' a r=>k v F' H' ρ' (en.ad.trans a) (r.1.s U)⟩
def sRn:Fs:=fun _ ch=>ς (.rt (.g .non) ch)
theorem wD:GS1 G X (.Return ψ pos) sRn:=PSBq.mono vI fun D σ H ⟨Φ,δ,ch,F,ρ,o,en,O,k⟩=>by cases O;exact k .non F H ρ en.ad (by show Rep G.K F .non .non;simp only[Rep])
def sIf(c:FM Bool)(g1 g2:Fs):Fs:=fun δ ch=>(c δ ch).bind fun p=>if p.1 then g1 δ p.2 else g2 δ p.2
theorem D5(hc:GT G X c tc)(h1:GS G X a g1)(h2:GS G X b g2):GS1 G X (.If c a b pos) (sIf tc g1 g2):=PSBq.mono (DA hc h1 h2) fun D σ H ⟨Φ,δ,ch,F,ρ,o,en,U,k⟩=>by
 obtain⟨p,h1,O⟩:=bS U;refine⟨Φ,δ,ch,F,ρ,p.1,p.2,en,h1,fun b F' H' ρ' a r=>?_⟩;cases r;cases q:p.1 with
 |true=>rw[q]at O;exact⟨Φ,δ,p.2,F',ρ',o,en.adv a,O,k⟩
 |false=>rw[q]at O;exact⟨Φ,δ,p.2,F',ρ',o,en.adv a,O,k⟩
def aO(i:Nat)(f:Fg):Fs:=fun δ ch=>(f δ ch).bind fun p=>if p.1.kp then ς (.nx (δ.set i (ς p.1)) p.2)else ψ
theorem sT(h:cm sc N i x=θ)(hl:iQ sc x=θ)(Z:N.Nodup)(he:GE G X e f)(e1:bp X sc)(e2:X.N=N)(W:X.fn x=θ∨X.env.scope.names.lookup x=ς .local)
 (hs:qi6 e (ς (.Name x pos')) pos.line X.env=pure ξ):GS1 G X (.Assign [.Name x pos'] e pos) (aO i f):=PSBq.mono (we h hl Z he e1 e2 W hs) fun D σ H ⟨Φ,δ,ch,F,ρ,o,en,hg,k⟩=>by
 obtain⟨p,h1,O⟩:=bS hg;split at O<;>cases O
 rename_i U;exact⟨Φ,δ,ch,F,ρ,p.1,p.2,en,h1,fun v F' H' ρ' a r=>k _ F' H' ρ' (en.put a r.1 r.2 U i)⟩
end
section
variable{prog:qe7}{w:J5}{A:ql3}{E:Value->qb0->Prop}{s:qb0}{I t:J4}{j:Nat}{vs:Array Value}
theorem m5{y:Value}(hI:s.heap.IsTupleIter I t j)(hv:s.heap.IsTuple t vs)(hy:vs[j]?=ς y)
 (q:∀h',h'.IsTupleIter I t (j+1)->qg0 I s.heap h'->Q y {s with heap:=h'}):wpAny (model prog w) A (qm2 (.ref I)) Q E s:=by
 obtain⟨oi,U,W,O⟩:=id hI;obtain⟨ot,Z,_,nt,hdt⟩:=hv;unfold qm2;refine wB (qj5 (name:=qa2 "__next__") hI.typeIs qk7 (qj3 qk7 hI.typeIs qu7 ?_ (qt9 _)));show wpAny _ _ (field (.ref I) 0 >>= _) _ _ s;refine wB (qj2 U O (x:=.ref t) rfl ?_);show wpAny _ _ (if(qc1 t==qg2)=θ then _ else _) _ _ s;rw[if_neg (show ¬ (qc1 t==qg2)=θ by exact qb7)];show wpAny _ _ (field (.ref I) 1 >>= _) _ _ s;refine wB (qj2 U O (x:=.int j 0) rfl ?_);show wpAny _ _ (seqItems? (.ref t) >>= _) _ _ s;refine wB (qx2 Z hdt ?_);simp only[qi4,hy];refine qk0 (zd2 U O Ξ (qa6 ⟨y,rfl,qa6 (q _ ?_ (qq2 ..))⟩));exact⟨_,qf6 _ U (Obj.isFreed_of_fields (Obj.data_mapFields O _)),(Obj.cls_mapFields ..).trans W,by rw[Obj.data_mapFields O];simp[qv4]⟩
theorem qh(hh:A.handled=ψ)(hI:s.heap.IsTupleIter I t j)(hv:s.heap.IsTuple t vs)(hy:vs[j]?=ψ)
 (q:∀h' e,Heap.ExtBut I s.heap h'->(∃o,h'.get? e=ς o/\o.cls=.type "StopIteration")->E (.ref e) {s with heap:=h'}):wpAny (model prog w) A (qm2 (.ref I)) Q E s:=by
 obtain⟨oi,U,hci,O⟩:=id hI;obtain⟨ot,W,_,nt,Z⟩:=hv;unfold qm2;refine wB (qj5 (name:=qa2 "__next__") hI.typeIs qk7 (qj3 qk7 hI.typeIs qu7 ?_ (qt9 _)));show wpAny _ _ (field (.ref I) 0 >>= _) _ _ s;refine wB (qj2 U O (x:=.ref t) rfl ?_);show wpAny _ _ (if(qc1 t==qg2)=θ then _ else _) _ _ s;rw[if_neg (show ¬ (qc1 t==qg2)=θ by exact qb7)];show wpAny _ _ (field (.ref I) 1 >>= _) _ _ s;refine wB (qj2 U O (x:=.int j 0) rfl ?_);show wpAny _ _ (seqItems? (.ref t) >>= _) _ _ s;refine wB (qx2 W Z ?_);simp only[qi4,hy];refine qk0 (wpAny_rule (qk0 (zd2 U O Ξ ?_)));show wpAny _ _ (newExc (.type "StopIteration") [] >>= _) _ _ _;refine wB ?_;simp only[newExc,newTuple];refine wB (qf2 ?_ (by first|size_fits|decide));refine qk0 (m:=qx3 _ _) (wpAny_of_eq (a:=qg2) (by first|rfl|(simp only[qx3]<;>rfl)) ?_);refine qf2 ?_ (by first|size_fits|decide);simp only[raiseNew];refine wB (wpAny_handled ?_)
 first|rw[hh]|rw[show A.in1.handled=ψ by exact hh]
 refine wB (qa6 (wpAny_throw ?_));exact q _ _ (((qq2 ..).extBut.push _).push _) ⟨_,qb9 _ rfl,rfl⟩
end
variable{prog:qe7}
theorem lx{w:J5}(hh:A.handled=ψ)(I t:J4)(O:t≠I)(vs:Array Value):Draws prog w A I [I,t] vs.size (fun i v=>vs[i]?=ς v) (fun i h=>h.IsTupleIter I t i/\h.IsTuple t vs) where
 live:=fun _ _ st=>let ⟨o,ho,_⟩:=st.1;⟨o,ho⟩
 frame:=fun _ _ _ st U=>⟨let ⟨o,ho,r⟩:=st.1;⟨o,U I Ξ o ho,r⟩,let ⟨o,ho,r⟩:=st.2;⟨o,U t Ξ o ho,r⟩⟩
 item:=fun i s Q E hi st Z=>m5 st.1 st.2 (y:=vs[i]) (by simp[hi]) fun h' a b=>Z _ h' s.toks (by simp[hi]) ⟨a,let ⟨o,ho,r⟩:=st.2;⟨o,b.extBut _ _ O ho,r⟩⟩ b
 done:=fun s Q E st W=>qh hh st.1 st.2 Ξ W
def SqB(b:Bool)(K:xA9)(H:Hp)(a:J4)(xs:η V):Prop:=match b with
 |true=>SqL K H a xs
 |false=>SqT K H a xs
def ItB(b:Bool)(h:Heap)(I a:J4)(i:Nat):Prop:=match b with
 |true=>h.IsListIter I a i
 |false=>h.IsTupleIter I a i
def CoB(b:Bool)(h:Heap)(a:J4)(vs:Array Value):Prop:=match b with
 |true=>h.IsList a vs
 |false=>h.IsTuple a vs
variable{h:Heap}
theorem ItB.obj{I:J4}(x:ItB b h I a i):∃o,h.get? I=ς o/\(o.cls=.type "list_iterator"∨o.cls=.type "tuple_iterator")/\∀v,o.data≠.cell v:=by
 cases b with
 |true=>obtain⟨o,e,c,d⟩:=x;exact⟨o,e,.inl c,fun v z=>by rw[d]at z;cases z⟩
 |false=>obtain⟨o,e,c,d⟩:=x;exact⟨o,e,.inr c,fun v z=>by rw[d]at z;cases z⟩
variable{h':Heap}
theorem ItB.at{I:J4}(x:ItB b h I a i)(k:∀o,h.get? I=ς o->h'.get? I=ς o):ItB b h' I a i:=by
 cases b with
 |true=>obtain⟨o,e,r⟩:=x;exact⟨o,k o e,r⟩
 |false=>obtain⟨o,e,r⟩:=x;exact⟨o,k o e,r⟩
theorem CoB.obj{vs:Array Value}(x:CoB b h a vs):∃o,h.get? a=ς o/\(o.cls=.type "list"∨o.cls=.type "tuple"):=by
 cases b with
 |true=>obtain⟨o,e,c,_⟩:=x;exact⟨o,e,.inl c⟩
 |false=>obtain⟨o,e,c,_⟩:=x;exact⟨o,e,.inr c⟩
theorem y9{x y:String}(h:x≠y):qo7 x≠qo7 y:=fun z=>h (by cases z;rfl)
theorem sU{c:Bool}{I l:J4}{vs:Array Value}(x:ItB b h I a i)(y:CoB c h l vs):l≠I:=by obtain⟨o,W,U,_⟩:=x.obj;obtain⟨o',e2,O⟩:=y.obj;rintro rfl;rw[W]at e2;cases e2;rcases U with U|U<;>rcases O with O|O<;>rw[U]at O<;>exact absurd O (y9 Ω)
variable{t':Nat}{fp:η J4}
section
variable{X:Cx}{J0:η (J4×Obj)}{σ:af}{H:Hp}{s:qb0}{a I:J4}{xs:η V}{b:Bool}
theorem Inv.seqB(J:Inv X J0 σ H s)(h:SqB b X.K H a xs):∃J3:η Value,Vals xs J3/\CoB b s.heap a J3.toArray:=by
 cases b with
 |true=>obtain⟨J3,r,p,_⟩:=J.list h;exact⟨J3,r,p.isList⟩
 |false=>obtain⟨J3,r,p,_⟩:=J.tuple h;exact⟨J3,r,p⟩
theorem Inv.seqB_inj{ys:η V}(J:Inv X J0 σ H s)(h:SqB b X.K H a xs)(h':SqB b X.K H a ys):xs=ys:=by
 cases b with
 |true=>exact J.list_inj h h'
 |false=>exact J.tuple_inj h h'
theorem sV{w:J5}(U:A.handled=ψ)(O:a≠I)(vs:Array Value):Draws prog w A I [I,a] vs.size (fun i v=>vs[i]?=ς v) (fun i h=>ItB b h I a i/\CoB b h a vs):=by
 cases b with
 |true=>exact Draws.list U I a O vs
 |false=>exact lx U I a O vs
theorem Inv.turnedL(J:Inv X J0 σ H s)(k:∀b o,b∉fp->s.heap.get? b=ς o->h'.get? b=ς o)(O:∀b∈fp,dS X J0 H b):Inv X J0 σ H {s with heap:=h',toks:=t'}:=by
 have U:∀b u,H b=ς u->b∉fp:=fun b u e z=>by rw[(O b z).1]at e;cases e
 refine J.step (g':=s.gens) (d':=s.drawn) (ch:=fp) (fun b hb=>?_) (fun b o _ _ hc e _=>k b o hc e) (fun b o _ _ hc e _=>⟨o.slots,k b o hc e⟩) (fun _ _ _ _ n=>n)
  (fun b o hc e=>⟨o,k b o hc e⟩) (fun _ _ e=>e) (fun _ _ _ e=>e) (fun b ps e=>⟨#[],by rw[e];simp⟩) (fun _ _ e=>e) (fun m W=>?_) (fun b u e=>?_) J.bare
 .exact⟨(O b hb).2.2.2.1,(O b hb).2.1,(O b hb).2.2.2.2.1,(O b hb).2.2.2.2.2⟩
 .obtain⟨o,es,ep,Z,r⟩:=W;exact⟨o,es,ep,k _ o (fun z=>(O _ z).2.1 rfl) Z,r⟩
 .refine(J.hok b u e).stay (fun c v hc q=>k c v ?_ q) (fun _ q=>q) (fun _ _ q=>q) fun _ _ _ q=>q
  rcases hc with z|z
  .rw[z];exact U b u e
  .exact U c _ z
end
section
variable{X:Cx}{J0:η (J4×Obj)}{σ:af}{H:Hp}{s:qb0}
theorem Inv.turnedT {t:J4} (J:Inv X J0 σ H s) (k:∀ b o,b∉fp->s.heap.get? b=ς o->h'.get? b=ς o) (U:∀ b∈fp,dS X J0 H b) (ht:s.heap.objs.size<=t) (new:ObjOk X.prog X.w (upd H t u) h' t u) :
  Inv X J0 σ (upd H t u) {s with heap:=h',toks:=t'}:=by
 have W:∀b u,H b=ς u->b∉fp:=fun b u e z=>by rw[(U b z).1]at e;cases e
 have hn:H t=ψ:=J.hok.fresh ht;have O:∀b v,H b=ς v->b≠t:=fun b v e=>aK e hn
 have Z:∀b o,s.heap.get? b=ς o->b≠t:=fun b o e z=>by subst z;exact absurd (qb5 e) (qn7.mpr ht)
 refine J.step (g':=s.gens) (d':=s.drawn) (ch:=fp) (fun b hb=>?_) (fun b o _ _ hc e _=>k b o hc e) (fun b o _ _ hc e _=>⟨o.slots,k b o hc e⟩) (fun b o _ e n=>by rw[ai (Z b o e)];exact n)
  (fun b o hc e=>⟨o,k b o hc e⟩) (fun b xs e=>by rw[ai (O b _ e)];exact e) (fun b o v e=>by rw[ai (O b _ e)];exact e) (fun b ps e=>⟨#[],by rw[ai (O b _ e),e];simp⟩) (fun b xs e=>by rw[ai (O b _ e)];exact e) (fun m hm=>?_) (fun b v e=>?_) J.bare
 .exact⟨(U b hb).2.2.2.1,(U b hb).2.1,(U b hb).2.2.2.2.1,(U b hb).2.2.2.2.2⟩
 .obtain⟨o,es,ep,ho,r⟩:=hm;exact⟨o,es,ep,k _ o (fun z=>(U _ z).2.1 rfl) ho,r⟩
 .by_cases hb:b=t
  .subst hb;rw[ah]at e;cases e;exact new
  .rw[ai hb]at e;refine(J.hok b v e).stay (fun c ob hc q=>k c ob ?_ q) (fun c q=>by rw[ai (O c _ q)];exact q) (fun c ys q=>by rw[ai (O c _ q)];exact q) fun c ob ys q=>by rw[ai (O c _ q)];exact q
   rcases hc with z|z
   .rw[z];exact W b v e
   .exact W c _ z
end
def Ite(b:Bool)(K:xA9)(a:J4):It:=⟨fun i H=>∃xs x,SqB b K H a xs/\xs[i]?=ς x,fun i H x H'=>∃t v,H t=ψ/\x=.ref t/\H'=upd H t (.t [.int i,v])/\∀xs,SqB b K H a xs->xs[i]?=ς v,fun i H=>∃xs,SqB b K H a xs/\xs.length=i⟩
variable{P:qe7}{pos:Pos}
theorem qi {w:J5} {elts:η J6} (b:Bool) (a e I:J4) (hne:e≠I) :
  Turn P w K (.Tuple elts n pos) (Ite b K a) [e,I] e (fun i h=>(∃old,IsEnum h e I i old)/\ItB b h I a i) where
 mem:=by simp
 obj:=fun i h st c hc=>by
  obtain⟨⟨old,U⟩,W⟩:=st;simp only[qc4,qp9,or_false]at hc;rcases hc with rfl|rfl
  .exact⟨_,U,fun v z=>nomatch z⟩
  .obtain⟨o,q,_,d⟩:=W.obj;exact⟨o,q,d⟩
 keep:=fun i h h' st k=>by obtain⟨⟨old,U⟩,W⟩:=st;exact⟨⟨old,k e Ξ _ U⟩,W.at fun o q=>k I Ξ o q⟩
 item:=by
  intro X hP hw hK hc i J0 s σ H E J hf st hg;subst hP hw hK;obtain⟨⟨old,U⟩,W⟩:=st;obtain⟨xs,x,hq,hx⟩:=hg;obtain⟨J3,rv,co⟩:=J.seqB hq;obtain⟨u,hu,ru⟩:=rv.get hx;have hi:i<J3.toArray.size:=by simpa using (gX hu).1
  have hae:e∉[I,a]:=by simp only[qc4,qp9,or_false,not_or];refine⟨hne,fun z=>?_⟩;obtain⟨o,q,c⟩:=co.obj;rw[<- z,U]at q;cases q;rcases c with c|c<;>exact absurd c (y9 Ω)
  refine wpAny_pyNext_enum_itemD (sV (A:=X.A.in1) (b:=b) (I:=I) (a:=a) (show X.A.in1.handled=ψ from J.ok.hd hc) (sU W co) J3.toArray) U ⟨W,co⟩ hi hne hae fun y h1 tk hy ho hs1 hT hsz hk=>⟨_,rfl,?_⟩
  have ey:y=u:=by rw[show J3.toArray[i]?=J3[i]? by simp,hu]at hy;exact(qc9 hy).symm
  subst ey;refine wpAny_letOwnedTupleGo_enum ho fun h2 he2 Z=>?_
  have kk:∀c o,c∉[e,I]->s.heap.get? c=ς o->h2.get? c=ς o:=fun c o O q=>by simp only[qc4,qp9,or_false,not_or]at O;exact(Z.2 c O.1).trans (hk c o O.1 O.2 q)
  have lt:∀c∈[e,I],c<s.heap.objs.size:=fun c O=>by
   simp only[qc4,qp9,or_false]at O;rcases O with rfl|rfl
   .exact qb5 U
   .obtain⟨o,q,_⟩:=W.obj;exact qb5 q
  -- first the records,then the pair
  have hT2:h2.get? s.heap.objs.size=ς {cls:=.type "tuple",data:=.seq #[.int i tk,y]}:=(Z.2 _ (fun z=>qm9 _ (z▸lt e Ξ))).trans hT
  have J2:Inv X J0 σ (upd H s.heap.objs.size (.t [.int i,x])) {s with heap:=h2,toks:=tk+1}:=by refine J.turnedT kk hf (nL _) ⟨by show 2<=qa9;decide,[.int i tk,y],.cons ⟨_,rfl⟩ (.cons ru .nil),?_⟩;exact .of hT2 rfl rfl rfl
  refine⟨.ref s.heap.objs.size,_,J2,rfl,⟨_,x,J.hok.fresh (qu2 _),rfl,rfl,fun ys hy=>by rw[J.seqB_inj hy hq];exact hx⟩,⟨⟨_,by simpa using he2⟩,hs1.1.at fun o q=>(Z.2 I (qk5 hne)).trans q⟩,fun c O=>?_⟩;rw[ai (qc2 (lt c O))];exact(hf c O).1
 done:=by
  intro X hP hw hK hc i J0 s σ H E J hf st hg;subst hP hw hK;obtain⟨⟨old,U⟩,W⟩:=st;obtain⟨xs,hq,hx⟩:=hg;obtain⟨J3,rv,co⟩:=J.seqB hq;have hi:i=J3.toArray.size:=by rw[<- hx];simpa using rv.length
  refine wpAny_pyNext_enum_endD (sV (A:=X.A.in1) (b:=b) (I:=I) (a:=a) (show X.A.in1.handled=ψ from J.ok.hd hc) (sU W co) J3.toArray) U (show ItB b s.heap I a J3.toArray.size/\CoB b s.heap a J3.toArray from⟨hi▸W,co⟩) fun h' eb=>⟨rfl,?_⟩
  exact J.turnedL (t':=s.toks) (fun c o O q=>eb c o (fun z=>O (by simp[z])) q) hf
 self:=fun A i s Q E st h=>by obtain⟨⟨old,U⟩,W⟩:=st;exact wpAny_pyIter_enum U h
theorem ly (t:J4) (vs:Array Value) (n:Nat) (dd:ζ J4) (sl:Array (ζ Value)) :
  Meets (qj1.«enumerate.__new__» ⟨[.type "enumerate",.ref t],[]⟩) (fun _ R s=>s.heap.get? t=ς {cls:=.type "tuple",dict:=dd,data:=.seq vs n,slots:=sl}∧
   R (.ok (.ret (.ref (s.heap.push {cls:=.type "tuple_iterator",data:=.fields #[.ref t,.int 0 0]}).objs.size)))
    {s with heap:=(s.heap.push {cls:=.type "tuple_iterator",data:=.fields #[.ref t,.int 0 0]}).push {cls:=.type "enumerate",data:=.fields #[.none,.bool ξ,.ref s.heap.objs.size,qv4 0,.none,.none]}}):=
 .of_wp fun prog w A R s h=>by
  obtain⟨hp,g,d,Z,os⟩:=s;obtain⟨O,h⟩:=h;have W:=sub_enumerate;have U:Heap.IsTuple (qb0.heap ⟨hp,g,d,Z,os⟩) t vs:=⟨_,O,rfl,n,rfl⟩;wp_walk using qq9 O;refine wpAny_stack_any fun st=>qa6 ?_
  split
  .rename_i c _ _ _ _ _;cases (c==qo7 "enumerate")<;>(wp_walk using qq9 O,qr3 U)<;>exact⟨_,rfl,h⟩
  . (wp_walk using qq9 O,qr3 U)<;>exact⟨_,rfl,h⟩
section
variable{prog:qe7}{w:J5}{A:ql3}{E:Value->qb0->Prop}{s:qb0}
theorem m6{t:J4}{vs:Array Value}(hT:s.heap.IsTuple t vs)
 (h:∀h',IsEnum h' (s.heap.objs.size+1) s.heap.objs.size 0 .none->h'.IsTupleIter s.heap.objs.size t 0->h'.objs.size=s.heap.objs.size+2→
 (∀c u,s.heap.get? c=ς u->h'.get? c=ς u)->Q (.ref (s.heap.objs.size+1)) {s with heap:=h'}) :
  wpAny (model prog w) A (call (.type "enumerate") [.ref t]) Q E s:=by
 obtain⟨⟨c,dct,dt,sl⟩,hl,hc,n,U⟩:=hT;have hc:c=.type "tuple":=hc;have U:dt=.seq vs n:=U;subst hc U;refine callType_new F.called_enumerate Ω (F.typeCall_enumerate_1 _) (F.newCall_enumerate_1 _) (fun obj=>F.args_object_init_2 obj _) F.entry_enumerate_new (ly t vs n dct sl) ⟨hl,?_⟩;have W:(s.heap.push {cls:=.type "tuple_iterator",data:=.fields #[.ref t,.int 0 0]}).objs.size=s.heap.objs.size+1:=qn6 ..;have Z:((s.heap.push {cls:=.type "tuple_iterator",data:=.fields #[.ref t,.int 0 0]}).push {cls:=.type "enumerate",data:=.fields #[.none,.bool ξ,.ref s.heap.objs.size,qv4 0,.none,.none]}).objs.size=s.heap.objs.size+2:=by rw[qn6,W]
 rw[W];have O:=qb9 (s.heap.push {cls:=.type "tuple_iterator",data:=.fields #[.ref t,.int 0 0]}) (o:={cls:=.type "enumerate",data:=.fields #[.none,.bool ξ,.ref s.heap.objs.size,qv4 0,.none,.none]}) rfl;rw[W]at O;exact⟨⟨_,O,rfl⟩,h _ O ⟨_,gP _ (qb9 _ rfl),rfl,rfl⟩ Z fun c u z=>gP _ (gP _ z)⟩
theorem m9{t:J4}{vs:Array Value}(O:CoB b s.heap t vs)
 (h:∀h',IsEnum h' (s.heap.objs.size+1) s.heap.objs.size 0 .none->ItB b h' s.heap.objs.size t 0->h'.objs.size=s.heap.objs.size+2→
 (∀c u,s.heap.get? c=ς u->h'.get? c=ς u)->Q (.ref (s.heap.objs.size+1)) {s with heap:=h'}) :
  wpAny (model prog w) A (call (.type "enumerate") [.ref t]) Q E s:=by
 cases b with
 |true=>exact call_enumerate_list O h
 |false=>exact m6 O h
end
section
variable{X:Cx}{x:J6}{p pos tpos:Pos}{sc:J8}{fs:De->ζ (η Dt)}{elts:η J6}{n:Nat}
def D6(K:xA9)(ta:TA):TI:=fun σ H R=>ta σ H fun vs H1=>∃b a xs,vs=[.ref a]/\SqB b K H1 a xs/\R (Ite b K a) H1
theorem wE {ta:TA} (h:aQ sc "enumerate"=θ) (Z:X.mg "enumerate"=ψ) (ha:PA X [x] ta) (e1:bp X sc:=by rfl) (hs:qb3 [x] X.env=[(ξ,eval x X.env)]:=by rfl) :
  PI X (.Tuple elts n tpos) (.Call (.Name "enumerate" p) [x] [] pos) (D6 X.K ta):=by
 intro J0 s σ H R I h';refine Call_ (gV I (glD h e1) Z jY (qo2 (thn (ha pos J0 s σ H _ I h') fun us s1 ⟨vs,H1,U,r1,q1⟩=>?_) hs rfl));obtain⟨b,a,xs,rfl,hq,q⟩:=q1;obtain⟨u,rfl,ru⟩:=cY r1;cases ru;obtain⟨J3,rv,co⟩:=U.seqB hq;refine m9 co fun h2 W hi hz hk=>wpAny_pyIter_enum W ?_
 have I2:Inv X J0 σ H1 {s1 with heap:=h2}:=U.kept (t':=s1.toks) hk;refine⟨s1.heap.objs.size+1,[s1.heap.objs.size+1,s1.heap.objs.size],_,_,H1,rfl,I2,qi b a _ _ (qi7 (qp7 _)),⟨⟨_,W⟩,hi⟩,fun c hc=>?_,q⟩
 have O:s1.heap.objs.size<=c:=by
  simp only[qc4,qp9,or_false]at hc;rcases hc with rfl|rfl
  .exact qi3 _
  .exact nL _
 exact U.fpOk O (U.hok.fresh O)
def cB(i:Nat):η Dt->η Dt
 |[]=>[]
 |d::r=>.t [.int i,d]::cB (i+1) r
theorem jp:∀(l:η Dt)(i:Nat),(cB i l).length=l.length
 |[],_=>rfl
 |_::r,i=>by simp[cB,jp r]
theorem jq:∀(l:η Dt)(i k:Nat),(cB i l)[k]?=l[k]?.map fun d=>.t [.int ((i+k:Nat):Int),d]
 |[],i,k=>by simp[cB]
 |d::r,i,0=>by simp[cB]
 |d::r,i,k+1=>by simp[cB,jq r,Nat.add_assoc,zb7 1]
theorem sW{F:Hp}{d e:Dt}{v w:V}{t:J4}(h:F t=ς (.t [v,w]))(r:Rep K F d v)(O:Rep K F e w):Rep K F (.t [d,e]) (.ref t):=by simp only[Rep,Reps];exact⟨t,_,rfl,SqT.of h,v,[w],rfl,r,w,[],rfl,O,rfl⟩
theorem jr{F:Hp}(r:Reps K F l xs):sw K F (Ite b K a) (cB 0 l) (fun H=>SqB b K H a xs):=fun i H F2 O U ff=>by have hl:=r.length;rw[jp];refine⟨fun h=>⟨xs,xs[i],O,by simp[show i<xs.length by lia]⟩,fun h=>⟨xs,O,Θ⟩,fun x H' hi hy=>?_⟩;obtain⟨t,v,W,rfl,rfl,hv⟩:=hy;have Z:=hv xs O;obtain⟨d,hd,rd⟩:=r.same_get Z;refine⟨_,upd F2 t (.t [.int i,v]),?_,Step.new U W,sW ah br ((rd.same ff).same (Same.upd (U.free W)))⟩;rw[jq,hd];simp
end
section
variable{X:Cx}{elt tg iter:J6}{ifs:η J6}{scope:J8}{pos:Pos}{M:η Str}{src:η (ζ Nat)}{wi:TI}{g:TG}{tt:TT}{te:TE}
theorem wF{y:Str}{py spos:Pos}(hN:X.N.Nodup)(W:X.N[i]?=ς y)(hx:Loc X.env.scope y)(hf:X.fn y=θ∨X.env.scope.names.lookup y=ς .local)
 (S:CmpScope X.N X.env.scope scope M src) (hc:X.calm=θ) (hi:PI X tg iter wi) (hg:M.Nodup->∀C s H ex,PG (cxC X M scope C s H ex) tg g) (ht:∀C s H ex,PTs (cxC X M scope C s H ex) ifs tt)
 (he:∀C s H ex,PE (cxC X M scope C s H ex) elt te) (hs:∀x,qh0 iter X.env x=pure x)
 (hsw:qi6 (.ListComp elt [⟨tg,iter,ifs,0⟩] scope pos) (ς (.Name y py)) spos.line X.env=pure θ) :
  PSBq X (.Assign [.Name y py] (.ListComp elt [⟨tg,iter,ifs,0⟩] scope pos) spos) (vK (ji src wi g tt te) (eu i)):=by
 intro J0 s σ H D I h;rw[exec_Assign_Name_used _ _ _ _ hsw];refine wB (zd9 (wB ?_));show wpAny _ X.A (do let _ <- ze6 (.ListComp elt [⟨tg,iter,ifs,0⟩] scope pos) scope X.env _ (newList []) ξ (eval iter X.env) (ς (qz3 (.Name y py) X.env))) _ _ s;refine wB (qn5 (jj (use:=ς (qz3 (.Name y py) X.env)) (QQ:=fun _ s'=>∃O H',Inv X J0 O H' s'/\D.nx O H') S hc hi hg ht he hs I h ?_) (fun _ s' hq=>qa6 (qa6 hq)) fun _ _ e=>e);intro Dd C H' s' m IA hC hn q;show wpAny _ X.A (qz3 (.Name y py) X.env (.ref Dd)) _ _ s';refine wpAny_assign_Name (iZ IA hN W hx (v:=.ref Dd) rfl (fun s2 I2 Z=>?_) hf);obtain⟨a,sb,ha⟩:=Z
 have ne:C≠a:=by
  rcases ha with rfl|ha
  .exact hC.2.1
  .exact qk5 (hC.2.2.2.2.1 y a ha)
 exact⟨m,hn.sameBut sb ne,fun h3 U=>⟨_,H',I2.but hC U,q⟩⟩
end
def BA(x:Str)(n:Int):Str:=if n<1 then Str.empty else if(n==1||x.length==0)=θ then x else⟨(qb1 n.toNat x.cps).foldl (· ++ ·) #[]⟩
def qj(O:Bool):Dt->Dt->ζ T
 |.bl a,.bl b=>ς (.f (.bl (if O then !decide (a=b)else decide (a=b))))
 |_,_=>ψ
section
variable{X:Cx}
theorem BB:OpR X (qf0 .Is) (fun x y H Q=>∃a b,x=.bl a/\y=.bl b/\Q (.bl (decide (a=b))) H):=by intro J0 s σ H x y v u Q I U O h;obtain⟨a,b,rfl,rfl,q⟩:=h;cases U;cases O;refine wpAny_is_plain rfl (aw I q ?_);cases a<;>cases b<;>rfl
theorem qk:OpR X (qf0 .IsNot) (fun x y H Q=>∃a b,x=.bl a/\y=.bl b/\Q (.bl (!decide (a=b))) H):=by intro J0 s σ H x y v u Q I U O h;obtain⟨a,b,rfl,rfl,q⟩:=h;cases U;cases O;refine wpAny_isNot_plain rfl (aw I q ?_);cases a<;>cases b<;>rfl
theorem D7:R2D K (fun x y H Q=>∃a b,x=.bl a/\y=.bl b/\Q (.bl (decide (a=b))) H) (qj ξ):=by
 intro F H x y vx vy Q t U Z W O k;unfold qj at O;split at O<;>first|(cases O;done)|skip
 cases O;cases Z;cases W;exact⟨_,_,rfl,rfl,k.bl U⟩
theorem sX:R2D K (fun x y H Q=>∃a b,x=.bl a/\y=.bl b/\Q (.bl (!decide (a=b))) H) (qj θ):=by
 intro F H x y vx vy Q t U Z W O k;unfold qj at O;split at O<;>first|(cases O;done)|skip
 cases O;cases Z;cases W;exact⟨_,_,rfl,rfl,k.bl U⟩
def lz(K:xA9):R2:=fun x y H Q=>∃a b ys,x=.ref a/\y=.ref b/\SqT K H a []/\SqT K H b ys/\Q (.ref b) H
theorem wG:OpR X (qh4 .Add) (lz X.K):=by
 intro J0 s σ H x y v u Q I rx ry h;obtain⟨a,b,ys,rfl,rfl,ha,hb,q⟩:=h;cases rx;cases ry;obtain⟨J3,r1,p1,_⟩:=I.tuple ha;obtain⟨Z,r2,p2,_⟩:=I.tuple hb;cases r1;obtain⟨⟨cls,dd,data,sl⟩,ho,hc,n,hd⟩:=id p1;obtain⟨⟨cls2,dd2,data2,sl2⟩,O,U,n2,W⟩:=id p2;simp only at hc hd U W;subst hc hd U W
 exact qv8 ⟨_,ho,rfl⟩ ⟨_,O,rfl⟩ qt1 qy8 PySem.F.slot_tuple_add PySem.F.entry_tuple_add (PySem.F.args_tuple_add_2 _ _)
  (tuple_addW0 a b #[] Z.toArray n n2 dd dd2 sl sl2 rfl) ⟨ho,O,⟨.ref b,H,I,rfl,q⟩⟩
def sY:Dt->Dt->ζ T
 |.t [],.t m=>ς (.f (.t m))
 |.t (d::l),.t (e::m)=>cW (.t (d::l)) (.t (e::m))
 |_,_=>ψ
theorem wH:OpR X (qh4 .Add) (fun x y H Q=>lz X.K x y H Q∨jm X.K x y H Q):=OpR.or wG oq
theorem BC:R2D K (fun x y H Q=>lz K x y H Q∨jm K x y H Q) sY:=by
 intro F H x y vx vy Q t U rx Z O k;unfold sY at O;split at O<;>first|(cases O;done)|skip
 .rename_i m;cases O;obtain⟨a,vs,rfl,h1,h2⟩:=rx;obtain⟨b,ws,rfl,W,h4⟩:=Z;simp only[Reps]at h2;subst h2;refine .inl ⟨a,b,ws,rfl,rfl,U.tup h1,U.tup W,k.leaf.here U ?_⟩;simp only[Rep];exact⟨b,ws,rfl,W,h4⟩
 .exact .inr (yT F H _ _ vx vy Q t U rx Z O k)
end
def sZ:η Dt->ζ T
 |[.int i,.int j]=>ς (.f (.int (if j<i then j else i)))
 |_=>ψ
def rMin:η V->Hp->VK->Prop:=fun xs H Q=>∃i j,xs=[.int i,.int j]/\Q (.int (if j<i then j else i)) H
theorem ql(hc:X.calm=θ):CallR X (.builtin "min") rMin:=pQ hc
theorem D8:CRD K rMin sZ:=by
 intro F H ds vs Q t fh r O k;unfold sZ at O;split at O<;>first|(cases O;done)|skip
 cases O;obtain⟨v,ws,rfl,r1,w,W,rfl,Z,U⟩:=r;cases r1;cases Z;have U:W=[]:=U;subst U;exact⟨_,_,rfl,k.int fh⟩
def ak:Key->Dt
 |.inl i=>.int i
 |.inr x=>.str x
theorem wI{F:Hp}(k:Key):Rep K F (ak k) (kV k):=by
 cases k with
 |inl i=>exact br
 |inr x=>exact eM
def za(i j:Int):Prop:=0<j/\j<18446744073709551616
theorem tf:OpR X (qh4 .FloorDiv) (gW za fun i j=>.int (i/j)):=opI fun i j _ _ _ _ _ hc q=>by
 have h1:(0:Int)<j:=hc.1;have h2:j<18446744073709551616:=hc.2;refine floordiv_int Θ (by rw[qv1 i Θ];exact q) (.inl (PyProof.noPylong_of_log2 ?_));have O:j.natAbs≠0:=by lia
 exact ql6 ((Nat.log2_lt O).mpr (show j.natAbs<2^64 by lia)) Ω
def bu:Dt->Dt->ζ T
 |.int i,.int j=>if 0<j/\j<18446744073709551616 then ς (.f (.int (i/j)))else ψ
 |_,_=>ψ
theorem BD:R2D K (gW za fun i j=>.int (i/j)) bu:=by
 intro F H x y vx vy Q t U Z W O k;unfold bu at O;split at O<;>first|(cases O;done)|skip
 split at O
 .rename_i hc;cases O;cases Z;cases W;exact⟨_,_,rfl,rfl,hc,k.int U⟩
 .cases O
inductive Pt where
 |one (i:Nat)|many (is:List Nat)
def gu:η Nat->η Dt->Sl->ζ Sl
 |[],[],δ=>ς δ
 |i::is,d::ds,δ=>gu is ds (δ.set i (ς (.g d)))
 |_,_,_=>ψ
def bnd:Pt->Dt->Sl->ζ Sl
 |.one i,d,δ=>ς (δ.set i (ς (.g d)))
 |.many is,.t ds,δ=>gu is ds δ
 |_,_,_=>ψ
def Pt.slots:Pt->η Nat
 |.one i=>[i]
 |.many is=>is
def Only(ts:η Nat)(σ O:af):Prop:=O.length=σ.length/\∀j,j∉ts->O[j]?=σ[j]?
def tP(G:Gx)(b:Dt->Sl->ζ Sl)(ts:η Nat):TG:=fun v σ H Q=>∃ Φ δ ch F ρ d δ',Ge G Φ δ ch σ F H ρ/\Rep G.K F d v/\b d δ=ς δ'/\∀O,Ge G Φ δ' ch O F H ρ->Only ts σ O->Q O H
def tPs(G:Gx)(b:η Dt->Sl->ζ Sl)(ts:η Nat):TGs:=fun vs σ H Q=>∃ Φ δ ch F ρ ds δ',Ge G Φ δ ch σ F H ρ/\Reps G.K F ds vs/\b ds δ=ς δ'/\∀O,Ge G Φ δ' ch O F H ρ->Only ts σ O->Q O H
def GP(G:Gx)(X:Cx)(tg:J6)(p:Pt):Prop:=PG X tg (tP G (bnd p) p.slots)
variable{is:η Nat}
section
variable{G:Gx}{X:Cx}{tg iter e:J6}{es:η J6}{pos:Pos}{i:Nat}
theorem Only.one{v:V}:Only [i] σ (σ.set i (ς v)):=⟨Ξ,fun j O=>by rw[qt6 fun e=>O (by simp[e])]⟩
theorem Ge.dat{F:Hp}{d:Dt}{v:V}(en:Ge G Φ δ ch σ F H ρ)(r:Rep G.K F d v)(i:Nat):Ge G Φ (δ.set i (ς (.g d))) ch (σ.set i (ς v)) F H ρ:=en.put (.refl en.gh) (c:=.g d) r (fun _ e=>nomatch e) rfl i
theorem BE(h:PG X tg (eu i)):GP G X tg (.one i):=PG.mono h fun v σ H Q ⟨Φ,δ,ch,F,ρ,d,δ',en,r,O,k⟩=>by cases O;exact k _ (en.dat r i) .one
theorem wJ:PGs X [] (tPs G (gu []) []):=fun J0 s σ H vs us Q I r ⟨Φ,δ,ch,F,ρ,ds,δ',en,rs,O,k⟩=>by
 cases ds with
 |cons d ds=>cases O
 |nil=>cases O;simp only[Reps]at rs;exact vJ J0 s σ H vs us Q I r ⟨rs,k σ en ⟨rfl,fun _ _=>rfl⟩⟩
theorem tj(h1:PG X e (eu i))(h2:PGs X es (tPs G (gu is) is))(hs:(qi1 (e::es) X.env).map (·.2)=qz3 e X.env::(qi1 es X.env).map (·.2)):PGs X (e::es) (tPs G (gu (i::is)) (i::is)):=
 fun J0 s σ H vs us Q I r ⟨Φ,δ,ch,F,ρ,ds,δ',en,rs,Z,k⟩=>by
  cases ds with
  |nil=>cases Z
  |cons d ds=>
   simp only[Reps]at rs;obtain⟨v,ws,rfl,r1,r2⟩:=rs;refine qT h1 h2 hs J0 s σ H _ us Q I r ⟨v,ws,rfl,Φ,_,ch,F,ρ,ds,δ',en.dat r1 i,r2,Z,fun W U ho=>k W U ⟨?_,fun j O=>?_⟩⟩
   .rw[ho.1];simp
   .simp only[qc4,not_or]at O;rw[ho.2 j O.2,gN (qk5 O.1)]
theorem wK{k:Nat}(Z:X.K=G.K)(hc:X.calm=θ)(h:PGs X es (tPs G (gu is) is))(hn:(qi1 es X.env).length=is.length)(O:(qi1 es X.env).findIdx? (·.1)=ψ):GP G X (.Tuple es k pos) (.many is):=PG.mono (Ad hc h hn O) fun v σ H Q ⟨Φ,δ,ch,F,ρ,d,δ',en,r,U,kk⟩=>by
 have hl:∀(is:η Nat)(ds:η Dt)(δ δ':Sl),gu is ds δ=ς δ'->ds.length=is.length:=by
  intro is;induction is with
  |nil=>intro ds δ δ' h;cases ds<;>first|rfl|cases h
  |cons i is W=>intro ds δ δ' h;cases ds with
   |nil=>cases h
   |cons d ds=>simp[W ds _ _ h]
 cases d with
 |t ds=>simp only[Rep]at r;obtain⟨a,vs,rfl,h1,h2⟩:=r;exact⟨a,vs,rfl,by rw[Z];exact(en.gh.fh.tup h1),by rw[h2.length,hl _ _ _ _ U],Φ,δ,ch,F,ρ,ds,δ',en,h2,U,kk⟩
 |_=>cases U
def tI(G:Gx)(f:FM (η Dt)):TI:=fun σ H R=>∃ Φ δ ch F ρ ds ch',Ge G Φ δ ch σ F H ρ/\f δ ch=ς (ds,ch')/\∀J ok F' H' ρ',Adv G F H ρ ch F' H' ρ' ch'->sw G.K F' J ds ok->(∀H2,Same F' H2->ok H2)->R J H'
def GI(G:Gx)(X:Cx)(tg iter:J6)(f:FM (η Dt)):Prop:=PI X tg iter (tI G f)
def iE(f:Fg):FM (η Dt):=fun δ ch=>(f δ ch).bind fun p=>match p.1 with
 |.g d=>(itD d).map fun l=>(l,p.2)
 |_=>ψ
theorem gi_e{l:J6}{f:Fg}(U:X.K=G.K)(h:GE G X l f):GI G X tg l (iE f):=PI.mono (PI.or (vL h) (Aj h)) fun σ H R ⟨Φ,δ,ch,F,ρ,ds,ch',en,W,k⟩=>by
 obtain⟨⟨c,ch1⟩,h1,O⟩:=bS W;cases c with
 |g d=>
  obtain⟨l,hl,e⟩:=mS O;cases e;cases d with
  |e l=>cases hl;refine .inl ⟨Φ,δ,ch,F,ρ,_,_,en,h1,fun v F' H' ρ' a r=>?_⟩;have r:=r.1;simp only[RelC,RelS,Rep]at r;obtain⟨x,vs,rfl,q1,q2⟩:=r;rw[U];exact⟨x,rfl,⟨vs,a.gh.fh.seq q1⟩,k _ _ F' H' ρ' a (plain_list.walk q2) fun H2 s=>s.seq q1⟩
  |t l=>cases hl;refine .inr ⟨Φ,δ,ch,F,ρ,_,_,en,h1,fun v F' H' ρ' a r=>?_⟩;have r:=r.1;simp only[RelC,RelS,Rep]at r;obtain⟨x,vs,rfl,q1,q2⟩:=r;rw[U];exact⟨x,rfl,⟨vs,a.gh.fh.tup q1⟩,k _ _ F' H' ρ' a (plain_tup.walk q2) fun H2 s=>s.tup q1⟩
  |_=>cases hl
 |_=>cases O
def gq:η CV->ζ (η Int)
 |[]=>ς []
 |.g (.int i)::l=>(gq l).map (i::·)
 |_=>ψ
theorem lA{F:Hp}:∀{l:η CV}{vs:η V}{is:η Int},RelCs G F H ρ n l vs->gq l=ς is->vs=is.map V.int
 |[],_,_,.nil,h=>by cases h;rfl
 |c::l,_,_,.cons r t,h=>by
  cases c with
  |g d=>
   cases d with
   |int i=>obtain⟨O,h1,rfl⟩:=mS h;rw[lA t h1];have r:Rep G.K F (.int i) _:=r;simp only[Rep]at r;rw[r];rfl
   |_=>cases h
  |_=>cases h
def eO(i:Int):Bool:=decide (-(2^62)<=i)&&decide (i<2^62)
theorem tm{i:Int}(h:eO i=θ):-(2^62)<=i/\i<2^62:=by unfold eO at h;simp only[qa1,decide_eq_true_eq]at h;exact h
def rng:Nat->η Int->ζ (η Dt)
 |1,[j]=>if eO j then ς (aD 0 j.toNat)else ψ
 |_,_=>ψ
def iR(n:Nat)(fs:FM (η CV)):FM (η Dt):=fun δ ch=>(fs δ ch).bind fun p=>(gq p.1).bind fun is=>(rng n is).map fun l=>(l,p.2)
section
variable{sc:J8}{p tpos:Pos}{x y z:J6}{fs:FM (η CV)}{elts:η J6}{n:Nat}{f:Fg}
theorem qm(h:aQ sc "range"=θ)(Z:X.mg "range"=ψ)(ha:GA G X [x] fs)(e1:bp X sc)(hs:qb3 [x] X.env=[(ξ,eval x X.env)]):GI G X tg (.Call (.Name "range" p) [x] [] pos) (iR 1 fs):=PI.mono (mU h Z ha e1 hs) fun σ H R ⟨Φ,δ,ch,F,ρ,ds,ch',en,hf,k⟩=>by
 obtain⟨q,h1,W⟩:=bS hf;obtain⟨is,h2,U⟩:=bS W;obtain⟨l,O,e⟩:=mS U;cases e;refine⟨Φ,δ,ch,F,ρ,q.1,q.2,en,h1,fun vs F' H' ρ' a r=>?_⟩;have hv:=lA r h2;obtain _|⟨j,_|⟨_,_⟩⟩:=is<;>first|(simp[rng]at O;done)|skip
 .have O:(if eO j then ς (aD 0 j.toNat)else ψ)=ς ds:=O;split at O<;>cases O
  rename_i hb;have:=tm hb;exact⟨j,hv,this.1,this.2,k _ _ F' H' ρ' a (plain_range.walk (Reps.map (fun _=>br) _)) fun _ _=>trivial⟩
def iN(f:Fg):FM (η Dt):=fun δ ch=>(f δ ch).bind fun p=>match p.1 with
 |.g (.e l)=>ς (cB 0 l,p.2)
 |.g (.t l)=>ς (cB 0 l,p.2)
 |_=>ψ
theorem wL(U:X.K=G.K)(h:aQ sc "enumerate"=θ)(W:X.mg "enumerate"=ψ)(ha:GE G X x f)(Z:bp X sc)(hs:qb3 [x] X.env=[(ξ,eval x X.env)]):GI G X (.Tuple elts n tpos) (.Call (.Name "enumerate" p) [x] [] pos) (iN f):=PI.mono (wE h W (bF ha cK hs) Z hs) fun σ H R ⟨Φ,δ,ch,F,ρ,ds,ch',en,hf,k⟩=>by
 obtain⟨⟨c,ch1⟩,h1,O⟩:=bS hf;dsimp only at O;refine⟨Φ,δ,ch,F,ρ,c,ch1,en,h1,fun v F' H' ρ' a r=>?_⟩;have r:=r.1;split at O
 .cases O;simp only[RelC,RelS,Rep]at r;obtain⟨y,vs,rfl,q1,q2⟩:=r;rw[U];exact⟨θ,y,vs,rfl,a.gh.fh.seq q1,k _ _ F' H' ρ' a (jr (b:=true) q2) fun H2 s=>s.seq q1⟩
 .cases O;simp only[RelC,RelS,Rep]at r;obtain⟨y,vs,rfl,q1,q2⟩:=r;rw[U];exact⟨ξ,y,vs,rfl,a.gh.fh.tup q1,k _ _ F' H' ρ' a (jr (b:=false) q2) fun H2 s=>s.tup q1⟩
 .cases O
end
def bK(b:Dt->Sl->ζ Sl)(g:Fs):η Dt->Fs
 |[],δ,ch=>ς (.nx δ ch)
 |d::r,δ,ch=>(b d δ).bind fun U=>(g U ch).bind fun o=>match o with
  |.nx O ch2=>bK b g r O ch2
  |.ct O ch2=>bK b g r O ch2
  |.bk O ch2=>ς (.nx O ch2)
  |.rt c ch2=>ς (.rt c ch2)
def na(fi:FM (η Dt))(b:Dt->Sl->ζ Sl)(g:Fs):Fs:=fun δ ch=>(fi δ ch).bind fun p=>bK b g p.1 δ p.2
def Fr0.at(Φ:Fr0)(F1:Hp):Fr0:={Φ with F:=F1}
theorem Adv.back{F0 W F1 F:Hp}{O ρ1:Nat->J4}{U ch1:CH}(a:Adv G F0 W O U F1 H1 ρ1 ch1)(b:Adv G F1 W O U F H ρ ch):Adv G F0 W O U F H ρ ch:={b with old:=a.old.trans b.old,nw:=fun x o h=>(b.nw x o h).elim (a.nw x o) .inr}
theorem Ge.at{F1:Hp}(en:Ge G Φ δ ch σ F1 H ρ):Ge G (Φ.at F1) δ ch σ F1 H ρ:={en with ad:={en.ad with old:=Same.refl _,nw:=fun _ _ h=>.inl h}}
theorem Ge.back{δ':Sl}{ch':CH}{O:af}{F1 F:Hp}{ρ':Nat->J4}(en:Ge G Φ δ ch σ F1 H1 ρ)(e:Ge G (Φ.at F1) δ' ch' O F H ρ'):Ge G Φ δ' ch' O F H ρ':={e with ad:=en.ad.back e.ad}
theorem PostZ.at{F1:Hp}{D:Ends}{o:Og}(en:Ge G Φ δ ch σ F1 H ρ)(k:PostZ G Φ D o):PostZ G (Φ.at F1) D o:=by
 cases o with
 |nx δ' ch'=>exact fun O F H ρ e=>k O F H ρ (en.back e)
 |bk δ' ch'=>exact fun O F H ρ e=>k O F H ρ (en.back e)
 |ct δ' ch'=>exact fun O F H ρ e=>k O F H ρ (en.back e)
 |rt c ch'=>exact fun v F H ρ a r=>k v F H ρ (en.ad.back a) r
variable{body:η Stmt}{fi:FM (η Dt)}{g:Fs}{pt:Pt}{c:J6}{tc:FM Bool}
theorem BF(hp:zb0 (model X.prog X.w) X.A X.env X.xe)(hc:X.calm=θ)(hi:GI G X tg iter fi)(hg:GP G X tg pt)(hb:GS G X body g)(hs:∀x,qh0 iter X.env x=pure x):GS1 G X (.For tg iter body [] pos) (na fi (bnd pt) g):=PSBq.mono (Ak hp hc hi hg hb hs) fun D σ H ⟨Φ0,δ,ch,F,ρ,o,en,hgo,k0⟩=>by
 obtain⟨⟨ds,ch1⟩,hd,hgo1⟩:=bS hgo;rw[wc];refine⟨Φ0,δ,ch,F,ρ,ds,ch1,en,hd,fun J ok F1 H1 ρ1 a1 wd ho=>?_⟩;have k:=PostZ.at (en.adv a1) k0;refine sx (n:=ds.length) (fun i Z H'=>∃ δ' ch' F' ρ',Ge G (Φ0.at F1) δ' ch' Z F' H' ρ'/\bK (bnd pt) g (ds.drop i) δ' ch'=ς o) ⟨δ,ch1,F1,ρ1,(en.adv a1).at,by simpa using hgo1⟩ (fun i Z H' ⟨δ',ch',F',ρ',O,_⟩=>?_) ?_ ?_
 .obtain⟨p1,p2,_⟩:=wd i H' F' (ho H' (O.ad.old.trans O.gh.fh)) O.gh.fh O.ad.old;exact⟨p1,p2⟩
 .rintro i x Z H' H'' hi ⟨δ',ch',F',ρ',O,U⟩ hy;obtain⟨_,_,p3⟩:=wd i H' F' (ho H' (O.ad.old.trans O.gh.fh)) O.gh.fh O.ad.old;obtain⟨d,F2,hd',st2,rd⟩:=p3 x H'' hi hy;rw[oh hd']at U;obtain⟨δ1,h1,hgo3⟩:=bS U;obtain⟨o1,h2,W⟩:=bS hgo3;refine⟨_,δ',ch',F2,ρ',d,δ1,O.adv (.of O.gh st2),rd,h1,fun σ1 en1 _=>⟨_,δ1,ch',F2,ρ',o1,en1,h2,?_⟩⟩;cases o1 with
  |nx δ2 ch2=>exact fun σ2 F2 H2 ρ2 en2=>⟨δ2,ch2,F2,ρ2,en2,W⟩
  |ct δ2 ch2=>exact fun σ2 F2 H2 ρ2 en2=>⟨δ2,ch2,F2,ρ2,en2,W⟩
  |bk δ2 ch2=>cases W;exact k
  |rt c ch2=>cases W;exact k
 .rintro Z H' ⟨δ',ch',F',ρ',O,U⟩;rw[qt4]at U;cases U;exact k Z F' H' ρ' O
def whZ(c:FM Bool)(g:Fs):Nat->Fs
 |0,_,_=>ψ
 |n+1,δ,ch=>(c δ ch).bind fun p=>if p.1 then(g δ p.2).bind fun o=>match o with
  |.nx O ch2=>whZ c g n O ch2
  |.ct O ch2=>whZ c g n O ch2
  |.bk O ch2=>ς (.nx O ch2)
  |.rt c ch2=>ς (.rt c ch2)else ς (.nx δ p.2)
theorem tp(n:Nat)(hp:zb0 (model X.prog X.w) X.A X.env X.xe)(hc:GT G X c tc)(hb:GS G X body g):GS1 G X (.While c body [] pos) (whZ tc g n):=PSBq.mono (qV hp hc hb) fun D σ H ⟨Φ,δ,ch,F,ρ,o,en,hg,k⟩=>by
 refine⟨fun m σ' H'=>∃ δ' ch' F' ρ',Ge G Φ δ' ch' σ' F' H' ρ'/\whZ tc g m δ' ch'=ς o,⟨n,δ,ch,F,ρ,en,hg⟩,?_⟩;rintro m σ' H' ⟨δ',ch',F',ρ',en',hgo⟩;cases m with
 |zero=>cases hgo
 |succ m=>
  obtain⟨p,hx,W⟩:=bS hgo;refine⟨Φ,δ',ch',F',ρ',p.1,p.2,en',hx,fun b F1 H1 ρ1 a1 r=>?_⟩;cases r;cases q:p.1 with
  |true=>
   rw[q,if_pos rfl]at W;rw[if_pos rfl];obtain⟨o1,h2,U⟩:=bS W;refine⟨fun Z H2=>∃O ch2 F2 ρ2,Ge G Φ O ch2 Z F2 H2 ρ2/\whZ tc g m O ch2=ς o,fun Z H2 z=>⟨m,qp7 m,z⟩,Φ,δ',p.2,F1,ρ1,o1,en'.adv a1,h2,?_⟩;cases o1 with
   |nx O ch2=>exact fun Z F2 H2 ρ2 en2=>⟨O,ch2,F2,ρ2,en2,U⟩
   |ct O ch2=>exact fun Z F2 H2 ρ2 en2=>⟨O,ch2,F2,ρ2,en2,U⟩
   |bk O ch2=>cases U;exact k
   |rt c ch2=>cases U;exact k
  |false=>rw[q]at W;cases W;exact k σ' F1 H1 ρ1 (en'.adv a1)
end
def gC(src:η (ζ Nat))(δ:Sl):Sl:=src.map fun o=>(o.bind fun j=>(δ[j]?).join).map lent
def aH(b:Dt->Sl->ζ Sl)(ft:FM Bool)(fe:Fg)(δ0:Sl):η Dt->CH->ζ (η CV×CH)
 |[],ch=>ς ([],ch)
 |d::r,ch=>(b d δ0).bind fun O=>(ft O ch).bind fun p=>if p.1 then(fe O p.2).bind fun q=>if q.1.sol then(aH b ft fe δ0 r q.2).map fun z=>(q.1::z.1,z.2)else ψ else aH b ft fe δ0 r p.2
def eCo(m:Md)(src:η (ζ Nat))(fi:FM (η Dt))(b:Dt->Sl->ζ Sl)(ft:FM Bool)(fe:Fg):Fg:=fun δ ch=>(fi δ ch).bind fun p=>(aH b ft fe (gC src δ) p.1 p.2).bind fun q=>if q.1.length<=qa9 then finL m q.1 q.2 else ψ
section
variable{G:Gx}{Φ:Fr0}{F H F' H' F1 H1:Hp}{ρ ρ' ρ1:Nat->J4}{ch ch' ch1:CH}{src:η (ζ Nat)}{δ:Sl}{σ:af}{D:J4}{done:η CV}{ys:η V}{m:Md}{Q:VK}
theorem nc{k:Nat}{c:CV}(h:(gC src δ)[k]?=ς (ς c)):∃j c',src[k]?=ς (ς j)/\δ[j]?=ς (ς c')/\c=lent c':=by
 unfold gC at h;rw[qa8]at h;cases e:src[k]? with
 |none=>rw[e]at h;cases h
 |some o=>
  rw[e]at h;cases o with
  |none=>cases h
  |some j=>
   simp only[qb2,qa0,qx8]at h;obtain⟨c',h1,rfl⟩:=mS h;refine⟨j,c',rfl,?_,rfl⟩;cases q:δ[j]? with
   |none=>rw[q]at h1;cases h1
   |some u=>rw[q]at h1;simp only[qp8]at h1;rw[h1]
theorem RelC.lent{c:CV}{v:V}(h:RelC G F H ρ n c v):RelC G F H ρ n (lent c) v:=by cases c<;>exact h
theorem lE{c:CV}{t:T}:lent c≠.own θ t:=fun e=>by cases c<;>cases e
theorem Ge.comp(en:Ge G Φ δ ch σ F H ρ):Ge G ⟨F,H,ρ,ch⟩ (gC src δ) ch (aP src σ) F H ρ:=⟨.refl en.gh,by simp[gC,aP],fun k c h=>by obtain⟨j,U,h1,h2,rfl⟩:=nc h;obtain⟨v,O,h4⟩:=en.has j U h2;exact⟨v,wj h1 O,h4.lent⟩,fun k t a h=>by obtain⟨_,_,_,_,e⟩:=nc h;exact absurd e.symm lE,fun k j t u b a _ h=>by obtain⟨_,_,_,_,e⟩:=nc h;exact absurd e.symm lE⟩
structure Bd(G:Gx)(F1 H1:Hp)(ρ1:Nat->J4)(ch1:CH)(D:J4)(F H:Hp)(ρ:Nat->J4)(ch:CH)(done:List CV)(ys:List V):Prop where
 adv:Adv G F1 H1 ρ1 ch1 F H ρ ch
 hD:H D=ς (.e ys)
 fD:F D=ψ
 nD:∀i,i<ch.length->ρ i≠D
 rel:RelSs G F ρ ch.length done ys
theorem Bd.step(b:Bd G F1 H1 ρ1 ch1 D F H ρ ch done ys)(a:Adv G F H ρ ch F' H' ρ' ch'):Bd G F1 H1 ρ1 ch1 D F' H' ρ' ch' done ys:=by
 have w:RelW G F H ρ ch.length (.e []) (.ref D)->True:=fun _=>trivial
 refine⟨b.adv.trans a,a.prot D _ b.hD fun i hi=>b.nD i hi,?_,fun i hi e=>?_,b.rel.mono a.old a.ext a.len⟩
 .cases q:F' D with
  |none=>rfl
  |some o=>
   rcases a.nw D o q with z|z|⟨xs,z⟩
   .rw[b.fD]at z;cases z
   .rw[b.hD]at z;cases z
   .subst z;have O:=a.gh.fh _ _ q;rw[a.prot D _ b.hD fun i hi=>b.nD i hi]at O;cases O
 .by_cases h:i<ch.length
  .rw[a.ext i h]at e;exact b.nD i h e
  .have:=a.fr i (qn7.mp h) hi;rw[e,b.hD]at this;cases this
theorem Bd.more(O:H1 D=ψ)(b:Bd G F1 H1 ρ1 ch1 D F H ρ ch done ys){c:CV}{v:V}(r:RelS G F ρ ch.length c v):Bd G F1 H1 ρ1 ch1 D F (upd H D (.e (ys++[v]))) ρ ch (done++[c]) (ys++[v]) where
 adv:=⟨⟨fun x o e=>by
     rw[ai fun z=>by rw[z,b.fD]at e;cases e];exact b.adv.gh.fh x o e,b.adv.gh.inj,b.adv.gh.out,fun i o h=>(b.adv.gh.ok i o h).mono (Same.refl _) (fun _ _=>rfl) (nL _) fun u U=>by
     rw[ai (b.nD i (ao h))];exact U⟩,b.adv.len,b.adv.ext,b.adv.fr,fun x o h1 h2=>by
     rw[ai fun z=>by rw[z,O]at h1;cases h1];exact b.adv.prot x o h1 h2,b.adv.old,b.adv.nw,fun x h=>by
     by_cases z:x=D
     .rw[z,ah]at h;cases h
     .rw[ai z]at h;exact b.adv.hs x h⟩
 hD:=ah
 fD:=b.fD
 nD:=b.nD
 rel:=Paired.app b.rel (.cons r .nil)
theorem Bd.fin{c:CV}(W:H1 D=ψ)(b:Bd G F1 H1 ρ1 ch1 D F H ρ ch done ys)(Z:finL m done ch=ς (c,ch'))(k:KM G RV F1 H1 ρ1 ch1 c ch' Q):Q (.ref D) H:=by
 have U:KM G RV F1 H1 ρ1 ch1 (.ref ch.length) (ch++[.e done]) Q->Q (.ref D) H:=fun k=>by
  have lt:∀{i:Nat},i<ch.length->(if i=ch.length then D else ρ i)=ρ i:=fun {i} hi=>if_neg (qc2 hi)
  have g:=b.adv.gh
  have key:∀i x,(ch++[CO.e done])[i]?=ς x->(i<ch.length/\ch[i]?=ς x)∨(i=ch.length/\x=.e done):=fun i x O=>by
   by_cases h1:i<ch.length
   .rw[gL h1]at O;exact .inl ⟨h1,O⟩
   .rw[gR (qn7.mp h1)]at O;have h2:i=ch.length:=by have:=ao O;simp at this;lia
    subst h2;simp at O;exact .inr ⟨rfl,O.symm⟩
  refine k.sol (F':=F) (H':=H) (ρ':=fun i=>if i=ch.length then D else ρ i) ⟨⟨g.fh,fun i j hi hj e=>?_,fun i x O hl=>?_,fun i x O=>?_⟩,by have:=b.adv.len;simp;lia,fun i hi=>?_,fun i h1 h2=>?_,b.adv.prot,b.adv.old,b.adv.nw,b.adv.hs⟩ ⟨Ξ,Ξ⟩
  .simp only[qc5,qb8,qg4]at hi hj;by_cases h1:i=ch.length<;>by_cases h2:j=ch.length
   .rw[h1,h2]
   .rw[if_pos h1,if_neg h2]at e;exact absurd e.symm (b.nD j Θ)
   .rw[if_neg h1,if_pos h2]at e;exact absurd e (b.nD i Θ)
   .rw[if_neg h1,if_neg h2]at e;exact g.inj i j Θ Θ e
  .rcases key i x O with ⟨h1,h2⟩|⟨h1,h2⟩
   .rw[lt h1];exact g.out i x h2 hl
   .rw[if_pos h1];exact b.fD
  .simp only[qc5,qb8,qg4];rcases key i x O with ⟨h1,h2⟩|⟨h1,h2⟩
   .rw[lt h1];exact(g.ok i x h2).mono (Same.refl _) (fun j hj=>lt hj) (qi3 _) fun u hu=>hu
   .subst h1;subst h2;rw[if_pos rfl];exact⟨ys,b.hD,b.rel.mono (Same.refl _) (fun j hj=>lt hj) (qi3 _)⟩
  .rw[lt (qc6 hi b.adv.len)];exact b.adv.ext i hi
  .simp only[qc5,qb8,qg4]at h2;by_cases h3:i=ch.length
   .rw[if_pos h3];exact W
   .rw[if_neg h3];exact b.adv.fr i h1 Θ
 unfold finL at Z;split at Z
 .rename_i ds hd;have rs:=bj hd b.rel;cases m with
  |o=>have e:=cN hd;cases Z;rw[<- e]at k;exact U k
  |w=>cases Z;exact k _ F H ρ b.adv ⟨⟨D,rfl,rfl,⟨D,ys,rfl,rfl,b.hD,rs⟩,b.fD,b.nD⟩,fun _ _ a e=>by cases e;exact W⟩
  |v=>
   cases Z;have ff:Same F (upd F D (.e ys)):=fun x o e=>by rw[ai fun z=>by rw[z,b.fD]at e;cases e];exact e
   refine k.sol (F':=upd F D (.e ys)) (H':=H) (ρ':=ρ) ⟨⟨fun x o e=>?_,b.adv.gh.inj,fun i x O hl=>?_,fun i x O=>(b.adv.gh.ok i x O).mono ff (fun _ _=>rfl) (nL _) fun _ h=>h⟩,b.adv.len,b.adv.ext,b.adv.fr,b.adv.prot,b.adv.old.trans ff,fun x o h=>?_,b.adv.hs⟩ ?_
   .by_cases z:x=D
    .subst z;rw[ah]at e;cases e;exact b.hD
    .rw[ai z]at e;exact b.adv.gh.fh x o e
   .rw[ai (b.nD i (ao O))];exact b.adv.gh.out i x O hl
   .by_cases z:x=D
    .subst z;exact .inr (.inl W)
    .rw[ai z]at h;exact b.adv.nw x o h
   .show Rep G.K _ (.e ds) (.ref D);simp only[Rep];exact⟨D,ys,rfl,SqL.of ah,rs.same ff⟩
 .split at Z<;>cases Z
  exact U k
end
section
variable{G:Gx}{X:Cx}{elt tg iter:J6}{ifs:η J6}{scope:J8}{pos:Pos}{M:η Str}{src:η (ζ Nat)}{fi:FM (η Dt)}{ft:FM Bool}{fe:Fg}{m:Md}{pt:Pt}
theorem oA(hts:(pt.slots.all fun k=>decide (src[k]?=ς ψ))=θ)(σ:af)(H:Hp)(Q:VK)(h:tM G RV (eCo m src fi (bnd pt) ft fe) σ H Q):ji src (tI G fi) (tP G (bnd pt) pt.slots) (tM G RB ft) (tM G RV fe) σ H Q:=by
 obtain⟨Φ,δ,ch,F,ρ,c,ch',en,hf,k0⟩:=h;obtain⟨⟨ds,ch0⟩,hd,hf1⟩:=bS hf;obtain⟨⟨all,ch2⟩,ha,hf2⟩:=bS hf1;dsimp only at ha hf2;split at hf2<;>first|(cases hf2;done)|skip
 rename_i hz;rw[sd];refine⟨Φ,δ,ch,F,ρ,ds,ch0,en,hd,fun J ok F1 H1 ρ1 a1 wd ho D hD=>?_⟩;have en1:=en.adv a1;have k:=k0.adv a1
 have wk:∀{σ2:af},Only pt.slots (aP src σ) σ2->Wk (aP src σ) σ2:=fun {σ2} ho=>by
  refine⟨ho.1.symm,fun j v hj=>?_⟩;by_cases hm:j∈pt.slots
  .have hn:src[j]?=ς ψ:=of_decide_eq_true (qc0.mp hts j hm);obtain⟨i,e,_⟩:=AW hj;rw[hn]at e;cases e
  .rw[ho.2 j hm];exact hj
 refine qb (n:=ds.length) (fun i H=>∃F ρ' c' ys done O,Bd G F1 H1 ρ1 ch0 D F H ρ' c' done ys/\aH (bnd pt) ft fe (gC src δ) (ds.drop i) c'=ς (O,ch2)/\done++O=all) ?_ ?_ ?_ ?_
 .refine⟨F1,ρ1,ch0,[],[],all,⟨.of en1.gh (Step.made en1.gh.fh hD),ah,en1.gh.fh.free hD,fun i hi e=>?_,.nil⟩,by simpa using ha,rfl⟩;obtain⟨u,hu⟩:=en1.gh.at hi;rw[e,hD]at hu;cases hu
 .rintro i H' ⟨F',ρ',c',ys,done,O,b,_⟩;obtain⟨p1,p2,_⟩:=wd i H' F' (ho H' (b.adv.old.trans b.adv.gh.fh)) b.adv.gh.fh b.adv.old;exact⟨p1,p2⟩
 .rintro i x H0' H' hi ⟨F0',ρ0,c0,ys,done,O,b0,hgo,U⟩ hy0;obtain⟨_,_,p3⟩:=wd i H0' F0' (ho H0' (b0.adv.old.trans b0.adv.gh.fh)) b0.adv.gh.fh b0.adv.old;obtain⟨d,F',hd',stw,rd⟩:=p3 x H' hi hy0;have b1:=b0.step (.of b0.adv.gh stw);have en2:=(en1.adv b1.adv).comp (src:=src);rw[oh hd']at hgo;obtain⟨δ1,h1,hgo1⟩:=bS hgo;obtain⟨p,h2,W⟩:=bS hgo1;refine⟨_,_,c0,F',ρ0,d,δ1,en2,rd,h1,fun σ2 en3 on=>⟨wk on,_,δ1,c0,F',ρ0,p.1,p.2,en3,h2,fun bb F3 H3 ρ3 a3 r3=>?_⟩⟩;cases r3;have b2:=b1.step a3;cases q:p.1 with
  |false=>rw[q]at W;exact⟨F3,ρ3,p.2,ys,done,O,b2,W,U⟩
  |true=>
   rw[q,if_pos rfl]at W;rw[if_pos rfl];obtain⟨e,h4,Z⟩:=bS W;split at Z<;>first|(cases Z;done)|skip
   rename_i hs;obtain⟨z,h5,hgo4⟩:=mS Z;cases hgo4;refine⟨_,δ1,p.2,F3,ρ3,e.1,e.2,en3.adv a3,h4,fun v F4 H4 ρ4 a4 r4=>?_⟩;have b3:=b2.step a4;refine⟨ys,b3.hD,?_,F4,ρ4,e.2,ys++[v],done++[e.1],z.1,b3.more hD (r4.1.s hs),h5,by simpa using U⟩;have:done.length<all.length:=by rw[<- U];simp
   rw[b3.rel.length];exact qc6 this hz
 .rintro H' ⟨F',ρ',c',ys,done,O,b,hgo,U⟩;rw[qt4]at hgo;cases hgo;rw[qh6]at U;subst U;exact b.fin hD hf2 k
end
variable{p2:Pos}
section
variable{G:Gx}{X:Cx}{elt tg iter:J6}{ifs:η J6}{scope:J8}{pos spos py apos cpos p:Pos}{M:η Str}{src:η (ζ Nat)}{fi:FM (η Dt)}{ft:FM Bool}{f fa fe fk:Fg}{fs:FM (η CV)}{m:Md}{pt:Pt}{i:Nat}{e o a:J6}{es:η J6}{sc:J8}{x:Str}
def tYs:FM Bool:=fun _ ch=>ς (θ,ch)
def GTs(G:Gx)(X:Cx)(ifs:η J6)(f:FM Bool):Prop:=PTs X ifs (tM G RB f)
theorem oB:GTs G X [] tYs:=fun J0 s σ H Q I h=>v8 J0 s σ H Q I (h.ret fun _ _ _=>rfl)
theorem oC{c:J6}{f:FM Bool}(h:GT G X c f):GTs G X [c] f:=v9 h
theorem wM (S:CmpScope X.N X.env.scope scope M src) (hc:X.calm=θ) (hi:GI G X tg iter fi) (U:M.Nodup->∀ C s H ex,GP G (cxC X M scope C s H ex) tg pt) (Z:∀ C s H ex,GTs G (cxC X M scope C s H ex) ifs ft)
  (he:∀C s H ex,GE G (cxC X M scope C s H ex) elt fe) (O:(pt.slots.all fun k=>decide (src[k]?=ς ψ))=θ) (hs:∀x,qh0 iter X.env x=pure x):GE G X (.ListComp elt [⟨tg,iter,ifs,0⟩] scope pos) (eCo m src fi (bnd pt) ft fe):=
 PE.mono (r0 S hc hi (fun W C s H ex=>U W C s H ex) (fun C s H ex=>Z C s H ex) (fun C s H ex=>he C s H ex) hs) (oA O)
theorem wN(h:cm sc N i x=θ)(hl:iQ sc x=θ)(W:N.Nodup)(e1:bp X sc)(e2:X.N=N)(hf:X.fn x=θ∨X.env.scope.names.lookup x=ς .local)
 (S:CmpScope X.N X.env.scope scope M src) (hc:X.calm=θ) (hi:GI G X tg iter fi) (Z:M.Nodup->∀C s H ex,GP G (cxC X M scope C s H ex) tg pt) (ht:∀C s H ex,GTs G (cxC X M scope C s H ex) ifs ft)
 (he:∀C s H ex,GE G (cxC X M scope C s H ex) elt fe) (U:(pt.slots.all fun k=>decide (src[k]?=ς ψ))=θ) (hs:∀x,qh0 iter X.env x=pure x)
 (hsw:qi6 (.ListComp elt [⟨tg,iter,ifs,0⟩] scope pos) (ς (.Name x py)) spos.line X.env=pure θ):GS1 G X (.Assign [.Name x py] (.ListComp elt [⟨tg,iter,ifs,0⟩] scope pos) spos) (aO i (eCo m src fi (bnd pt) ft fe)):=by
 subst e2;refine PSBq.mono (wF W (fN h) (by rw[e1];exact j0 hl) hf S hc hi (fun W C s H ex=>Z W C s H ex) (fun C s H ex=>ht C s H ex) (fun C s H ex=>he C s H ex) hs hsw) fun D σ H ⟨Φ,δ,ch,F,ρ,o,en,Z,k⟩=>?_
 obtain⟨p,h1,O⟩:=bS Z;split at O<;>cases O
 rename_i hk;exact oA U σ H _ ⟨Φ,δ,ch,F,ρ,p.1,p.2,en,h1,fun v F' H' ρ' a r=>k _ F' H' ρ' (en.put a r.1 r.2 hk i)⟩
def fOp:ζ Fg->FM (ζ Int)
 |none=>fun _ ch=>ς (ψ,ch)
 |some f=>fun δ ch=>(f δ ch).bind fun p=>(bO p.1).map fun i=>(ς i,p.2)
def eSl(m:Md)(fa:Fg)(lo hi:ζ Fg):Fg:=fun δ ch=>(fa δ ch).bind fun p=>(fOp lo δ p.2).bind fun q=>(fOp hi δ q.2).bind fun r=>(vw r.2 p.1).bind fun d=>(gSl d q.1 r.1).bind (fin m r.2)
def RO:RL (ζ Int) (ζ Int):=fun _ _ _ _ _ _ a b=>a=b
theorem wO:jP X ψ (tM G RO (fOp ψ)):=fun J0 s σ H Q I h=>vX J0 s σ H Q I (h.ret fun _ _ _=>rfl)
theorem wP(h:GE G X e f):jP X (ς e) (tM G RO (fOp (ς f))):=fun J0 s σ H Q I ⟨Φ,δ,ch,F,ρ,c,ch',en,U,k⟩=>vY h J0 s σ H Q I (by obtain⟨p,h1,O⟩:=bS U;obtain⟨j,h2,q⟩:=mS O;cases q;exact⟨Φ,δ,ch,F,ρ,p.1,p.2,en,h1,fun v F' H' ρ' a r=>⟨j,cO h2 r.1,k _ F' H' ρ' a rfl⟩⟩)
theorem tq{lo hi:ζ J6}{O U:ζ Fg}(hK:X.K=G.K)(he:GE G X e f)(hl:jP X lo (tM G RO (fOp O)))(hh:jP X hi (tM G RO (fOp U))):GE G X (.Subscript e (.Slice lo hi ψ p2) pos) (eSl m f O U):=PE.mono (rK A7 he hl hh) fun σ H Q ⟨Φ,δ,ch,F,ρ,c,ch',en,hf,k⟩=>by obtain⟨p,h1,hf2⟩:=bS hf;obtain⟨q,h2,hf3⟩:=bS hf2;obtain⟨r,h3,W⟩:=bS hf3;obtain⟨d,h4,hf5⟩:=bS W;obtain⟨t,h5,Z⟩:=bS hf5;refine⟨Φ,δ,ch,F,ρ,_,_,en,h1,fun v F1 H1 ρ1 a1 r1=>⟨Φ,δ,_,F1,ρ1,_,_,en.adv a1,h2,fun l F2 H2 ρ2 a2 r2=>⟨Φ,δ,_,F2,ρ2,_,_,(en.adv a1).adv a2,h3,fun u F3 H3 ρ3 a3 r3=>?_⟩⟩⟩;cases r2;cases r3;rw[hK];exact r_sl a3.gh.fh (aV a3.gh ((r1.1.adv a2).adv a3) h4) h5 (bZ a3.gh Z (((k.adv a1).adv a2).adv a3))
def kB(m:Md)(g:η Dt->ζ T):η CV->Fg:=fun cs _ ch=>(vws ch cs).bind fun ds=>(g ds).bind (fin m ch)
def eB(m:Md)(g:η Dt->ζ T)(fs:FM (η CV)):Fg:=fun δ ch=>(fs δ ch).bind fun p=>kB m g p.1 δ p.2
theorem zb{r:η V->Hp->VK->Prop}{g:η Dt->ζ T}(U:CRD G.K r g){Q:VK}(h:tK G RV (kB m g) σ vs H Q):r vs H Q:=by obtain⟨Φ,δ,ch,F,ρ,cs,c,ch',en,rs,O,k⟩:=h;obtain⟨ds,h1,O⟩:=bS O;obtain⟨t,h2,O⟩:=bS O;exact U F H ds vs Q t en.gh.fh (fW en.gh rs h1) h2 (bZ en.gh O k)
theorem tz{id:String}{r:η V->Hp->VK->Prop}{g:η Dt->ζ T}(h:aQ sc x=θ)(hc:CallR X (.builtin id) r)(W:CRD G.K r g)(hm:X.mg x=ψ)(hv:qf4 x=ς (.builtin id))(U:GA G X (e::es) fs)(Z:bp X sc)(he:qb3 (e::es) X.env=(ξ,eval e X.env)::qb3 es X.env)(O:(qh3 pos (qb3 es X.env)).any (·.1)=ξ):GE G X (.Call (.Name x p) (e::es) [] pos) (eB m g fs):=PE.mono (jl h hc hm hv U Z he O) fun σ H Q h=>(tK.args (k:=kB m g) h).imp fun _ _=>zb W
theorem tB{Ty:String}{r:η V->Hp->VK->Prop}{g:η Dt->ζ T}(h:aQ sc x=θ)(hc:CallR X (.type Ty) r)(U:CRD G.K r g)(hm:X.mg x=ψ)(hv:qf4 x=ς (.type Ty))(ha:GA G X (e::es) fs)(W:bp X sc)(Z:qb3 (e::es) X.env=(ξ,eval e X.env)::qb3 es X.env)(O:(qh3 pos (qb3 es X.env)).any (·.1)=ξ):GE G X (.Call (.Name x p) (e::es) [] pos) (eB m g fs):=PE.mono (dW h hc hm hv ha W Z O) fun σ H Q h=>(tK.args (k:=kB m g) h).imp fun _ _=>zb U
def eIs(c:String)(f:Fg):Fg:=fun δ ch=>(f δ ch).bind fun p=>(vw p.2 p.1).bind fun d=>ς (.g (.bl (dP c d)),p.2)
theorem qo{cn:Str}{cs:String}{p1:Pos}(hK:X.K=G.K)(h:aQ sc "isinstance"=θ)(W:aQ sc cn=θ)(hm:X.mg "isinstance"=ψ)(Z:X.mg cn=ψ)(hv:qf4 cn=ς (.type cs))(hk:kg X.K cs)(ha:GE G X a fa)(e1:bp X sc)
 (he:qb3 [a,.Name cn p2] X.env=(ξ,eval a X.env)::qb3 [.Name cn p2] X.env) (O:qb3 [.Name cn p2] X.env=(ξ,eval (.Name cn p2) X.env)::qb3 [] X.env) (hpl:(qh3 pos (qb3 [.Name cn p2] X.env)).any (·.1)=ξ) :
  GE G X (.Call (.Name "isinstance" p1) [a,.Name cn p2] [] pos) (eIs cs fa):=
 PE.mono (jl h mZ hm iP (bF ha (bF (sr (v:=.ty cs) W Z hv rfl e1) cK O) he) e1 he hpl) fun σ H Q ⟨Φ,δ,ch,F,ρ,c,ch',en,hf,k⟩=>by obtain⟨p,hp,U⟩:=bS hf;obtain⟨d,hd,hf2⟩:=bS U;cases hf2;exact⟨Φ,δ,ch,F,ρ,p.1,p.2,en,hp,fun v F' H' ρ' a r=>⟨v,cs,d,_,rfl,by rw[hK];exact(aV a.gh r.1 hd).rep a.gh.fh,rfl,hk d rfl,k.sol a (by show Rep G.K F' _ _;exact ib)⟩⟩
def eMt(m:Md)(g:Dt->η Dt->ζ T)(fa:Fg)(fs:FM (η CV)):Fg:=fun δ ch=>(fa δ ch).bind fun p=>match p.1 with
 |.g (.str z)=>(fs δ p.2).bind fun q=>(vws q.2 q.1).bind fun ds=>(g (.str z) ds).bind (fin m q.2)
 |_=>ψ
theorem BG {name:Str} {id:String} {r:V->η V->Hp->VK->Prop} {g:Dt->η Dt->ζ T} (slot:Slot "str" name id) (hty:typeOf (.builtin id)=pure (.type "method_descriptor")) (hm:MtR X id r) (hr:MRD G.K r g) (ho:GE G X o fa) (ha:GA G X (e::es) fs)
  (Z:qh5 o name X.env (eval o X.env)=eval o X.env)
  (hfew:((qh3 cpos (qb3 (e::es) X.env)).all (fun x=>!x.1)&&(qo8 cpos (qi2 [] X.env)).all (fun x=>x.1.isSome)
   && decide ((e::es).length+([]:η qw7).length+(if([]:η qw7).isEmpty then 0 else 1)<30))=θ)
  (W:(apos.endLine==cpos.line)=θ) (hs:qb3 (e::es) X.env=(ξ,eval e X.env)::qb3 es X.env) (O:(qh3 cpos (qb3 es X.env)).any (·.1)=ξ) :
  GE G X (.Call (.Attribute o name apos) (e::es) [] cpos) (eMt m g fa fs):=PE.mono (ld PySem.F.plainAttrs_str slot hty hm ho ha Z hfew W hs O) fun σ H Q ⟨Φ,δ,ch,F,ρ,c,ch',en,hf,k⟩=>by
 obtain⟨⟨c1,ch1⟩,h1,U⟩:=bS hf;dsimp only at U;split at U<;>first|(cases U;done)|skip
 rename_i z;obtain⟨q,h2,hf3⟩:=bS U;obtain⟨ds,h3,hf4⟩:=bS hf3;obtain⟨t,h4,hf5⟩:=bS hf4;refine⟨Φ,δ,ch,F,ρ,_,_,en,h1,fun v F1 H1 ρ1 a1 r1=>?_⟩;have r1:=r1.1;have rv:v=.str z:=by simpa only[RelC,RelS,Rep] using r1
 subst rv;exact⟨rfl,Φ,δ,_,F1,ρ1,_,_,en.adv a1,h2,fun us F2 H2 ρ2 a2 r2=>hr F2 H2 (.str z) _ ds us Q t a2.gh.fh (RepB.of a2.gh.fh eM) (fW a2.gh r2 h3) h4 (bZ a2.gh hf5 ((k.adv a1).adv a2))⟩
def eDn(m:Md)(t:Bool):Fg:=fun _ ch=>fin m ch (if t then .dcT []else .dct [])
theorem wQ{t:Bool}:GE G X (.Dict [] [] pos) (eDn m t):=by
 cases t with
 |false=>exact PE.mono rV fun σ H Q ⟨Φ,δ,ch,F,ρ,c,ch',en,O,k⟩ p hp=>bZ (t:=.dct []) en.gh O k _ _ F (fun b=>b=p) (Step.made en.gh.fh hp) ⟨p,[],rfl,rfl,ah,rfl,by simp[Reps]⟩ fun b z=>by subst z;exact⟨en.gh.fh.free hp,hp,_,ah,nofun⟩
 |true=>exact PE.mono rW fun σ H Q ⟨Φ,δ,ch,F,ρ,c,ch',en,O,k⟩ p hp=>bZ (t:=.dcT []) en.gh O k _ _ F (fun b=>b=p) (Step.made en.gh.fh hp) ⟨p,[],rfl,rfl,ah,rfl,by simp[Reps]⟩ fun b z=>by subst z;exact⟨en.gh.fh.free hp,hp,_,ah,nofun⟩
def getV(ch:CH)(x:CV)(k:Dt)(z:CV):ζ CV:=match x with
 |.ref i=>match ch[i]? with
  |some (.dK l)=>(cX k).map fun k=>(lkC l k).getD z
  |some (.dT l)=>(isK k).map fun k=>(lkC l k).getD z
  |_=>ψ
 |x=>(vw ch x).bind fun x=>(az x k).map fun r=>(r.map .g).getD z
def km(ch:CH)(x:CV):Bool:=match x with
 |.ref i=>match ch[i]? with
  |some (.dK _)|some (.dT _)=>θ
  |_=>ξ
 |x=>match vw ch x with
  |some (.dct _ _)|some (.dcT _ _)=>θ
  |_=>ξ
def eGt(fa fk fe:Fg):Fg:=fun δ ch=>(fa δ ch).bind fun p=>if km p.2 p.1 then(fk δ p.2).bind fun q=>(fe δ q.2).bind fun r=>(vw r.2 q.1).bind fun k=>if r.1.sol then(getV r.2 p.1 k r.1).map fun c=>(c,r.2)else ψ else ψ
theorem wR{F:Hp}{c:CV}{v:V}(g:Gh G F H ρ ch)(r:RelC G F H ρ ch.length c v)(h:km ch c=θ):∃a,v=.ref a/\IsD H a:=by
 have U:∀d,vw ch c=ς d->(match (ς d:ζ Dt)with|some (.dct _ _)|some (.dcT _ _)=>θ|_=>ξ)=θ->∃a,v=.ref a/\IsD H a:=fun d Z h=>by
  have W:=aV g r Z;cases d with
  |dct ks l=>obtain⟨a,J1,e,q,_⟩:=W;exact⟨a,e,.inl ⟨J1,q⟩⟩
  |dcT ks l=>obtain⟨a,J1,e,q,_⟩:=W;exact⟨a,e,.inr ⟨J1,q⟩⟩
  |_=>cases h
 cases c with
 |ref i=>
  obtain⟨hi,rfl⟩:=r;cases q:ch[i]? with
  |none=>simp[km,q]at h
  |some o=>
   have O:=g.ok i o q;cases o with
   |dK l=>obtain⟨_,J1,e,_⟩:=O;exact⟨_,rfl,.inl ⟨J1,.of e⟩⟩
   |dT l=>obtain⟨_,J1,e,_⟩:=O;exact⟨_,rfl,.inr ⟨J1,.of e⟩⟩
   |_=>simp[km,q]at h
 |g d=>exact U d rfl h
 |own b t=>
  cases q:vw ch (.own b t)with
  |none=>simp[km,q]at h
  |some d=>exact U d q (by simp only[km]at h;rw[q]at h;exact h)
 |fn _ _=>cases h
theorem wS{F:Hp}{x z c:CV}{k:Dt}{Z:V}(hI:fX G.K=θ)(g:Gh G F H ρ ch)(rx:RelC G F H ρ ch.length x vx)(rk:RepB G.K F H k vk)(rz:RelS G F ρ ch.length z Z)(h:getV ch x k z=ς c):∃a o,vx=.ref a/\DGet H a vk o/\RelS G F ρ ch.length c (o.getD Z):=by
 have W:(vw ch x).bind (fun x=>(az x k).map fun r=>(r.map .g).getD z)=ς c->∃a o,vx=.ref a/\DGet H a vk o/\RelS G F ρ ch.length c (o.getD Z):=fun h=>by
  obtain⟨d,h1,h2⟩:=bS h;obtain⟨r,O,rfl⟩:=mS h2;obtain⟨a,o,e,hg,hm⟩:=ie hI g.fh (aV g rx h1) rk O;refine⟨a,o,e,hg,?_⟩;cases r with
  |none=>rw[hm.2 rfl];exact rz
  |some y=>obtain⟨v,rfl,rv⟩:=hm.1 y rfl;exact rv
 have obj:∀{κ:Type}[DecidableEq κ]{n:Nat}{l:η (κ×CV)}{J1:η (κ×V)}{k:κ},J1.map (·.1)=l.map (·.1)->RelSs G F ρ ch.length (l.map (·.2)) (J1.map (·.2))->RelS G F ρ ch.length ((lkC l k).getD z) ((bM J1 k).getD Z):=fun {κ _ n l J1 k} h2 O=>by
  have lk:=gD (k:=k) h2 O;cases q:lkC l k with
  |none=>rw[q]at lk;rw[lk];exact rz
  |some c=>rw[q]at lk;obtain⟨v,e,r⟩:=lk;rw[e];exact r
 cases x with
 |ref i=>
  obtain⟨hi,rfl⟩:=rx;cases q:ch[i]? with
  |none=>simp[getV,q]at h
  |some o=>
   have U:=g.ok i o q;cases o with
   |dK l=>simp only[getV,q]at h;obtain⟨j,hj,rfl⟩:=mS h;obtain⟨nd,J1,h1,h2,O⟩:=U;rw[dD rk hj];exact⟨_,_,rfl,DGet.k h1,obj (n:=0) h2 O⟩
   |dT l=>simp only[getV,q]at h;obtain⟨j,hj,rfl⟩:=mS h;obtain⟨nd,J1,h1,h2,O⟩:=U;obtain⟨b,rfl,hb⟩:=kj hI hj rk;exact⟨_,_,rfl,DGet.t h1 (g.fh _ _ hb),obj (n:=0) h2 O⟩
   |_=>simp[getV,q]at h
 |g d=>exact W h
 |own b t=>exact W h
 |fn _ _=>cases h
theorem wT{k:Nat}{ke:J6}(hI:fX G.K=θ)(hr:Room k X.A)(ho:GE G X o fa)(hk:GE G X ke fk)(he:GE G X e fe)(mm:M2 X o "get" apos ke e cpos):GE G X (.Call (.Attribute o "get" apos) [ke,e] [] cpos) (eGt fa fk fe):=PE.mono (rX (lj hr) ho hk he mm) fun σ H Q ⟨Φ,δ,ch,F,ρ,c,ch',en,hf,k⟩=>by
 obtain⟨p,h1,U⟩:=bS hf;split at U<;>first|(cases U;done)|skip
 rename_i hd;obtain⟨q,h2,Z⟩:=bS U;obtain⟨r,h3,W⟩:=bS Z;obtain⟨d,h4,O⟩:=bS W;split at O<;>first|(cases O;done)|skip
 rename_i hs;obtain⟨c',h5,e5⟩:=mS O;cases e5;refine⟨Φ,δ,ch,F,ρ,_,_,en,h1,fun v F1 H1 ρ1 a1 r1=>?_⟩;obtain⟨a,ea,da⟩:=wR a1.gh r1.1 hd;refine⟨a,ea,da,Φ,δ,_,F1,ρ1,_,_,en.adv a1,h2,fun w F2 H2 ρ2 a2 r2=>⟨Φ,δ,_,F2,ρ2,_,_,(en.adv a1).adv a2,h3,fun u F3 H3 ρ3 a3 r3=>?_⟩⟩;obtain⟨b,o,eb,hg,rc⟩:=wS hI a3.gh ((r1.1.adv a2).adv a3) (aV a3.gh (r2.1.adv a3) h4) (r3.1.s hs) h5;rw[ea]at eb;cases eb;exact⟨o,hg,((k.adv a1).adv a2).sol a3 rc⟩
end
def b6{κ:Type}[DecidableEq κ]:η (κ×CV)->κ->CV->η (κ×CV)
 |[],k,c=>[(k,c)]
 |p::l,k,c=>if p.1=k then(p.1,c)::l else p::b6 l k c
section
variable{κ:Type}[DecidableEq κ]{k:κ}{c:CV}{v:V}
theorem lF{j:κ}:∀{l:η (κ×CV)},j∈(b6 l k c).map (·.1)->j=k∨j∈l.map (·.1)
 |[],h=>by simp[b6]at h;exact .inl h
 |p::l,h=>by
  unfold b6 at h;split at h
  .exact .inr (by simpa using h)
  .rcases qc4.mp h with e|h
   .exact .inr (by simp[e])
   .exact(lF h).imp_right (qe6 _)
theorem kq:∀{l:η (κ×CV)},(l.map (·.1)).Nodup->((b6 l k c).map (·.1)).Nodup
 |[],_=>by simp[b6]
 |p::l,h=>by
  have h':=qd6.mp h;unfold b6;split
  .exact h
  .rename_i O;refine qd6.mpr ⟨fun z=>?_,kq h'.2⟩;rcases lF z with e|e
   .exact O e
   .exact h'.1 e
theorem im {G:Gx} {F:Hp} (r:RelS G F ρ n c v):∀ {l:η (κ×CV)} {J1:η (κ×V)},(l.map (·.1)).Nodup->J1.map (·.1)=l.map (·.1)->RelSs G F ρ n (l.map (·.2)) (J1.map (·.2))→
  (bT J1 k v).map (·.1)=(b6 l k c).map (·.1)/\RelSs G F ρ n ((b6 l k c).map (·.2)) ((bT J1 k v).map (·.2))
 |[],[],_,_,_=>⟨rfl,.cons r .nil⟩
 |[],q::J1,_,h,_=>by cases h
 |p::l,[],_,h,_=>by cases h
 |p::l,q::J1,nd,h,rs=>by
  simp only[qa3,zc0]at h;obtain⟨h1,h2⟩:=h;obtain _|⟨r1,r2⟩:=rs;have U:=qd6.mp nd;by_cases W:p.1=k
  .have Z:q.1=k:=h1.trans W
   have O:∀x∈J1,¬ x.1=k:=fun x hx e=>U.1 (by have:x.1∈J1.map (·.1):=List.mem_map_of_mem hx;rw[h2]at this;rw[e,<- W]at this;exact this)
   have e2:bT (q::J1) k v=(q.1,v)::J1:=by
    unfold bT;rw[if_pos (by simp[Z])];simp only[qa3,if_pos Z,zc0,true_and];have:∀x∈J1,(if x.1=k then(x.1,v)else x)=id x:=fun x hx=>if_neg (O x hx)
    rw[qn2 this,List.map_id]
   have e1:b6 (p::l) k c=(p.1,c)::l:=by simp only[b6,if_pos W]
   rw[e1,e2];exact⟨by simp[h1,h2],.cons r r2⟩
  .have Z:¬ q.1=k:=fun z=>W (h1.symm.trans z)
   have e2:bT (q::J1) k v=q::bT J1 k v:=by
    unfold bT;by_cases ha:(J1.any fun kv=>decide (kv.1=k))=θ
    .rw[if_pos ha,if_pos (by simp only[ql5,ha,Bool.or_true])];simp only[qa3,if_neg Z]
    .rw[if_neg ha,if_neg (by simp only[ql5,decide_eq_false Z,ze4];exact ha)];rfl
   have e1:b6 (p::l) k c=p::b6 l k c:=by simp only[b6,if_neg W]
   obtain⟨i1,i2⟩:=im r U.2 h2 r2;rw[e1,e2];exact⟨by simp[h1,i1],.cons r1 i2⟩
end
def ni(o:CO)(d:Dt)(c:CV):ζ CO:=match o with
 |.e l=>(asI d).bind fun j=>(ixN l.length j).map fun m=>.e (l.set m c)
 |.dK l=>(cX d).bind fun k=>if l.length<qa9 then ς (.dK (b6 l k c))else ψ
 |.dT l=>(isK d).bind fun k=>if l.length<qa9 then ς (.dT (b6 l k c))else ψ
 |_=>ψ
variable{aop:qv3}
section
variable{G:Gx}{X:Cx}{st:Stmt}{e c o ik:J6}{es:η J6}{pos pos' apos cpos:Pos}{f fa fe fk:Fg}{fs:FM (η CV)}{i:Nat}{Φ:Fr0}{F H F' H' F1 H1:Hp}{ρ ρ' ρ1:Nat->J4}{δ:Sl}{σ:af}{ch ch' ch1:CH}{D:Ends}
theorem wU{κ:Type}{l:η (κ×CV)}{J1:η (κ×V)}(h:J1.map (·.1)=l.map (·.1)):J1.length=l.length:=by have:=congrArg qm0 h;simpa using this
theorem wV {o:CO} {w:CO} {d:Dt} {x:CV} {v:V} {P:Hp->Prop} (hI:fX G.K=θ) (g:Gh G F H ρ ch) (Z:ch[i]?=ς o) (rk:RepB G.K F H d vk) (r:RelS G F ρ ch.length x v) (h:ni o d x=ς w) (k:∀ H',Adv G F H ρ ch F H' ρ (ch.set i w)->P H') :
  yL (.ref (ρ i)) vk v H P∨y8 (.ref (ρ i)) vk v H P:=by
 have O:=g.ok i o Z;cases o with
 |e l=>obtain⟨j,U,h⟩:=bS h;obtain⟨m,hm,rfl⟩:=mS h;obtain⟨vs,q1,q2⟩:=O;exact .inl ⟨_,vs,j,m,rfl,ig U rk,q1,by rw[RelSs.length q2];exact hm,k _ (.put (o:=.e (l.set m x)) g Z trivial ⟨_,ah,Paired.set r m q2⟩)⟩
 |dK l=>
  obtain⟨j,U,h⟩:=bS h;split at h<;>cases h
  rename_i hz;obtain⟨W,J1,q1,q2,q3⟩:=O;obtain⟨z1,z2⟩:=im (k:=j) r W q2 q3;rw[dD rk U];exact .inr ⟨_,_,rfl,DPut.k q1 (by rw[wU q2];exact hz),k _ (.put (o:=.dK (b6 l j x)) g Z trivial ⟨kq W,_,ah,z1,z2⟩)⟩
 |dT l=>
  obtain⟨j,U,h⟩:=bS h;split at h<;>cases h
  rename_i hz;obtain⟨W,J1,q1,q2,q3⟩:=O;obtain⟨z1,z2⟩:=im (k:=j) r W q2 q3;obtain⟨b,rfl,hb⟩:=kj hI U rk;exact .inr ⟨_,_,rfl,DPut.t q1 (g.fh _ _ hb) (by rw[wU q2];exact hz),k _ (.put (o:=.dT (b6 l j x)) g Z trivial ⟨kq W,_,ah,z1,z2⟩)⟩
 |_=>cases h
def sPt(fa fk fe:Fg):Fs:=fun δ ch=>(fe δ ch).bind fun p=>(fa δ p.2).bind fun q=>(fk δ q.2).bind fun r=>match q.1 with
 |.ref i=>if p.1.sol then(vw r.2 r.1).bind fun d=>((r.2[i]?).bind fun o=>ni o d p.1).map fun o'=>.nx δ (r.2.set i o')else ψ
 |_=>ψ
structure AsS(X:Cx)(o ik e:J6)(pos pos':Pos):Prop where
 hs:qt8 [.Subscript o ik pos'] e pos.line X.env=pure ξ
 hw:ze0 [.Subscript o ik pos'] e X.env=pure ψ
 h1:(qi1 [.Subscript o ik pos'] X.env).map (·.2)=[qz3 (.Subscript o ik pos') X.env]
 ha:∀ v,qz3 (.Subscript o ik pos') X.env v=(do
     let ov <- qp1 [v] (eval o X.env);let iv <- qp1 [v,ov] (eval ik X.env)
     qw5 pos'
     qp1 [v,ov,iv] (setItem ov iv v)
     release [v,ov,iv] [])
theorem BH{k:Nat}(hI:fX G.K=θ)(hr:Room k X.A)(hx:GE G X o fa)(hk:GE G X ik fk)(he:GE G X e fe)(A:AsS X o ik e pos pos'):GS1 G X (.Assign [.Subscript o ik pos'] e pos) (sPt fa fk fe):=
 PSBq.mono (qU he (Ae hx hk (PSet.or rL (sM (lj hr))) A.ha) A.hs A.hw A.h1) fun D σ H ⟨Φ,δ,ch,F,ρ,og,en,hg,kk⟩=>by
  obtain⟨p,h1,W⟩:=bS hg;obtain⟨⟨c2,ch2⟩,h2,hg2⟩:=bS W;obtain⟨r,h3,O⟩:=bS hg2;dsimp only at h3 O;cases c2 with
  |ref i=>
   dsimp only at O;split at O<;>first|(cases O;done)|skip
   rename_i hs;obtain⟨d,h4,U⟩:=bS O;obtain⟨w,h5,e5⟩:=mS U;cases e5;obtain⟨o,ho,h6⟩:=bS h5;refine⟨Φ,δ,ch,F,ρ,_,_,en,h1,fun v F1 H1 ρ1 a1 r1=>⟨Φ,δ,_,F1,ρ1,_,_,en.adv a1,h2,fun x F2 H2 ρ2 a2 r2=>⟨Φ,δ,_,F2,ρ2,_,_,(en.adv a1).adv a2,h3,fun y F3 H3 Z a3 r3=>?_⟩⟩⟩;obtain⟨hi,rfl⟩:=(r2.1.adv a3);exact wV hI a3.gh ho (aV a3.gh r3.1 h4) (((r1.1.adv a2).adv a3).s hs) h6 fun H' a4=>kk σ F3 H' Z ((((en.adv a1).adv a2).adv a3).adv a4)
  |_=>cases O
def putT(t:T)(d x:Dt):ζ T:=match t with
 |.e l=>(asI d).bind fun j=>(ixN l.length j).map fun m=>.e (l.set m x)
 |.dct l=>(cX d).bind fun k=>if l.length<qa9/\(l.map (·.1)).Nodup then ς (.dct (bY l k x))else ψ
 |.dcT l=>(isK d).bind fun k=>if l.length<qa9/\(l.map (·.1)).Nodup then ς (.dcT (bY l k x))else ψ
 |_=>ψ
def lG:CV->ζ T
 |.own θ t=>ς t
 |_=>ψ
def b7(δ:Sl)(i:Nat):ζ T:=(δ[i]?).join.bind lG
theorem tD{t:T}(h:b7 δ i=ς t):δ[i]?=ς (ς (.own θ t)):=by
 unfold b7 at h;obtain⟨c,h1,h2⟩:=bS h;cases q:δ[i]? with
 |none=>rw[q]at h1;cases h1
 |some u=>
  rw[q]at h1;simp only[qp8]at h1;subst h1;cases c with
  |own b t'=>cases b<;>cases h2;rfl
  |_=>cases h2
def sPs(i:Nat)(fk fe:Fg):Fs:=fun δ ch=>(fe δ ch).bind fun p=>(fk δ p.2).bind fun r=>match p.1 with
 |.g x=>(vw r.2 r.1).bind fun d=>(b7 δ i).bind fun t=>(putT t d x).map fun t'=>.nx (δ.set i (ς (.own θ t'))) r.2
 |_=>ψ
def cr(c f:Nat)(o:CO)(x:CV):ζ CO:=match o with
 |.ins O l=>if O=c/\x.sol=θ/\l.length<1000 then(if f<l.length then ς (.ins c (l.set f x))else if f=l.length then ς (.ins c (l++[x]))else ψ)else ψ
 |_=>ψ
theorem oE{fn:Str}{v:V}:∀{fs:η (Str×V)}{f:Nat},(fs.map (·.1)).Nodup->(fs.map (·.1))[f]?=ς fn->(bI fn v fs).map (·.1)=fs.map (·.1)/\(bI fn v fs).map (·.2)=(fs.map (·.2)).set f v
 |[],f,_,h=>by simp at h
 |(g,x)::fs,0,_,h=>by simp at h;subst h;simp[bI]
 |(g,x)::fs,f+1,O,h=>by
  simp only[qa3,qd6]at O;simp only[qa3,qd2]at h;have W:g≠fn:=fun e=>O.1 (by rw[e];exact qa5 h)
  obtain⟨Z,U⟩:=oE (v:=v) O.2 h;simp[bI,W,Z,U]
theorem lH{fn:Str}{v:V}:∀{fs:η (Str×V)},fn∉fs.map (·.1)->(bI fn v fs).map (·.1)=fs.map (·.1)++[fn]/\(bI fn v fs).map (·.2)=fs.map (·.2)++[v]
 |[],_=>by simp[bI]
 |(g,x)::fs,h=>by simp only[qa3,qc4,not_or]at h;obtain⟨U,O⟩:=lH (v:=v) h.2;simp[bI,qk5 h.1,U,O]
theorem oF {c f:Nat} {o w:CO} {x:CV} {v:V} {pn:Str×η Str} {fn:Str} (hc:jo G c) (hp:G.ct[c]?=ς pn) (W:pn.2[f]?=ς fn) (g:Gh G F H ρ ch) (ho:ch[i]?=ς o) (r:RelS G F ρ ch.length x v) (h:cr c f o x=ς w) :
  ∃C dx fs,ClsAt G.K pn.1 C/\H (ρ i)=ς (.ins C dx fs)/\Cls G.K C/\NoAttr G.K C fn/\fs.length<1000/\Adv G F H ρ ch F (upd H (ρ i) (.ins C dx (bI fn v fs))) ρ (ch.set i w):=by
 cases o with
 |ins c' l=>
  have h:(if c'=c/\x.sol=θ/\l.length<1000 then(if f<l.length then ς (CO.ins c (l.set f x))else if f=l.length then ς (CO.ins c (l++[x]))else ψ)else ψ)=ς w:=h;split at h<;>first|(cases h;done)|skip
  rename_i hz;obtain⟨rfl,_,hz⟩:=hz;obtain⟨p',C',dx,fs,O,h0,ha,h2,h3⟩:=g.ok i _ ho;rw[hp]at O;cases O
  obtain⟨C,U,hcl,nd,Z⟩:=hc pn hp;have:=U.inj h0;subst this;have hl:fs.length=l.length:=by have:=RelSs.length h3;simpa using this
  have nd':(fs.map (·.1)).Nodup:=by rw[h2];exact nd.sublist (qo9 _ _)
  refine⟨C,dx,fs,U,ha,hcl,Z _ (qa5 W),Θ,?_⟩;split at h
  .rename_i hf;cases h;have hx:(fs.map (·.1))[f]?=ς fn:=by rw[h2,qq7 hf];exact W
   obtain⟨i1,i2⟩:=oE (v:=v) nd' hx;exact .put g ho trivial ⟨pn,C,dx,_,hp,U,ah,by rw[i1,h2];simp,by rw[i2];exact Paired.set r f h3⟩
  .split at h<;>cases h
   rename_i hf
   have hx:fn∉fs.map (·.1):=by
    rw[h2];intro z;obtain⟨j,hj,e⟩:=List.mem_iff_getElem.mp z;rw[List.getElem_take]at e;have hj':j<l.length:=by rw[qk9]at hj;lia
    have e1:pn.2[j]?=ς fn:=by rw[<- e];simp
    have:=gU nd e1 W;lia
   obtain⟨i1,i2⟩:=lH (v:=v) hx;refine .put g ho trivial ⟨pn,C,dx,_,hp,U,ah,?_,by rw[i2];exact Paired.app h3 (.cons r .nil)⟩;rw[i1,h2,qc5,qb8,qg4,List.take_add_one,<- hf,W];rfl
 |_=>cases h
def sFl(c f:Nat)(fa fe:Fg):Fs:=fun δ ch=>(fe δ ch).bind fun p=>(fa δ p.2).bind fun q=>match q.1 with
 |.ref i=>((q.2[i]?).bind fun o=>cr c f o p.1).map fun o'=>.nx δ (q.2.set i o')
 |_=>ψ
theorem nj{c f:Nat}{o w:CO}{x:CV}(h:cr c f o x=ς w):x.sol=θ:=by
 unfold cr at h;split at h
 .split at h<;>first|(cases h;done)|skip
  rename_i O;exact O.2.1
 .cases h
theorem BI{c f:Nat}{pn:Str×η Str}{fn:Str}(hK:X.K=G.K)(hc:jo G c)(hp:G.ct[c]?=ς pn)(hn:pn.2[f]?=ς fn)(h:GE G X o fa)(he:GE G X e fe)(hs:qi6 e (ς (.Attribute o fn pos')) pos.line X.env=pure ξ):GS1 G X (.Assign [.Attribute o fn pos'] e pos) (sFl c f fa fe):=
 PSBq.mono (AC h he hs) fun D σ H ⟨Φ,δ,ch,F,ρ,og,en,hg,kk⟩=>by
  obtain⟨p,h1,U⟩:=bS hg;obtain⟨⟨c2,ch2⟩,h2,O⟩:=bS U;cases c2 with
  |ref i=>obtain⟨w,h5,e5⟩:=mS O;cases e5;obtain⟨o,ho,W⟩:=bS h5;refine⟨Φ,δ,ch,F,ρ,_,_,en,h1,fun v F1 H1 ρ1 a1 r1=>⟨Φ,δ,_,F1,ρ1,_,_,en.adv a1,h2,fun x F2 H2 ρ2 a2 Z=>?_⟩⟩;obtain⟨hi,rfl⟩:=Z.1;obtain⟨C,dx,fs,_,q1,q2,q3,q4,a3⟩:=oF hc hp hn a2.gh ho ((r1.1.adv a2).s (nj W)) W;rw[hK];exact⟨_,C,dx,fs,rfl,q1,q2,q3,q4,kk σ F2 _ ρ2 (((en.adv a1).adv a2).adv a3)⟩
  |_=>cases O
def sFa(c f:Nat)(op:Int->Int->Int)(fa fe:Fg):Fs:=fun δ ch=>(fa δ ch).bind fun p=>match p.1 with
 |.ref i=>match p.2[i]? with
  |some (.ins O l)=>if O=c then(l[f]?).bind fun x=>(bO x).bind fun n=>(fe δ p.2).bind fun q=>(bO q.1).bind fun m=>((q.2[i]?).bind fun o=>cr c f o (.g (.int (op n m)))).map fun o'=>.nx δ (q.2.set i o')else ψ
  |_=>ψ
 |_=>ψ
theorem qp{c f:Nat}{pn:Str×η Str}{fn:Str}{op:Int->Int->Int}{tpos:Pos}(hK:X.K=G.K)(hc:jo G c)(hp:G.ct[c]?=ς pn)(hn:pn.2[f]?=ς fn)(ho:InOp X aop (ipI op))(h:GE G X o fa)(he:GE G X e fe):GS1 G X (.AugAssign (.Attribute o fn tpos) aop e pos) (sFa c f op fa fe):=
 PSBq.mono (pU h he ho) fun D σ H ⟨Φ,δ,ch,F,ρ,og,en,hg,kk⟩=>by
  have⟨⟨c1,ch1⟩,h1,hg1⟩:=bS hg;clear hg;cases c1 with
  |ref i=>
   dsimp only at hg1;split at hg1<;>first|(cases hg1;done)|skip
   rename_i c' l ho1;split at hg1<;>first|(cases hg1;done)|skip
   rename_i U;subst U;obtain⟨x,h2,hg2⟩:=bS hg1;obtain⟨n,h3,hg3⟩:=bS hg2;obtain⟨q,h4,hg4⟩:=bS hg3;obtain⟨m,h5,W⟩:=bS hg4;obtain⟨w,h6,e6⟩:=mS W;cases e6;obtain⟨o2,ho2,h7⟩:=bS h6;refine⟨Φ,δ,ch,F,ρ,_,_,en,h1,fun v F1 H1 ρ1 a1 r1=>?_⟩;obtain⟨hi,rfl⟩:=r1.1;obtain⟨p',C',dx,fs,O,h0,ha,z2,z3⟩:=a1.gh.ok i _ ho1;rw[hp]at O;cases O
   obtain⟨C,hC,hcl,nd,hna⟩:=hc pn hp;have:=hC.inj h0;subst this;obtain⟨u,hu,ru⟩:=Paired.get z3 h2;have hu2:=cO h3 ru.toC (H:=H1);subst hu2;rw[hK];refine⟨_,C,dx,fs,_,rfl,ha,hcl,hna _ (qa5 hn),dX (by rw[z2];exact nd.sublist (qo9 _ _)) (lw z2 h2 hn) hu,Φ,δ,_,F1,ρ1,_,_,en.adv a1,h4,fun y F2 H2 ρ2 a2 r2=>?_⟩;have hy:=cO h5 r2.1;subst hy;refine⟨n,m,rfl,rfl,?_⟩;have hz:ρ2 i=ρ1 i:=a2.ext i hi;obtain⟨C2,dx2,Z,q0,q1,q2,q3,q4,a3⟩:=oF hc hp hn a2.gh ho2 (show RelS G F2 ρ2 _ (.g (.int (op n m))) (.int (op n m))from br (K:=G.K) (F:=F2)) h7;have:=hC.inj q0;subst this;rw[hz]at q1 a3;exact⟨dx2,Z,q1,q4,kk σ F2 _ ρ2 (((en.adv a1).adv a2).adv a3)⟩
  |_=>cases hg1
def sAu(i:Nat)(op:Int->Int->Int)(fe:Fg):Fs:=fun δ ch=>((δ[i]?).join.bind bO).bind fun n=>(fe δ ch).bind fun q=>(bO q.1).map fun m=>.nx (δ.set i (ς (.g (.int (op n m))))) q.2
theorem BJ{op:Int->Int->Int}(h:cm sc N i x=θ)(hl:iQ sc x=θ)(nd:N.Nodup)(ho:PIp X aop (ipI op))(he:GE G X e fe)(e1:bp X sc)(e2:X.N=N)(hf:X.fn x=θ∨X.env.scope.names.lookup x=ς .local):GS1 G X (.AugAssign (.Name x pos') aop e pos) (sAu i op fe):=by
 subst e2;refine PSBq.mono (Ag nd (fN h) (by rw[e1];exact j0 hl) he ho hf) fun D σ H ⟨Φ,δ,ch,F,ρ,og,en,hg,kk⟩=>?_
 obtain⟨n,h1,O⟩:=bS hg;obtain⟨q,h2,U⟩:=bS O;obtain⟨m,h3,e3⟩:=mS U;cases e3;obtain⟨c,h4,h5⟩:=bS h1
 have Z:δ[i]?=ς (ς c):=by
  cases q:δ[i]? with
  |none=>rw[q]at h4;cases h4
  |some u=>rw[q]at h4;simp only[qp8]at h4;rw[h4]
 obtain⟨v,q1,q2⟩:=en.has i c Z;have:=cO h5 q2;subst this;refine⟨_,q1,Φ,δ,ch,F,ρ,_,_,en,h2,fun y F2 H2 ρ2 a2 W=>?_⟩;have hy:=cO h3 W.1;subst hy;exact⟨n,m,rfl,rfl,kk _ F2 H2 ρ2 ((en.adv a2).dat br i)⟩
def sUn(pt:Pt)(fe:Fg):Fs:=fun δ ch=>(fe δ ch).bind fun p=>match p.1 with
 |.g d=>(bnd pt d δ).map fun δ'=>.nx δ' p.2
 |_=>ψ
theorem BK{pt:Pt}(he:GE G X e fe)(hg:GP G X tg pt)(hs:qt8 [tg] e pos.line X.env=pure ξ)(hw:ze0 [tg] e X.env=pure ψ)(h1:(qi1 [tg] X.env).map (·.2)=[qz3 tg X.env]):GS1 G X (.Assign [tg] e pos) (sUn pt fe):=PSBq.mono (qU he hg hs hw h1) fun D σ H ⟨Φ,δ,ch,F,ρ,og,en,W,kk⟩=>by
 obtain⟨⟨c,ch1⟩,h1,O⟩:=bS W;cases c with
 |g d=>obtain⟨δ',h2,e2⟩:=mS O;cases e2;exact⟨Φ,δ,ch,F,ρ,_,_,en,h1,fun v F1 H1 ρ1 a1 r1=>⟨Φ,δ,_,F1,ρ1,d,δ',en.adv a1,r1.1,h2,fun Z U _=>kk Z F1 H1 ρ1 U⟩⟩
 |_=>cases O
structure AsM(X:Cx)(o:J6)(m:Str)(apos:Pos)(es:List J6)(cpos:Pos):Prop where
 base:qh5 o m X.env (eval o X.env)=eval o X.env
 few:((qh3 cpos (qb3 es X.env)).all (fun x=>!x.1)&&(qo8 cpos (qi2 [] X.env)).all (fun x=>x.1.isSome)
     && decide (es.length+([]:List qw7).length+(if([]:List qw7).isEmpty then 0 else 1)<30))=θ
 line:(apos.endLine==cpos.line)=θ
 star:∀e r,es=e::r->qb3 (e::r) X.env=(ξ,eval e X.env)::qb3 r X.env/\(qh3 cpos (qb3 r X.env)).any (·.1)=ξ
def eQ(ch:CH)(i:Nat):ζ (η CV):=match ch[i]? with
 |some (.e l)=>ς l
 |_=>ψ
theorem cC{l:η CV}(h:eQ ch i=ς l):ch[i]?=ς (.e l):=by
 unfold eQ at h;split at h<;>cases h
 assumption
def sAp(fa fe:Fg):Fs:=fun δ ch=>(fa δ ch).bind fun p=>(fe δ p.2).bind fun q=>match p.1 with
 |.ref i=>(eQ p.2 i).bind fun _=>(eQ q.2 i).bind fun l=>if l.length<qa9/\q.1.sol=θ then ς (.nx δ (q.2.set i (.e (l++[q.1]))))else ψ
 |_=>ψ
theorem qq(hx:GE G X o fa)(he:GE G X e fe)(A:AsM X o "append" apos [e] cpos)(hsw:qi6 (.Call (.Attribute o "append" apos) [e] [] cpos) ψ pos.line X.env=pure ξ):GS1 G X (.Expr (.Call (.Attribute o "append" apos) [e] [] cpos) pos) (sAp fa fe):=
 PSBq.mono (dB (ld PySem.F.plainAttrs_list PySem.F.slot_list_append PySem.F.type_list_append fL hx (bF he cK (A.star _ _ rfl).1) A.base A.few A.line (A.star _ _ rfl).1 (A.star _ _ rfl).2) hsw) fun D σ H ⟨Φ,δ,ch,F,ρ,og,en,hg,k⟩=>by
  have⟨⟨c1,ch1⟩,h1,hg1⟩:=bS hg;obtain⟨q,h2,U⟩:=bS hg1;cases c1 with
  |ref i=>
   obtain⟨l0,h3,hg3⟩:=bS U;obtain⟨l,h4,O⟩:=bS hg3;split at O<;>cases O
   rename_i hz;refine⟨Φ,δ,ch,F,ρ,_,_,en,h1,fun v F1 H1 ρ1 a1 r1=>?_⟩;obtain⟨W,q0,_⟩:=a1.gh.ok i _ (cC h3);obtain⟨hi,rfl⟩:=r1.1;refine⟨.inl ⟨rfl,W,.inl (.inl q0)⟩,Φ,δ,_,F1,ρ1,_,_,en.adv a1,h2,fun w F2 H2 ρ2 a2 r2=>?_⟩;obtain⟨vs,q1,q2⟩:=a2.gh.ok i _ (cC h4);have Z:ρ2 i=ρ1 i:=a2.ext i hi;have a3:Adv G F2 H2 ρ2 q.2 F2 _ ρ2 _:=.put (o:=.e (l++[q.1])) (u:=.e (vs++[w])) a2.gh (cC h4) trivial ⟨_,ah,Paired.app q2 (.cons (r2.1.s hz.2) .nil)⟩;rw[Z]at q1 a3;exact⟨_,vs,w,rfl,rfl,q1,by rw[RelSs.length q2];exact hz.1,k σ F2 _ ρ2 (((en.adv a1).adv a2).adv a3)⟩
  |_=>cases U
def sAs(i:Nat)(fe:Fg):Fs:=fun δ ch=>(fe δ ch).bind fun q=>match q.1,b7 δ i with
 |.g d,ς (.e l)=>if l.length<qa9 then ς (.nx (δ.set i (ς (.own θ (.e (l++[d]))))) q.2)else ψ
 |_,_=>ψ
theorem nl(hx:PE X o (qO i))(he:GE G X e fe)(A:AsM X o "append" apos [e] cpos)(Z:qi6 (.Call (.Attribute o "append" apos) [e] [] cpos) ψ pos.line X.env=pure ξ):GS1 G X (.Expr (.Call (.Attribute o "append" apos) [e] [] cpos) pos) (sAs i fe):=
 PSBq.mono (dB (ld PySem.F.plainAttrs_list PySem.F.slot_list_append PySem.F.type_list_append fL hx (bF he cK (A.star _ _ rfl).1) A.base A.few A.line (A.star _ _ rfl).1 (A.star _ _ rfl).2) Z) fun D σ H ⟨Φ,δ,ch,F,ρ,og,en,hg,k⟩=>by
  have⟨⟨c1,ch1⟩,h1,hg1⟩:=bS hg;clear hg;cases c1 with
  |g d=>
   dsimp only at hg1;split at hg1<;>first|(cases hg1;done)|skip
   rename_i d' l ed ht;cases ed;split at hg1<;>cases hg1
   rename_i hz;have W:=tD ht;obtain⟨w,q1,q2⟩:=en.has i _ W;obtain⟨a,rfl,_,⟨_,U,e0,rfl,z1,z2⟩,_⟩:=id q2;refine⟨_,q1,.inl ⟨rfl,U,SqL.of z1⟩,Φ,δ,ch,F,ρ,_,_,en,h1,fun v F1 H1 ρ1 a1 r1=>?_⟩;have O:=en.adv a1;obtain⟨w,q3,q4⟩:=O.has i _ W;rw[q1]at q3;cases q3
   obtain⟨a',e',_,⟨_,vs,e1,rfl,y1,y2⟩,_⟩:=id q4;cases e';refine⟨_,vs,v,rfl,rfl,y1,by rw[y2.length];exact hz,k σ F1 _ ρ1 (O.poke W q1 rfl ⟨_,_,rfl,rfl,ah,y2.append (Reps.one r1.1)⟩)⟩
  |_=>cases hg1
end
def EntB(h:Heap)(d:J4)(kv:η (Value×Value))(ep:Nat):Prop:=∃o es,h.get? d=ς o/\o.ExactDict/\o.data=.dict es ep/\es.toList.map (fun e=>(e.key,e.val))=kv
variable{kv:η (Value×Value)}{ep:Nat}
theorem EntB.upTo{d:J4}(q:EntB h d kv ep)(k:∀o,h.get? d=ς o->h'.get? d=ς o):EntB h' d kv ep:=let ⟨o,es,h1,r⟩:=q;⟨o,es,k o h1,r⟩
theorem EntB.ty{s:qb0}{d:J4}(q:EntB s.heap d kv ep):s.TypeIs (.ref d) "dict":=let ⟨o,_,h1,h2,_⟩:=q;⟨o,h1,h2.1⟩
theorem EntB.lt{d:J4}(q:EntB h d kv ep):d<h.objs.size:=let ⟨_,_,h1,_⟩:=q;qb5 h1
abbrev iU(h:Heap)(it d:J4)(i n ep:Nat)(x0:Value)(f:Bool)(ok ov:Value):Prop:=h.get? it=ς {cls:=.type "dict_itemiterator",dict:=ψ,data:=.fields #[x0,.bool f,.ref d,.int i 0,.int n 0,.int ep 0,ok,ov],slots:=#[]}
def ItmS(h:Heap)(it d:J4)(i n ep:Nat):Prop:=∃O f ok U,iU h it d i n ep O f ok U/\((O=.none/\f=ξ)∨∃a:J4,O=qv4 a/\a≠it/\∃oa,h.get? a=ς oa)
section
variable{prog:qe7}{w:J5}{A:ql3}{E:Value->qb0->Prop}{s:qb0}{v d it:J4}{kv:η (Value×Value)}{i ep:Nat}
theorem qr(lo:(d==qk1)=ξ)(q:EntB s.heap d kv ep)(k:Q (.ref s.heap.objs.size) {s with heap:=s.heap.push {cls:=.type "dict_items",data:=.fields #[.ref d]}}):wpAny (model prog w) A (call (.builtin "dict.items") [.ref d]) Q E s:=by refine qj3 F.slot_dict_items q.ty F.entry_dict_items ?_ (F.args_dict_items_1 _);unfold qj1.«dict.items»;refine wB ?_;unfold qj1.Dict.noArgs;refine wB (qs6 q.ty ?_);show wpAny _ _ (pure d) _ _ s;refine qa6 ?_;show wpAny _ _ (zc1 d >>= _) _ _ s;unfold zc1;rw[if_neg (by rw[lo];exact qb7)];refine wB (qa6 ?_);exact wB (qf2 (qa6 ⟨_,rfl,k⟩))
theorem qt(W:s.heap.IsItemsView v d)(q:EntB s.heap d kv ep)
 (k:∀h',ItmS h' s.heap.objs.size d 0 kv.length ep->(∀b o,s.heap.get? b=ς o->h'.get? b=ς o)->s.heap.objs.size<h'.objs.size->Q (.ref s.heap.objs.size) {s with heap:=h'}):wpAny (model prog w) A (pyIter (.ref v)) Q E s:=by
 obtain⟨ov,U,hcv,O⟩:=id W;obtain⟨o,es,e1,e2,Z,e4⟩:=id q;refine wpAny_pyIter_slot W.typeIs za1 (qj3 za1 W.typeIs F.entry_dict_items_iter ?_ (F.args_dict_items_iter_1 _));unfold qj1.«dict_items.__iter__»;refine wB (qa6 (wB ?_));unfold qj1.Dict_items.dictOf;refine wB (qj2 U O (x:=.ref d) rfl (qa6 (wB ?_)));unfold qj1.Dict_items.newIterator;refine wB (qs4 e1 Z (wB (zc2 e1 Z ?_)));have ez:es.size=kv.length:=by rw[<- e4];simp
 have ow:qn9 "dict_itemiterator"=θ:=by decide
 simp only[ow,if_true]
 refine qf2 (qa6 ⟨_,rfl,"dict_itemiterator",_,⟨_,qb9 _ rfl,rfl⟩,qg7.lookup,?_⟩)
  (by simp only[sizeOk,qq3,qb6,qc5,qb8,qg4,qa7];lia)
 refine k _ ⟨.none,ξ,.none,.none,?_,.inl ⟨rfl,rfl⟩⟩ (fun b o e=>gP _ e) (by rw[qn6];exact qp7 _);show(s.heap.push _).get? s.heap.objs.size=_;rw[qb9 _ rfl];simp[qv4,ez,qq3]
theorem qu {U val:Value} {Q:ζ Value->qb0->Prop} (st:ItmS s.heap it d i kv.length ep) (q:EntB s.heap d kv ep) (hx:kv[i]?=ς (U,val))
  (k:∀h',ItmS h' it d (i+1) kv.length ep->h'.get? s.heap.objs.size=ς {cls:=.type "tuple",data:=.seq #[U,val]}->h'.objs.size=s.heap.objs.size+1→
   (∀b o,b≠it->s.heap.get? b=ς o->h'.get? b=ς o)->Q (ς (.ref s.heap.objs.size)) {s with heap:=h'}):wpAny (model prog w) A (qz4 (.ref it)) Q E s:=by
 obtain⟨hp,g,dr,tk,os⟩:=s;obtain⟨x0,f,ok,ov,hit,ho⟩:=st;obtain⟨od,es,e1,e2,e3,e4⟩:=id q;have hT:qb0.TypeIs ⟨hp,g,dr,tk,os⟩ (.ref it) "dict_itemiterator":=⟨_,hit,rfl⟩;unfold qz4;refine wB (wpAny_attempt (qj5 (name:=qa2 "__next__") hT qg7 (qj3 qg7 hT qs7 ?_ (qs5 _))));refine wB (qa6 (wB (wB ?_)))
 first|refine wB (qi9 hT (qa6 ?_))|refine wB (qm3 hT (qa6 ?_))
 refine wB (wpAny_fieldsOf hit rfl ?_);have ow:qn9 "dict_itemiterator"=θ:=by decide
 simp only[ow,if_true];show wpAny _ _ (if(qc1 d==qg2)=θ then _ else _) _ _ _;rw[if_neg (show ¬ ((qc1 d==qg2)=θ)from qb7)];refine wB (qa6 (wB (qs4 e1 e3 ?_)));have ez:es.size=kv.length:=by rw[<- e4];simp
 rw[if_neg (by rw[ez];simp)];refine wB (qa6 (wB (zc2 e1 e3 ?_)));rw[if_neg Ξ];refine qa6 ?_;have li:i<es.size:=by rw[ez];exact(gX hx).1
 have hkv:es[i].key=U/\es[i].val=val:=by rw[<- e4,qa8,zb6,qx4 li]at hx;have:=qc9 hx;exact⟨congrArg Prod.fst this,congrArg Prod.snd this⟩
 simp only[show ¬ ((i:Int)<0)from by lia,if_false,qi4,qx4 li];refine wB ?_
 first|refine wB (qi9 hT (qa6 ?_))|refine wB (qm3 hT (qa6 ?_))
 refine wB (qs0 hT ?_);show wpAny _ _ (setField (.ref it) 3 (qv4 ((i:Int)+1)) >>= _) _ _ ⟨hp,g,dr,tk,os⟩;refine qk0 (ql7 hit Ξ fun h1 he1 hs1=>?_)
 replace hs1:qg0 it hp h1:=hs1
 replace he1:iU h1 it d (i+1) kv.length ep x0 f ok ov:=by
  have e:((i+1:Nat):Int)=(i:Int)+1:=by lia
  unfold iU;rw[e];simpa[qv4] using he1
 have hT1:qb0.TypeIs ⟨h1,g,dr,tk,os⟩ (.ref it) "dict_itemiterator":=⟨_,he1,rfl⟩;refine wB (qn0 (wB (qs0 hT1 (wB (qs0 hT1 ?_)))));show wpAny _ _ (qr8 (.ref it) 6 es[i].key es[i].val) _ _ ⟨h1,g,dr,tk,os⟩;rw[hkv.1,hkv.2];unfold qr8;refine wB (wpAny_newTuple ?_);have Z:iU (h1.push {cls:=.type "tuple",data:=.seq #[U,val]}) it d (i+1) kv.length ep x0 f ok ov:=gP _ he1;generalize hh2:h1.push {cls:=.type "tuple",data:=.seq #[U,val]}=h2 at Z;have hz1:h1.objs.size=hp.objs.size:=hs1.1;have hil:it<hp.objs.size:=qb5 hit;have ht2:h2.get? hp.objs.size=ς {cls:=.type "tuple",data:=.seq #[U,val]}:=by rw[<- hh2,<- hz1];exact qb9 _ rfl
 have hz2:h2.objs.size=hp.objs.size+1:=by rw[<- hh2,qn6,hz1]
 have hk2:∀b o,b≠it->hp.get? b=ς o->h2.get? b=ς o:=fun b o hb e=>by rw[<- hh2];exact gP _ (hs1.extBut b o hb e)
 show wpAny _ _ (qq4 (.ref it) >>= _) _ _ ⟨h2,g,dr,tk,os⟩;rw[hz1];clear hh2 he1 hs1 hT1 hz1 h1
 have fin:∀(h3:Heap)(y0:Value)(f':Bool)(ok' ov':Value),iU h3 it d (i+1) kv.length ep y0 f' ok' ov'->(∃a:J4,y0=qv4 a/\a≠it/\∃oa,h2.get? a=ς oa)->qg0 it h2 h3->Q (ς (.ref hp.objs.size)) ⟨h3,g,dr,tk,os⟩:=fun h3 y0 f' ok' ov' he3 ha O=>by obtain⟨a,rfl,hai,oa,hoa⟩:=ha;exact k h3 ⟨_,f',ok',ov',he3,.inr ⟨a,rfl,hai,oa,O.extBut a oa hai hoa⟩⟩ (O.extBut _ _ (qi7 hil) ht2) (by show h3.objs.size=hp.objs.size+1;rw[O.1,hz2]) fun b o hb e=>O.extBut b o hb (hk2 b o hb e)
 refine wB ?_;unfold qq4;rcases ho with ⟨rfl,rfl⟩|⟨a,rfl,hai,oa,hoa⟩
 .refine wB (qj2 Z rfl (x:=.none) rfl (qa6 ?_));simp only[if_true];refine wB (qj2 Z rfl (x:=ok) rfl (wB (qj2 Z rfl (x:=ov) rfl ?_)));refine qk0 (ql7 Z Ξ fun h3 he3 O=>?_)
  replace O:qg0 it h2 h3:=O
  replace he3:iU h3 it d (i+1) kv.length ep .none ξ U ov:=he3
  refine qk0 (ql7 he3 Ξ fun h4 he4 hs4=>?_)
  replace hs4:qg0 it h3 h4:=hs4
  replace he4:iU h4 it d (i+1) kv.length ep .none ξ U val:=he4
  refine qk0 (ql7 he4 Ξ fun h5 he5 hs5=>?_)
  replace hs5:qg0 it h4 h5:=hs5
  replace he5:iU h5 it d (i+1) kv.length ep (qv4 hp.objs.size) ξ U val:=he5
  refine qk0 (ql7 he5 Ξ fun h6 he6 hs6=>?_)
  replace hs6:qg0 it h5 h6:=hs6
  replace he6:iU h6 it d (i+1) kv.length ep (qv4 hp.objs.size) ξ U val:=he6
  exact wB (wpAny_letGo (qa6 (qa6 ⟨_,rfl,qa6 (fin h6 _ _ _ _ he6 ⟨hp.objs.size,rfl,qi7 hil,_,ht2⟩ (O.trans (hs4.trans (hs5.trans hs6))))⟩)))
 .have ha2:h2.get? a=ς oa:=hk2 a oa hai hoa;refine wB (qj2 Z rfl (x:=qv4 a) rfl ?_);show wpAny _ _ (loadIfAlive ((a:Int).toNat) >>= _) _ _ _;rw[qi4];refine wB (PySem.W.kdx_alive ha2 ?_);simp only[Option.isNone_some,qg1,if_false];refine wB (qj2 Z rfl (x:=.bool f) rfl ?_);cases f with
  |true=>rw[if_neg (show ¬ ((qs1 θ != qs1 θ)=θ)from qb7)];refine qa6 ?_;simp only[qg1,if_false];exact qa6 (qa6 ⟨_,rfl,qa6 (fin h2 _ _ _ _ Z ⟨a,rfl,hai,oa,ha2⟩ (qg0.refl _ _))⟩)
  |false=>
   rw[if_pos (show(qs1 ξ != qs1 θ)=θ from rfl)];refine qk0 (ql7 Z Ξ fun h3 he3 O=>?_)
   replace O:qg0 it h2 h3:=O
   replace he3:iU h3 it d (i+1) kv.length ep (qv4 a) θ ok ov:=he3
   refine qa6 ?_;simp only[qg1,if_false];exact qa6 (qa6 ⟨_,rfl,qa6 (fin h3 _ _ _ _ he3 ⟨a,rfl,hai,oa,ha2⟩ O)⟩)
theorem tE {Q:ζ Value->qb0->Prop} (nh:A.handled=ψ) (st:ItmS s.heap it d i kv.length ep) (q:EntB s.heap d kv ep) (hi:i=kv.length)
  (k:∀h',Heap.ExtBut it s.heap h'->Q ψ {s with heap:=h'}):wpAny (model prog w) A (qz4 (.ref it)) Q E s:=by
 obtain⟨x0,f,ok,ov,O,ho⟩:=st;obtain⟨od,es,e1,e2,Z,e4⟩:=id q;have U:s.TypeIs (.ref it) "dict_itemiterator":=⟨_,O,rfl⟩;unfold qz4;refine wB (wpAny_attempt (qj5 (name:=qa2 "__next__") U qg7 (qj3 qg7 U qs7 ?_ (qs5 _))));refine wB (qa6 (wB (wB ?_)))
 first|refine wB (qi9 U (qa6 ?_))|refine wB (qm3 U (qa6 ?_))
 refine wB (wpAny_fieldsOf O rfl ?_);have ow:qn9 "dict_itemiterator"=θ:=by decide
 simp only[ow,if_true];show wpAny _ _ (if(qc1 d==qg2)=θ then _ else _) _ _ s;rw[if_neg (show ¬ ((qc1 d==qg2)=θ)from qb7)];refine wB (qa6 (wB (qs4 e1 Z ?_)));have W:es.size=kv.length:=by rw[<- e4];simp
 rw[if_neg (by rw[W];simp)];refine wB (qa6 (wB (zc2 e1 Z ?_)));rw[if_neg Ξ];refine qa6 ?_;have ge:es.size<=i:=by rw[W];lia
 simp only[show ¬ ((i:Int)<0)from by lia,if_false,qi4,Array.getElem?_eq_none ge];refine wB ?_
 first|refine wB (qi9 U (qa6 ?_))|refine wB (qm3 U (qa6 ?_))
 show wpAny _ _ (setField (.ref it) 2 .none >>= _) _ _ s;refine qk0 (zd2 O rfl Ξ ?_);show wpAny _ _ (newExc (.type "StopIteration") [] >>= _) _ _ _;refine wB ?_;simp only[newExc,newTuple];refine wB (qf2 ?_ (by size_fits));refine qk0 (m:=qx3 _ _) (wpAny_of_eq (a:=qg2) (by first|rfl|(simp only[qx3];rfl)) (qf2 ?_ (by size_fits)));simp only[raiseNew];refine wB (wpAny_handled ?_);rw[show A.in1.handled=ψ from nh];refine wB (qa6 (wpAny_throw ?_));refine wB (wpAny_isInstance (b:=true) (T:="StopIteration") ⟨_,qb9 _ rfl,rfl⟩ isSubtype_stop ?_);exact qa6 (k _ (((qq2 ..).extBut.push _).push _))
end
abbrev Orc:=J4->Hp->η Dt->ζ T
theorem oG:∀a b:η Nat,ltCps a b=ξ->ltCps b a=ξ->a=b
 |[],[],_,_=>rfl
 |[],_::_,h,_=>by simp[ltCps]at h
 |_::_,[],_,h=>by simp[ltCps]at h
 |x::r,y::t,h,h'=>by
  simp only[ltCps,qt7,decide_eq_false_iff_not,qs8,beq_iff_eq]at h h';have e:x=y:=by lia
  subst e;rw[oG r t (h.2 rfl) (h'.2 rfl)]
theorem oH:∀a b:η Nat,ltCps a b=θ->ltCps b a=ξ
 |[],[],h=>by simp[ltCps]at h
 |[],_::_,_=>rfl
 |_::_,[],h=>by simp[ltCps]at h
 |x::r,y::t,h=>by
  simp only[ltCps,qg5,decide_eq_true_eq,qa1,beq_iff_eq]at h;simp only[ltCps,qt7,decide_eq_false_iff_not,qs8,beq_iff_eq];rcases h with h|⟨rfl,h⟩
  .exact⟨Θ,fun e=>Θ⟩
  .exact⟨Θ,fun _=>oH r t h⟩
theorem jt:∀a b c:η Nat,ltCps b a=ξ->ltCps c b=ξ->ltCps c a=ξ
 |[],b,c,h1,h2=>by
  cases b with
  |nil=>exact h2
  |cons y t=>
   cases c with
   |nil=>simp[ltCps]at h2
   |cons z u=>rfl
 |x::r,[],c,h1,h2=>by simp[ltCps]at h1
 |x::r,y::t,[],h1,h2=>by simp[ltCps]at h2
 |x::r,y::t,z::u,h1,h2=>by
  simp only[ltCps,qt7,decide_eq_false_iff_not,qs8,beq_iff_eq]at h1 h2 ⊢;refine⟨Θ,fun e=>?_⟩;subst e;have e:y=z:=by lia
  subst e;exact jt r t u (h1.2 rfl) (h2.2 rfl)
def leS(a b:Str):Bool:=!ltCps b.cps.toList a.cps.toList
theorem leS_iff{a b:Str}:leS a b=θ↔ltCps b.cps.toList a.cps.toList=ξ:=by simp[leS]
theorem ju(a b c:Str)(h:leS a b=θ)(h':leS b c=θ):leS a c=θ:=leS_iff.mpr (jt _ _ _ (leS_iff.mp h) (leS_iff.mp h'))
theorem qv(a b:Str):(leS a b||leS b a)=θ:=by
 cases h:leS a b with
 |true=>rfl
 |false=>
  have h1:ltCps b.cps.toList a.cps.toList=θ:=by simpa[leS] using h
  simp[leS_iff.mpr (oH _ _ h1)]
theorem tG{a b:Str}(h:leS a b=θ)(h':leS b a=θ):a=b:=by
 have e:=oG _ _ (leS_iff.mp h') (leS_iff.mp h);cases a with
 |mk a=>cases b with
  |mk b=>simp only at e;rw[Array.toList_inj.mp e]
def dQ(ss:η Str):η Str:=ss.mergeSort leS
theorem cP(ss:η Str):(dQ ss).Perm ss:=List.mergeSort_perm ss leS
theorem tH(ss:η Str):(dQ ss).Pairwise fun a b=>leS a b=θ:=List.pairwise_mergeSort ju qv ss
theorem jv:∀(p:Str)(l:η Str),risingS p l=θ->(p::l).Pairwise fun a b=>leS a b=θ
 |p,[],_=>by simp
 |p,x::r,h=>by
  simp only[risingS,qa1]at h;have U:=jv x r h.2;have h1:leS p x=θ:=h.1;refine ql8.mpr ⟨fun y O=>?_,U⟩;rcases qc4.mp O with rfl|O
  .exact h1
  .exact ju _ _ _ h1 ((ql8.mp U).1 y O)
theorem qw:∀l:η Str,sortedS l=θ->l.Pairwise fun a b=>leS a b=θ
 |[],_=>qx7
 |x::r,h=>jv x r h
theorem jw:∀{a b:η Str},a.Perm b->(a.Pairwise fun a b=>leS a b=θ)->(b.Pairwise fun a b=>leS a b=θ)->a=b
 |[],_,p,_,_=>p.nil_eq
 |x::r,b,p,O,hb=>by
  cases b with
  |nil=>exact absurd p.length_eq Ξ
  |cons y t=>
   have U:x∈y::t:=p.mem_iff.mp (.head _);have W:y∈x::r:=p.mem_iff.mpr (.head _)
   have e:x=y:=by
    rcases qc4.mp U with h|h
    .exact h
    .rcases qc4.mp W with h'|h'
     .exact h'.symm
     .exact tG ((ql8.mp O).1 y h') ((ql8.mp hb).1 x h)
   subst e;rw[jw (List.Perm.cons_inv p) (ql8.mp O).2 (ql8.mp hb).2]
theorem io:∀{ss:η Str}{J3:η Value},Vals (ss.map V.str) J3->StrsAre J3 ss
 |[],_,h=>by cases h;exact .nil
 |x::ss,_,h=>by
  cases h with
  |cons h1 h2=>obtain⟨t,rfl⟩:=h1;exact .cons x t (io h2)
theorem jx:∀{J3:η Value}{ss:η Str},StrsAre J3 ss->Vals (ss.map V.str) J3
 |_,_,.nil=>.nil
 |_,_,.cons x t h=>.cons ⟨t,rfl⟩ (jx h)
section
variable{X:Cx}
theorem kr:CallR X (.builtin "sorted") (fun xs H Q=>∃p ss,xs=[.ref p]/\SqL X.K H p (ss.map V.str)/\ss.length<64/\∀l,H l=ψ->Q (.ref l) (upd H l (.e ((dQ ss).map V.str)))):=by
 intro J0 s σ H xs us Q I r h;obtain⟨p,ss,rfl,hq,hz,q⟩:=h;obtain⟨u,rfl,rx⟩:=cY r;cases rx;obtain⟨J3,W,pl,hz'⟩:=I.list hq;have hS:=io W;have Z:J3.length=ss.length:=by have:=W.length;simpa using this.symm
 refine sorted_strs pl.isList hS Θ fun U O a1 a2 a3=>?_
 have e:O=dQ ss:=jw (a2.trans (cP ss).symm) (qw O a3) (tH ss);subst e;obtain⟨c,hc⟩:=sortedAll_at s.heap J3 U;refine⟨.ref (s.heap.objs.size+1),_,I.laid (t':=s.toks) (fun _ _=>sortedAll_old) (qi3 _) (show ObjOk X.prog X.w _ _ _ (.e ((dQ ss).map V.str))from⟨?_,U.toList,c,jx a1,hc⟩),rfl,q _ (I.hok.fresh (qi3 _))⟩;rw[qa4,(cP ss).length_eq];exact qd1 (qq6 hz) Ω
def gF:η Dt->ζ T
 |[.e ds]=>(dj ds).bind fun ss=>if ss.length<64 then ς (.e ((dQ ss).map .str))else ψ
 |_=>ψ
theorem jy{F:Hp}:∀ss:η Str,Reps K F (ss.map .str) (ss.map V.str)
 |[]=>by simp only[qe0,Reps]
 |x::ss=>by simp only[qa3,Reps];exact⟨_,_,rfl,by simp only[Rep],jy ss⟩
theorem tJ:CRD K (fun xs H Q=>∃p ss,xs=[.ref p]/\SqL K H p (ss.map V.str)/\ss.length<64/\∀l,H l=ψ->Q (.ref l) (upd H l (.e ((dQ ss).map V.str)))) gF:=by
 intro F H ds vs Q t W r O k;unfold gF at O;split at O<;>first|(cases O;done)|skip
 obtain⟨ss,hs,O⟩:=qj8.mp O;split at O<;>cases O
 rename_i Z;obtain⟨v,rfl,U⟩:=bC r;obtain⟨a,vs,rfl,h1,h2⟩:=U;have:=fR h2 hs;subst this;exact⟨a,ss,rfl,h1,Z,fun p hp=>cg k W (jy _) hp⟩
end
def once{K:Type}[DecidableEq K](O:η K)(k:K):η K:=if k∈O then O else O++[k]
def met{K:Type}[DecidableEq K](val:Nat->K)(i:Nat):η K:=((qd7 i).map val).foldl once []
def nn:η Dt->ζ (η Int)
 |[]=>ς []
 |.int k::r=>(nn r).map (k::·)
 |_=>ψ
theorem oI{F:Hp}:∀{l:η Dt}{vs:η V}{bs:η Int},Reps K F l vs->nn l=ς bs->vs=bs.map V.int
 |[],vs,bs,r,h=>by cases h;simp only[Reps]at r;exact r
 |d::l,vs,bs,r,h=>by
  cases d<;>first|cases h;done|skip
  simp only[nn]at h;obtain⟨cs,hc,h⟩:=qd3.mp h;cases h;simp only[Reps,Rep]at r;obtain⟨v,ws,rfl,rfl,O⟩:=r;rw[oI O hc];rfl
def np(ks:η Key):Dt:=.t (ks.map ak)
theorem jz{F:Hp}:∀ks:η Key,Reps K F (ks.map ak) (ks.map kV)
 |[]=>by simp only[qe0,Reps]
 |k::ks=>by simp only[qa3,Reps];exact⟨_,_,rfl,wI k,jz ks⟩
theorem tL{F:Hp}{b:J4}(h:F b=ς (.t (ks.map kV))):Rep K F (np ks) (.ref b):=by unfold np;simp only[Rep];exact⟨b,_,rfl,SqT.of h,jz ks⟩
theorem jA{α β:Type}{R:α->β->Prop}:∀{l:η α}{m:η β},Paired R l m->∀{i:Nat}{a:α},l[i]?=ς a->∃b,m[i]?=ς b/\R a b
 |_,_,.nil,i,a,h=>by simp at h
 |_,_,.cons r t,0,a,h=>by simp at h;subst h;exact⟨_,rfl,r⟩
 |_,_,.cons r t,i+1,a,h=>by simpa using jA t (by simpa using h)
theorem cQ{α β:Type}{R:α->β->Prop}:∀{l:η α}{m:η β},Paired R l m->l.length=m.length
 |_,_,.nil=>rfl
 |_,_,.cons r t=>by simp[cQ t]
section
variable{X:Cx}{tg:J6}
theorem zc{s:qb0}(I:Inv X J0 σ H s)(h:Rd H a u):ObjOk X.prog X.w H s.heap a u:=by
 rcases h with h|⟨o,h⟩
 .exact I.hok a _ h
 .exact(I.hok a _ h).2
end
theorem kt:typeLookup (.type "list") "keys"=pure ψ:=by rw[typeLookup_type,zc3];kernel_rfl
theorem iV:typeLookup (.type "tuple") "keys"=pure ψ:=by rw[typeLookup_type,zc3];kernel_rfl
theorem bv:plainId "dict.update.loop"=θ:=χ
theorem dm:entryFor table "dict.update.loop"=ς qj1.«dict.update.loop»:=entryFor_of_fast (by kernel_rfl)
def tyB(b:Bool):String:=if b then "list" else "tuple"
section
variable{prog:qe7}{w:J5}{A:ql3}{E:Value->qb0->Prop}{s:qb0}{a it:J4}{J3:Array Value}{c:Nat}{sl:Array (ζ Value)}{b:Bool}{i:Nat}
theorem qx {Q:ζ Value->qb0->Prop} (W:s.heap.get? a=ς {cls:=.type (tyB b),dict:=ψ,data:=.seq J3 c,slots:=sl}) (hh:A.handled=ψ)
  (hQ:∀h' tk,(∀b ob,s.heap.get? b=ς ob->h'.get? b=ς ob)->Q ψ {s with heap:=h',toks:=tk}) :
  wpAny (model prog w) A (getAttr? (.ref a) "keys") Q E s:=by
 obtain⟨h,g,d,t,os⟩:=s;have f1:=sub_AttributeError;cases b with
 |true=>
  replace W:h.get? a=ς {cls:=.type "list",dict:=ψ,data:=.seq J3 c,slots:=sl}:=W
  have Z:∀U,(⟨h,g,d,U,os⟩:qb0).TypeIs (.ref a) "list":=fun _=>⟨_,W,rfl⟩
  have f3:=qr0.lookup;have f4:=qr0.bind (.ref a);have f5:=am_list_getattr_none;unfold getAttr? getAttrBy? getAttrBy
  repeat (any_goals (first|assumption|exact Z _|((with_reducible show wpAny _ _ (call (Value.builtin "list.__getattribute__") _ _) _ _ _);refine qu1 qr0 (Z _) am_entry_list_getattribute (F.args_list_getattribute_2 _ _) (meets_getattribute_miss_list a J3 c sl "keys" _ kt χ) ⟨W,hh,fun h' U e O=>?_⟩)|wp_step))
  obtain⟨t',u',he⟩:=O.there;show wpAny _ _ (qr7 _ _ _ _ _ _ _) _ _ _;unfold qr7
  repeat (any_goals (first|assumption|wp_step))
  exact hQ _ _ O.keeps
 |false=>
  replace W:h.get? a=ς {cls:=.type "tuple",dict:=ψ,data:=.seq J3 c,slots:=sl}:=W
  have Z:∀U,(⟨h,g,d,U,os⟩:qb0).TypeIs (.ref a) "tuple":=fun _=>⟨_,W,rfl⟩
  have f3:=qp5.lookup;have f4:=qp5.bind (.ref a);have f5:=am_tuple_getattr_none;unfold getAttr? getAttrBy? getAttrBy
  repeat (any_goals (first|assumption|exact Z _|((with_reducible show wpAny _ _ (call (Value.builtin "tuple.__getattribute__") _ _) _ _ _);refine qu1 qp5 (Z _) am_entry_tuple_getattribute (F.args_tuple_getattribute_2 _ _) (meets_getattribute_miss_tuple a J3 c sl "keys" _ iV χ) ⟨W,hh,fun h' U e O=>?_⟩)|wp_step))
  obtain⟨t',u',he⟩:=O.there;show wpAny _ _ (qr7 _ _ _ _ _ _ _) _ _ _;unfold qr7
  repeat (any_goals (first|assumption|wp_step))
  exact hQ _ _ O.keeps
theorem qy{l:J4}{Q:ζ Value->qb0->Prop}(U:A.handled=ψ)(O:ItB b s.heap it l i)(hl:CoB b s.heap l J3)(W:J3[i]?=ψ)(Z:∀h',Heap.ExtBut it s.heap h'->Q ψ {s with heap:=h'}):wpAny (model prog w) A (qz4 (.ref it)) Q E s:=by
 cases b with
 |true=>exact zb1 U O hl W Z
 |false=>exact qz9 U O hl W Z
theorem D9{l:J4}{x:Value}{Q:ζ Value->qb0->Prop}(O:ItB b s.heap it l i)(hl:CoB b s.heap l J3)(U:J3[i]?=ς x)(W:∀h',ItB b h' it l (i+1)->qg0 it s.heap h'->Q (ς x) {s with heap:=h'}):wpAny (model prog w) A (qz4 (.ref it)) Q E s:=by
 cases b with
 |true=>exact qz8 O hl U W
 |false=>exact qy6 O hl U W
theorem Ea{l:J4}(hl:CoB b s.heap l J3)(O:∀h',ItB b h' s.heap.objs.size l 0->(∀b o,s.heap.get? b=ς o->h'.get? b=ς o)->Q (.ref s.heap.objs.size) {s with heap:=h'}):wpAny (model prog w) A (pyIter (.ref l)) Q E s:=by
 cases b with
 |true=>exact wpAny_pyIter_list hl (O _ ⟨_,qb9 _ rfl,rfl,rfl⟩ fun _ _ e=>gP _ e)
 |false=>exact qr3 hl (O _ ⟨_,qb9 _ rfl,rfl,rfl⟩ fun _ _ e=>gP _ e)
end
variable{items:Array Value}{ps:η (Key×Value)}
section
variable{prog:qe7}{w:J5}{A:ql3}
def cD(J1:η (Key×Value)):η (Key×Value)->η (Key×Value)
 |[]=>J1
 |p::ps=>cD (stored J1 p.1 p.2) ps
structure PairsAt(prog:qe7)(w:J5)(h:Heap)(it D:J4)(items:Array Value)(ps:List (Key×Value)):Prop where
 len:items.size=ps.length
 at_:∀(j:Nat)(p:Key×Value),ps[j]?=ς p->∃t key o n,items[j]?=ς (.ref t)/\t≠it/\t≠D/\(av prog w).is p.1 key=θ/\h.get? t=ς o/\o.cls=.type "tuple"/\o.data=.seq #[key,p.2] n
theorem PairsAt.keep{it:J4}(P:PairsAt prog w h it D items ps)(k:∀b o,b≠it->b≠D->h.get? b=ς o->h'.get? b=ς o):PairsAt prog w h' it D items ps:=⟨P.len,fun j p hp=>by obtain⟨t,O,o,n,h1,h2,U,h4,W,Z,h7⟩:=P.at_ j p hp;exact⟨t,O,o,n,h1,h2,U,h4,k t o h2 U W,Z,h7⟩⟩
theorem tN {l it:J4} {O:Value} (hlD:l≠D) (hli:l≠it) (Z:it≠D) :
  ∀(k i:Nat)(A:ql3)(s:qb0)(J1:η (Key×Value))(R:Result->qb0->Prop),A.handled=ψ->ps.length-i=k->i<=ps.length->ItB b s.heap it l i->CoB b s.heap l items->PairsAt prog w s.heap it D items ps->s.heap.DictOf (av prog w) D J1→
   J1.length+(ps.length-i)<=qa9→
   (∀h' tk,h'.DictOf (av prog w) D (cD J1 (ps.drop i))->(∀b o,b≠it->b≠D->s.heap.get? b=ς o->h'.get? b=ς o)->R (.ok (.ret O)) {s with heap:=h',toks:=tk})→
   qu5 (model prog w) A (.builtin "dict.update.loop" ⟨[.ref D,.ref it,qv4 i,O],[]⟩) R s:=by
 intro k;induction k with
 |zero=>
  intro i A s J1 R hh hk hi hit hl hP hD hz hR;have hin:i=ps.length:=by lia
  subst hin;refine qu8 dm ?_;rw[qp3 bv _];unfold qj1.«dict.update.loop»;show wpAny _ _ (qz4 (.ref _) >>= _) _ _ _;refine qk0 (qy hh hit hl (by rw[<- hP.len];simp) fun h' eb=>?_);refine wB (qa6 (qa6 (hR h' s.toks ?_ fun b o hb _ e=>eb b o hb e)));rw[qt4];exact hD.extBut eb (qk5 Z)
 |succ k ih=>
  intro i A s J1 R hh hk hi hit hl hP hD hz hR;have hlt:i<ps.length:=by lia
  obtain⟨t,key,o,n,h1,h2,h3,h4,h5,h6,h7⟩:=hP.at_ i ps[i] (by simp[hlt]);refine qu8 dm ?_;rw[qp3 bv _];unfold qj1.«dict.update.loop»;show wpAny _ _ (qz4 (.ref _) >>= _) _ _ _;refine wB (D9 hit hl h1 fun h' hit' sb=>?_);have h5':h'.get? t=ς o:=(sb.2 t h2).trans h5;have hD':h'.DictOf (av prog w) D J1:=hD.sameBut sb (qk5 Z);show wpAny _ _ (qp1 [qc1 t] _ >>= _) _ _ _;refine wB (qn0 (wB (wpAny_tryCatch ?_)));unfold qj1.Dict.pairItems;refine wB (zb4 (T:="tuple") ⟨o,h5',h6⟩ ?_);rw[if_pos Ω];refine wB (qx2 h5' h7 ?_);refine qa6 ?_;show wpAny _ _ (qp1 [key,ps[i].2] (dictSet D key ps[i].2)) _ _ _;refine qn0 (wpAny_dictSet_pairs (hsz:=by lia) h4 hD' fun h'' hD'' sb'=>?_);refine qa6 ⟨qu0 bv _,?_⟩
  have kp:∀b o,b≠it->b≠D->s.heap.get? b=ς o->h''.get? b=ς o:=fun b o hb U e=>by rw[sb'.2 b U,sb.2 b hb];exact e
  have hl':CoB b h'' l items:=by cases b<;>(obtain⟨ol,e1,e2⟩:=hl;exact⟨ol,kp l ol hli hlD e1,e2⟩)
  have W:ItB b h'' it l (i+1):=hit'.at fun o e=>by rw[sb'.2 it Z];exact e
  refine ih (i+1) _ _ (stored J1 ps[i].1 ps[i].2) R hh Θ Θ W hl' (hP.keep kp) hD'' ?_ fun h3 tk hD3 kp3=>hR h3 tk ?_ fun b o hb U e=>kp3 b o hb U (kp b o hb U e)
  .have:=stored_length_le J1 ps[i].1 ps[i].2;lia
  .have:ps.drop i=ps[i]::ps.drop (i+1):=qx1 hlt;rw[this];exact hD3
variable{E:Value->qb0->Prop}{s:qb0}{a:J4}{J3:Array Value}{c:Nat}{sl:Array (ζ Value)}
theorem iW{b:Bool}{ps:η (Key×Value)}(hx:s.heap.get? a=ς {cls:=.type (tyB b),dict:=ψ,data:=.seq J3 c,slots:=sl})(hh:A.handled=ψ)(hl:J3.size=ps.length)(hz:ps.length<=qa9)
 (hp:∀(j:Nat)(p:Key×Value),ps[j]?=ς p->∃t U o n,J3[j]?=ς (.ref t)/\(av prog w).is p.1 U=θ/\s.heap.get? t=ς o/\o.cls=.type "tuple"/\o.data=.seq #[U,p.2] n)
 (hQ:∀h' tk,h'.DictOf (av prog w) s.heap.objs.size (cD [] ps)->(∀b ob,s.heap.get? b=ς ob->h'.get? b=ς ob)->Q (.ref s.heap.objs.size) {s with heap:=h',toks:=tk}) :
  wpAny (model prog w) A (call (.type "dict") [.ref a]) Q E s:=by
 refine callType_codes (Q₁:=fun obj s₁=>obj=.ref s.heap.objs.size/\s₁={s with heap:=s.heap.push {cls:=.type "dict",data:=.dict #[]}}) F.kt_called_dict (F.kt_typeCall_dict_1 _) F.entry_dict_init (kt_code_dict_new _ ⟨rfl,rfl⟩) ?_;rintro obj s₁ ⟨rfl,rfl⟩;have O:(s.heap.push {cls:=.type "dict",data:=.dict #[]}).DictOf (av prog w) s.heap.objs.size []:=Heap.DictOf.new s.heap;have hx1:(s.heap.push {cls:=.type "dict",data:=.dict #[]}).get? a=ς {cls:=.type (tyB b),dict:=ψ,data:=.seq J3 c,slots:=sl}:=gP _ hx;refine⟨O.typeIs,F.args_dict_init_2 _ _,?_⟩;unfold qj1.«dict.__init__»;refine wB ?_;unfold qj1.Dict.selfAndRest;refine wB (qs6 O.typeIs ?_);show wpAny _ _ (pure (s.heap.objs.size,[qc1 a])) _ _ _;refine qa6 ?_;show wpAny _ _ (qy9 "dict.__init__" s.heap.objs.size (.ref a) [] .none) _ _ _;unfold qy9;refine wB (zb4 (T:=tyB b) ⟨_,hx1,rfl⟩ ?_);rw[if_pos (by cases b<;>decide)];refine wB (qx hx1 hh fun h' tk kp=>?_);rw[if_pos (by rfl)];refine wB (wpAny_rule ?_);have hx2:=kp _ _ hx1;have hc2:CoB b h' a J3:=by cases b<;>exact⟨_,hx2,rfl,_,rfl⟩
 refine wB (Ea hc2 fun h'' hit W=>?_);refine qa6 ⟨qu0 bv _,?_⟩;have ha:a<s.heap.objs.size:=qb5 hx;obtain⟨oD,esD,epD,eD,restD⟩:=O;have Z:s.heap.objs.size<h'.objs.size:=qb5 (kp _ _ eD);refine tN (b:=b) (l:=a) (it:=h'.objs.size) (D:=s.heap.objs.size) (items:=J3) (ps:=ps) (qc2 ha) (qc2 (ql6 ha Z)) (qk5 (qc2 Z)) ps.length 0 _ _ [] _ hh Ξ (qg9 _) hit (by cases b<;>exact⟨_,W _ _ hx2,rfl,_,rfl⟩) ⟨hl,fun j p hj=>?_⟩ ⟨oD,esD,epD,W _ _ (kp _ _ eD),restD⟩ (by simpa using hz) fun h3 tk3 hD3 kp3=>⟨rfl,?_⟩
 .obtain⟨t,U,o,n,h1,h2,h3,h4,h5⟩:=hp j p hj;have ht:=qb5 h3;exact⟨t,U,o,n,h1,qc2 (ql6 ht Z),qc2 ht,h2,W _ _ (kp _ _ (gP _ h3)),h4,h5⟩
 .refine hQ h3 tk3 (by simpa using hD3) fun b ob e=>kp3 b ob (qc2 (ql6 (qb5 e) Z)) (qc2 (qb5 e)) (W _ _ (kp _ _ (qz7 _ e)))
end
def ba(J1:η (Key×V)):η (Key×V)->η (Key×V)
 |[]=>J1
 |p::ps=>ba (bT J1 p.1 p.2) ps
theorem KV.all:∀{ps:η (Key×V)}{O:η (Key×Value)}{J1:η (Key×V)}{vs:η (Key×Value)},KV ps O->KV J1 vs->KV (ba J1 ps) (cD vs O)
 |[],[],_,_,_,r=>r
 |[],_::_,_,_,h,_=>by cases h
 |_::_,[],_,_,h,_=>by cases h
 |p::ps,q::O,J1,vs,h,r=>by
  cases h with
  |cons hp W=>obtain⟨e,U⟩:=hp;have:=KV.all W (r.put p.1 U);show KV (ba (bT J1 p.1 p.2) ps) (cD (stored vs q.1 q.2) O);rw[<- e];exact this
theorem dY:∀(ps J1:η (Key×V)),(ba J1 ps).length<=J1.length+ps.length
 |[],J1=>by simp[ba]
 |p::ps,J1=>by have h1:=dY ps (bT J1 p.1 p.2);have h2:=db J1 p.1 p.2;simp only[ba,qb8];lia
section
variable{X:Cx}
def Eb(K:xA9):η V->Hp->VK->Prop:=fun xs H Q=>∃(a:J4)(vs:η V)(ps:η (Key×V)),xs=[.ref a]/\(∃b,SqB b K H a vs)/\vs.length=ps.length∧(∀(j:Nat)(p:Key×V),ps[j]?=ς p->∃t,vs[j]?=ς (.ref t)/\SqT K H t [kV p.1,p.2])/\∀p,H p=ψ->Q (.ref p) (upd H p (.dK (ba [] ps)))
theorem nq(hc:X.calm=θ):CallR X (.type "dict") (Eb X.K):=by
 intro J0 s σ H xs us Q I r h;obtain⟨a,vs,ps,rfl,⟨b,hq⟩,hl,hp,q⟩:=h;obtain⟨u,rfl,rx⟩:=cY r;cases rx
 have hs:∃J3:η Value,Vals vs J3/\(∃n sl,s.heap.get? a=ς {cls:=.type (tyB b),dict:=ψ,data:=.seq J3.toArray n,slots:=sl})/\vs.length<=qa9:=by
  cases b with
  |true=>obtain⟨J3,rv,⟨⟨cls,dd,data,sl⟩,n,ho,h1,h2,h3⟩,hz⟩:=I.list hq;simp only at h1 h2 h3;subst h1 h2 h3;exact⟨J3,rv,⟨n,sl,ho⟩,hz⟩
  |false=>obtain⟨J3,rv,⟨⟨⟨cls,dd,data,sl⟩,ho,h1,n,h2⟩,h3⟩,hz⟩:=I.tup hq;have h3:=h3 _ ho;simp only at h1 h2 h3;subst h1 h2 h3;exact⟨J3,rv,⟨n,sl,ho⟩,hz⟩
 obtain⟨J3,rv,⟨n,sl,ho⟩,hz⟩:=hs
 -- the values of the pairs
 have ex:∀(j:Nat)(p:Key×V),ps[j]?=ς p->∃t O u n o,J3[j]?=ς (.ref t)/\RelV (kV p.1) O/\RelV p.2 u/\s.heap.get? t=ς o/\o.cls=.type "tuple"/\o.data=.seq #[O,u] n:=fun j p W=>by obtain⟨t,ht,hT⟩:=hp j p W;obtain⟨u0,hu0,ru0⟩:=rv.get ht;obtain rfl:u0=qc1 t:=ru0;obtain⟨ws,rws,⟨o,eo,ec,n,ed⟩,_⟩:=I.tuple hT;obtain⟨x,y,rfl,rx,ry⟩:=rh rws;exact⟨t,x,y,n,o,hu0,rx,ry,eo,ec,ed⟩
 have exq:∃U:η (Key×Value),KV ps U/\∀(j:Nat)(p:Key×Value),U[j]?=ς p->∃t O o n,J3[j]?=ς (.ref t)/\(av X.prog X.w).is p.1 O=θ/\s.heap.get? t=ς o/\o.cls=.type "tuple"/\o.data=.seq #[O,p.2] n:=by
  have O:∀ (ps:η (Key×V)) (J3:η Value),(∀ (j:Nat) (p:Key×V),ps[j]?=ς p->∃ t O u n o,J3[j]?=ς (.ref t)/\RelV (kV p.1) O/\RelV p.2 u/\s.heap.get? t=ς o/\o.cls=.type "tuple"/\o.data=.seq #[O,u] n)→
      ∃U:η (Key×Value),KV ps U/\∀(j:Nat)(p:Key×Value),U[j]?=ς p->∃t O o n,J3[j]?=ς (.ref t)/\(av X.prog X.w).is p.1 O=θ/\s.heap.get? t=ς o/\o.cls=.type "tuple"/\o.data=.seq #[O,p.2] n:=fun ps=>by
   induction ps with
   |nil=>exact fun J3 _=>⟨[],.nil,fun j p h=>by simp at h⟩
   |cons p ps ih=>
    intro J3 h;obtain⟨t,k,u,n,o,e1,e2,e3,e4,e5,e6⟩:=h 0 p rfl;cases J3 with
    |nil=>simp at e1
    |cons v J3=>
     obtain⟨U,r1,r2⟩:=ih J3 fun j p W=>h (j+1) p (by simpa using W)
     refine⟨(p.1,u)::U,.cons ⟨rfl,e3⟩ r1,fun j q W=>?_⟩;cases j with
     |zero=>simp at W;subst W;exact⟨t,k,o,n,by simpa using e1,hU e2,e4,e5,e6⟩
     |succ j=>simpa using r2 j q (by simpa using W)
  exact O ps J3 ex
 obtain⟨U,rq,hq2⟩:=exq;have Z:J3.length=U.length:=by rw[<- rv.length,hl];exact rq.length
 have hzz:U.length<=qa9:=by rw[<- Z,<- rv.length];exact hz
 refine iW (b:=b) ho (I.ok.hd hc) (by simpa using Z) hzz (fun j p W=>by obtain⟨t,O,o,n,e1,e2⟩:=hq2 j p W;exact⟨t,O,o,n,by simpa using e1,e2⟩) fun h' tk hD kp=>⟨.ref s.heap.objs.size,_,I.laid (a:=s.heap.objs.size) (o:=.dK (ba [] ps)) (t':=tk) kp (qu2 _) ?_,rfl,q _ (I.hok.fresh (qu2 _))⟩
 refine mN ?_ (beq_eq_false_iff_ne.mpr (qk5 (qc2 I.big))) (KV.all rq .nil) hD;have:=dY ps [];have:=rq.length;simp at*
 lia
end
structure EntG(kv:List (Value×Value))(lo:J4)(h:Heap)(as:List J4):Prop where
 rise:as.Pairwise (· < ·)
 above:∀a∈as,lo<a
 pairs:∀(j:Nat)(a:J4),as[j]?=ς a->∃p,kv[j]?=ς p/\h.get? a=ς {cls:=.type "tuple",data:=.seq #[p.1,p.2]}
theorem EntG.there{lo:J4}{as:η J4}(g:EntG kv lo h as)(U:a∈as):a<h.objs.size:=by obtain⟨j,O⟩:=qs9.mp U;obtain⟨_,_,e⟩:=g.pairs j a O;exact qb5 e
theorem ItmS.keep{it d S:J4}(x:ItmS h it d i n ep)(U:∀b o,b≠S->h.get? b=ς o->h'.get? b=ς o)(hS:∃o,h'.get? S=ς o)(hI:it≠S):ItmS h' it d i n ep:=by
 obtain⟨x0,f,ok,ov,O,ho⟩:=x;refine⟨x0,f,ok,ov,U _ _ hI O,ho.imp_right fun⟨a,e,Z,oa,h1⟩=>⟨a,e,Z,?_⟩⟩;by_cases W:a=S
 .subst W;exact hS
 .exact⟨oa,U a oa W h1⟩
section
variable{prog:qe7}{w:J5}{A:ql3}{E:Value->qb0->Prop}{s:qb0}{R:Result->qb0->Prop}{kv:η (Value×Value)}{ep:Nat}
theorem qz {S I d:J4} (nh:A.handled=ψ) (hSI:S<I) (hSd:d≠S) (hId:d≠I) (hn:kv.length<=qa9) (res:Value) {h1:Heap}
  (hR:∀h' tk O c as,(∀b o,b≠S->b≠I->h1.get? b=ς o->h'.get? b=ς o)->h'.get? S=ς {cls:=.type "list",dict:=ψ,data:=.seq O c,slots:=#[]}->as.length=kv.length->EntG kv I h' as→
   O.toList=as.map qc1->R (.ok (.ret res)) {s with heap:=h',toks:=tk}) :
  ∀(k i:Nat)(h:Heap)(tk c:Nat)(O:Array Value)(as:η J4),kv.length-i=k->i<=kv.length->ItmS h I d i kv.length ep->EntB h d kv ep->(∀b o,b≠S->b≠I->h1.get? b=ς o->h.get? b=ς o)→
   h.get? S=ς {cls:=.type "list",dict:=ψ,data:=.seq O c,slots:=#[]}->O.toList=as.map qc1->as.length=i->EntG kv I h as->I<h.objs.size→
   qu5 (model prog w) A (.builtin "list.extend.loop" ⟨[.ref S,.ref I,res],[]⟩) R {s with heap:=h,toks:=tk}:=by
 have hne:S≠I:=qc2 hSI;intro k;induction k with
 |zero=>
  intro i h tk c O as hk hi hst hD U hS W hal hG hIs;have hin:i=kv.length:=by lia
  refine qu8 PySem.F.entry_extend_loop ?_;rw[qp3 PySem.F.plain_extend_loop _];show wpAny _ A.in1 (qz4 (.ref I) >>= _) _ _ _;refine wB (tE (s:={s with heap:=h,toks:=tk}) (A:=A.in1) nh hst hD hin fun h' he=>?_);refine qa6 (hR h' tk O c as (fun b o h1 h2 e=>he b o h2 (U b o h1 h2 e)) (he S _ hne hS) Θ ⟨hG.rise,hG.above,fun j a hj=>?_⟩ W);obtain⟨p,e1,e2⟩:=hG.pairs j a hj;exact⟨p,e1,he a _ (qi7 (hG.above a (qa5 hj))) e2⟩
 |succ k ih=>
  intro i h tk c O as hk hi hst hD U hS W hal hG hIs;have hlt:i<kv.length:=by lia
  obtain⟨⟨ky,x⟩,hx⟩:∃p,kv[i]?=ς p:=⟨kv[i],gQ hlt⟩;have hsz:O.size=i:=by rw[<- qq1,W,qa4,hal]
  refine qu8 PySem.F.entry_extend_loop ?_;rw[qp3 PySem.F.plain_extend_loop _];show wpAny _ A.in1 (qz4 (.ref I) >>= _) _ _ _;refine wB (qu (s:={s with heap:=h,toks:=tk}) hst hD hx fun h' hst' ht hz Z=>?_);dsimp only at ht hz Z ⊢;have hS':=Z S _ hne hS;have up:∀b o,b≠S->h'.get? b=ς o->(h'.update S (qk3 (·.push (qc1 h.objs.size)))).get? b=ς o:=fun b o hb e=>(qi0 _ _ (qk5 hb)).trans e
  have hSl:S<h.objs.size:=qb5 hS;show wpAny _ A.in1 (zg6 S (·.push (qc1 h.objs.size)) >>= _) _ _ _
  refine wB (qu9 hS' rfl (qa6 ⟨qu0 PySem.F.plain_extend_loop _,ih (i+1) _ tk _ (O.push (qc1 h.objs.size)) (as++[h.objs.size]) Θ hlt (hst'.keep up ⟨_,qf6 _ hS' rfl⟩ (qk5 hne)) (hD.upTo fun o e=>up d o hSd (Z d o hId e))
   (fun b o h1 h2 e=>up b o h1 (Z b o h2 (U b o h1 h2 e))) (qf6 _ hS' rfl) (by rw[Array.toList_push,W,qd0];rfl) (by rw[qc5,hal];rfl) ⟨?_,?_,?_⟩ ?_⟩) (by rw[hsz];lia) (by show(O.push (qc1 h.objs.size)).size<=qa9+1;rw[Array.size_push,hsz];lia))
  .refine List.pairwise_append.mpr ⟨hG.rise,List.pairwise_singleton _ _,fun a ha b hb=>?_⟩;rw[qv9.mp hb];exact hG.there ha
  .intro a ha;rcases qf5.mp ha with ha|ha
   .exact hG.above a ha
   .rw[qv9.mp ha];exact hIs
  .intro j b hj;rcases Nat.lt_trichotomy j as.length with h1|h1|h1
   .rw[gL h1]at hj;obtain⟨p,e1,e2⟩:=hG.pairs j b hj;have hb:=hG.above b (qa5 hj);exact⟨p,e1,up b _ (qi7 (ql6 hSI hb)) (Z b _ (qi7 hb) e2)⟩
   .subst h1;have hb:h.objs.size=b:=by simpa using hj
    subst hb;exact⟨_,by rw[hal];exact hx,up _ _ (qi7 hSl) ht⟩
   .have hnone:(as++[h.objs.size])[j]?=ψ:=qh1 (by rw[qc5,qi8];lia);rw[hnone]at hj;cases hj
  .have e:(h'.update S (qk3 (·.push (qc1 h.objs.size)))).get? h.objs.size=_:=up _ _ (qi7 hSl) ht;exact ql6 hIs (qb5 e)
variable{r d:J4}
theorem qA(nh:A.handled=ψ)(hv:s.heap.IsItemsView r d)(hm:EntB s.heap d kv ep)(hn:kv.length<=qa9)
 (hQ:∀h' tk acc c as,(∀b o,s.heap.get? b=ς o->h'.get? b=ς o)->h'.get? s.heap.objs.size=ς {cls:=.type "list",dict:=ψ,data:=.seq acc c,slots:=#[]}->as.length=kv.length->EntG kv s.heap.objs.size h' as→
 acc.toList=as.map qc1->Q (.ref s.heap.objs.size) {s with heap:=h',toks:=tk}) :
  wpAny (model prog w) A (call (.type "list") [.ref r]) Q E s:=by
 refine callType_codes (Q₁:=fun obj s₁=>obj=.ref s.heap.objs.size/\s₁={s with heap:=s.heap.push {cls:=.type "list",data:=.seq #[]}}) PySem.F.called_list (PySem.F.typeCall_list_1 _) PySem.F.entry_list_init
  (code_list_new _ ⟨rfl,rfl⟩) fun obj s₁ h₁=>?_
 obtain⟨rfl,rfl⟩:=h₁;have hS:(s.heap.push {cls:=.type "list",data:=.seq #[]}).get? s.heap.objs.size=ς {cls:=.type "list",data:=.seq #[]}:=qb9 _ rfl;have hr:r<s.heap.objs.size:=let ⟨_,ho,_⟩:=hv;qb5 ho;have hd:d<s.heap.objs.size:=hm.lt;have hSr:=qi7 hr;have hSd:d≠s.heap.objs.size:=qc2 hd;refine⟨⟨_,hS,rfl⟩,PySem.F.args_list_init_2 _ _,?_⟩;generalize hh:s.heap.push {cls:=.type "list",data:=.seq #[]}=h0 at hS;have kp:∀b o,s.heap.get? b=ς o->h0.get? b=ς o:=fun b o e=>by rw[<- hh];exact gP _ e
 have hsz:h0.objs.size=s.heap.objs.size+1:=by rw[<- hh,qn6]
 generalize hSe:s.heap.objs.size=S at*
 show wpAny _ _ (do let old <- za2 (.ref S);qj1.List.listUpdate (.ref S) (fun _=>#[]);letGo old.toList.reverse;qo4 (.ref S) (.ref r) .none) _ _ _;refine wB ?_;unfold za2;refine wB (qx2 hS rfl (qa6 ?_));show wpAny _ _ (zg6 S (fun _=>#[]) >>= fun _=>letGo (#[]:Array Value).toList.reverse >>= fun _=>qo4 (.ref S) (.ref r) .none) _ _ _;refine wB (qu9 hS rfl ?_);have hS2:=qf6 (qk3 (fun _=>(#[]:Array Value))) hS rfl;have oth:∀b o,b≠S->h0.get? b=ς o->(h0.update S (qk3 (fun _=>(#[]:Array Value)))).get? b=ς o:=fun b o hb e=>(qi0 _ _ (qk5 hb)).trans e
 generalize h0.update S (qk3 (fun _=>(#[]:Array Value)))=h2 at hS2 oth;refine wB (wpAny_letGo ?_);have hv2:h2.IsItemsView r d:=let ⟨o,ho,x⟩:=hv;⟨o,oth r o (qk5 hSr) (kp r o ho),x⟩;have hm2:EntB h2 d kv ep:=hm.upTo fun o e=>oth d o hSd (kp d o e)
 have kp2:∀b o,s.heap.get? b=ς o->b≠S->h2.get? b=ς o:=fun b o e hb=>oth b o hb (kp b o e)
 unfold qo4;refine wB (zb4 (T:="dict_items") (let ⟨o,ho,hc,_⟩:=hv2;⟨o,ho,hc⟩) ?_);have q1:qy2 (.ref S) (.ref r)=ξ:=by simp[qy2,hSr]
 have q2:(qo7 "dict_items"==qo7 "list")=ξ:=by decide
 have q3:(qo7 "dict_items"==qo7 "tuple")=ξ:=by decide
 simp only[q1,q2,q3,Bool.or_false,qg1,if_false];refine wB (qt hv2 hm2 fun h3 it3 U lt3=>?_);dsimp only at it3 U lt3 ⊢;have O:S<h2.objs.size:=qb5 hS2;have hS3:=U _ _ hS2
 have key:∀ (h:Heap) (c1 tk:Nat),(∀ b o,b≠S->h3.get? b=ς o->h.get? b=ς o)->h.get? S=ς {cls:=.type "list",data:=.seq #[] c1}->ItmS h h2.objs.size d 0 kv.length ep->h2.objs.size<h.objs.size→
     qu5 (model prog w) A.in1 (.builtin "list.extend.loop" ⟨[.ref S,.ref h2.objs.size,.none],[]⟩) (wants (fun r Z=>r=qg2/\Q (qc1 S) Z) E) {s with heap:=h,toks:=tk}:=by
  intro h c1 tk hk hS1 hit hlt
  refine qz (A:=A.in1) (R:=wants (fun r Z=>r=qg2/\Q (qc1 S) Z) E) (kv:=kv) (ep:=ep) (s:=s) (h1:=s.heap) nh O hSd (qc2 (ql6 Θ O)) hn .none (fun h' tk' acc c as hk' hS' hl hG hacc=>⟨rfl,hQ h' tk' acc c as (fun b o e=>hk' b o (qc2 (by rw[<- hSe];exact qb5 e)) (qc2 (ql6 (by rw[<- hSe];exact qb5 e) O)) e) hS' hl ⟨hG.rise,fun a ha=>ql6 O (hG.above a ha),hG.pairs⟩ hacc⟩)
   kv.length 0 h tk c1 #[] [] (zf8 _) (qg9 _) hit (hm2.upTo fun o e=>hk d o hSd (U d o e)) (fun b o hb _ e=>hk b o hb (U b o (kp2 b o e hb))) hS1 rfl rfl ⟨qx7,(fun _ ha=>nomatch ha),(fun j a hj=>by simp at hj)⟩ hlt
 refine wB (qn0 (PySem.W.kdx_hint (let ⟨o,ho,hc,_⟩:=hv2;⟨o,U r o ho,hc⟩) ?_));refine wpAny_ite_split (fun _=>?_) (fun _=>qa6 ⟨qu0 PySem.F.plain_extend_loop _,key _ _ _ (fun b o _ e=>e) hS3 it3 lt3⟩);refine wB (wpAny_rule (wB ?_));show wpAny _ _ (zg6 S (·.push .none) >>= fun _=>zg6 S (·.pop)) _ _ _;refine wB (qu9 hS3 rfl ?_);have hS4:=qf6 (qk3 (·.push qg2)) hS3 rfl;refine qu9 (hz:=by seq_fits) hS4 rfl ?_;have hS5:=qf6 (qk3 (·.pop)) hS4 rfl;have hk5:∀b o,b≠S->h3.get? b=ς o->((h3.update S (qk3 (·.push qg2))).update S (qk3 (·.pop))).get? b=ς o:=fun b o hb e=>(qi0 _ _ (qk5 hb)).trans ((qi0 _ _ (qk5 hb)).trans e)
 refine qa6 ⟨qu0 PySem.F.plain_extend_loop _,key _ _ _ hk5 hS5 (it3.keep hk5 ⟨_,hS5⟩ (qi7 O)) ?_⟩;have:∃o,h3.get? h2.objs.size=ς o:=let ⟨_,_,_,_,e,_⟩:=it3;⟨_,e⟩;obtain⟨o,ho⟩:=this;exact qb5 (hk5 _ o (qi7 O) ho)
end
section
variable{X:Cx}{J0:η (J4×Obj)}{σ:af}{H H':Hp}{s:qb0}{h':Heap}
theorem Inv.more (I:Inv X J0 σ H s) (k:∀ b u,s.heap.get? b=ς u->h'.get? b=ς u) (hs:Same H H') (O:∀ b,b<s.heap.objs.size->H b=ψ->H' b=ψ) (new:∀ b o,H' b=ς o->H b=ψ->ObjOk X.prog X.w H' h' b o) :
  Inv X J0 σ H' {s with heap:=h',toks:=t'}:=
 I.un ⟨fun b u q _ _ _=>k b u q,fun b u q _ _ _=>⟨u.slots,k b u q⟩,fun b u q n _=>O b (qb5 q) n,fun b u q _=>⟨u,k b u q⟩,fun b xs q=>hs _ _ q,fun b u xs q=>hs _ _ q,fun b ps q=>⟨#[],by rw[hs _ _ q];simp⟩,fun b U q=>hs _ _ q⟩ fun b o e=>by
  cases q:H b with
  |none=>exact new b o e q
  |some u=>have:=hs b u q;rw[e]at this;cases this;exact(I.hok b o q).stay (fun c v _ q=>k c v q) (fun c q=>hs _ _ q) (fun c xs q=>hs _ _ q) fun c ob xs q=>hs _ _ q
def eR(H:Hp):η J4->η (η V)->Hp
 |t::ts,p::ps=>upd (eR H ts ps) t (.t p)
 |_,_=>H
theorem ku:∀{ts:η J4}{ps:η (η V)}{j:Nat}{t:J4}{p:η V},ts.Nodup->ts[j]?=ς t->ps[j]?=ς p->eR H ts ps t=ς (.t p)
 |[],_,j,t,p,_,h,_=>by simp at h
 |t::ts,[],j,_,p,_,_,h=>by simp at h
 |t::ts,q::ps,0,_,_,_,h,h'=>by simp at h h';subst h h';exact ah
 |t::ts,q::ps,j+1,x,p,O,h,h'=>by simp only[qd2]at h h';have O:=qd6.mp O;simp only[eR];rw[ai fun e=>O.1 (by rw[<- e];exact qa5 h)];exact ku O.2 h h'
theorem cR{b:J4}:∀{ts:η J4}{ps:η (η V)},b∉ts->eR H ts ps b=H b
 |[],_,_=>rfl
 |t::ts,[],_=>rfl
 |t::ts,q::ps,h=>by simp only[qc4,not_or]at h;simp only[eR];rw[ai h.1];exact cR h.2
theorem jB:∀{ts:η J4}{ps:η (η V)},(∀t∈ts,H t=ψ)->Same H (eR H ts ps):=fun {ts ps} h b o e=>by rw[cR fun z=>by rw[h b z]at e;cases e];exact e
end
def vwI(v d:J4):HO:=.ext fun h=>h.IsItemsView v d
section
variable{X:Cx}
def rItm:V->η V->Hp->VK->Prop:=fun x vs H Q=>∃d J1,x=.ref d/\vs=[]/\Rd H d (.dT J1)/\∀v,H v=ψ->Q (.ref v) (upd H v (vwI v d))
theorem oJ {w:J5} {J1:η (η Key×V)} (x:ObjOk P w H h a (.dT J1)):J1.length<=qa9/\(a==qk1)=ξ/\∃ (bs:η J4) (us:η Value) (ep:Nat),EntB h a (List.zip (bs.map .ref) us) ep/\bs.length=J1.length/\us.length=J1.length∧
  (∀(j:Nat)(p:η Key×V),J1[j]?=ς p->∃b u,bs[j]?=ς b/\us[j]?=ς u/\H b=ς (.t (p.1.map kV))/\RelV p.2 u):=by
 obtain⟨z,y,xs,r,o,es,ep,h1,h2,W,h4,Z⟩:=x;refine⟨z,y,xs.map (·.2.1),xs.map (·.2.2),ep,⟨o,es,h1,h2,W,?_⟩,by rw[qa4,<- cQ r],by rw[qa4,<- cQ r],fun j p hp=>?_⟩
 .rw[h4,qd4,qd4,List.zip_map',];rfl
 .obtain⟨q,O,_,hb,U⟩:=jA r hp;exact⟨q.2.1,q.2.2,by rw[qa8,O];rfl,by rw[qa8,O];rfl,hb,U⟩
theorem tO:MtR X "dict.items" rItm:=by intro J0 s σ H x vs v us Q I U O h;obtain⟨d,J1,rfl,rfl,W,q⟩:=h;cases U;cases O;obtain⟨z,y,bs,ws,ep,en,_⟩:=oJ (zc I W);refine qr y en ?_;refine⟨.ref s.heap.objs.size,_,I.laid (a:=s.heap.objs.size) (o:=vwI s.heap.objs.size d) (t':=s.toks) (fun b o e=>gP _ e) (nL _) ?_,rfl,q _ (I.hok.fresh (nL _))⟩;exact⟨⟨_,qb9 _ rfl,rfl,rfl⟩,⟨_,qb9 _ rfl⟩,fun h1 h2 ⟨o,Z,x⟩ k=>⟨o,k o Z,x⟩⟩
def rIls:η V->Hp->VK->Prop:=fun xs H Q=>∃v d J1,xs=[.ref v]/\H v=ς (vwI v d)/\Rd H d (.dT J1)/\∀(bs ts:η J4)(l:J4),bs.length=J1.length->ts.length=J1.length->(∀(j:Nat)(b:J4)(p:η Key×V),bs[j]?=ς b->J1[j]?=ς p->H b=ς (.t (p.1.map kV)))→
 ts.Nodup->(∀t∈ts,H t=ψ)->H l=ψ->l∉ts->Q (.ref l) (upd (eR H ts (qt0 (fun b p=>[V.ref b,p.2]) bs J1)) l (.e (ts.map V.ref)))
theorem tQ(hc:X.calm=θ):CallR X (.type "list") rIls:=by
 intro J0 s σ H xs us Q I r h;obtain⟨v,d,J1,rfl,hv,hd,q⟩:=h;obtain⟨u,rfl,rx⟩:=cY r;cases rx;obtain⟨z,y,bs,ws,ep,en,hl1,hl2,hp⟩:=oJ (zc I hd);have hV:s.heap.IsItemsView v d:=(show ObjOk X.prog X.w H s.heap v (vwI v d)from I.hok v _ hv).1;have hkl:(List.zip (bs.map qc1) ws).length=J1.length:=by rw[List.length_zip,qa4,hl1,hl2,Nat.min_self]
 refine qA (I.ok.hd hc) hV en (by rw[hkl];exact z) fun h' tk acc c as kp hD O hG W=>?_
 rw[hkl]at O;have hsz:=hG.above;have Z:as.Nodup:=hG.rise.imp fun h=>qc2 h
 have hfr:∀t∈as,H t=ψ:=fun t ht=>I.hok.fresh (qq6 (hG.above t ht))
 have hl0:H s.heap.objs.size=ψ:=I.hok.fresh (nL _);have hln:s.heap.objs.size∉as:=fun z=>qm9 _ (hG.above _ z)
 have hS1:Same H (eR H as (qt0 (fun b p=>[V.ref b,p.2]) bs J1)):=jB hfr;have U:eR H as (qt0 (fun b p=>[V.ref b,p.2]) bs J1) s.heap.objs.size=ψ:=by rw[cR hln];exact hl0
 refine⟨.ref s.heap.objs.size,_,I.more (t':=tk) (H':=upd (eR H as (qt0 (fun b p=>[V.ref b,p.2]) bs J1)) s.heap.objs.size (.e (as.map V.ref))) kp (hS1.trans (Same.upd U)) (fun b hb n=>?_) (fun b o e n=>?_),rfl,q bs as _ hl1 O (fun j b p h1 h2=>?_) Z hfr hl0 hln⟩
 .rw[ai (qc2 hb),cR fun z=>absurd (hG.above b z) (qn7.mpr (qq6 hb))];exact n
 .by_cases hb:b=s.heap.objs.size
  .subst hb;rw[ah]at e;cases e;refine⟨by rw[qa4,O];exact z,acc.toList,c,?_,by rw[Array.toArray_toList];exact hD⟩;rw[W];clear W hG O hsz Z hfr hln hS1 U;induction as with
   |nil=>exact .nil
   |cons b bs ih=>exact .cons rfl ih
  .rw[ai hb]at e;by_cases hm:b∈as
   .obtain⟨j,hj⟩:=qs9.mp hm;obtain⟨p,hp1,hp2⟩:=hG.pairs j b hj;have hjl:j<J1.length:=by rw[<- O];exact(gX hj).1
    obtain⟨b',u',e1,e2,e3,e4⟩:=hp j J1[j] (by simp[hjl])
    have hzw:(qt0 (fun b p=>[V.ref b,p.2]) bs J1)[j]?=ς [V.ref b',J1[j].2]:=by rw[zc4,e1];simp[hjl]
    rw[ku Z hj hzw]at e;cases e
    have hzp:(List.zip (bs.map qc1) ws)[j]?=ς (.ref b',u'):=by rw[qw9];exact⟨by rw[qa8,e1];rfl,e2⟩
    rw[hzp]at hp1;cases hp1;exact⟨by show 2<=qa9;rw[qa7];lia,[.ref b',u'],.cons rfl (.cons e4 .nil),.of (n:=0) hp2 rfl rfl rfl⟩
   .rw[cR hm,n]at e;cases e
 .obtain⟨b',u',e1,_,e3,_⟩:=hp j p h2;rw[h1]at e1;cases e1;exact e3
def Ec:V->η V->Hp->VK->Prop:=fun x vs H Q=>∃d,x=.ref d/\vs=[]/\((∃J1,H d=ς (.dT J1))/\Q .non (upd H d (.dT []))∨(∃J1,H d=ς (.dK J1))/\Q .non (upd H d (.dK [])))
theorem wW:MtM X "dict.clear" Ec:=by
 intro J0 s σ H x vs v us Q I rx rv h;obtain⟨d,rfl,rfl,h⟩:=h;cases rx;cases rv;rcases h with ⟨⟨J1,U⟩,q⟩|⟨⟨J1,U⟩,q⟩
 .obtain⟨z,y,xs,r,o,es,ep,h1,h2,O,h4,h5⟩:=I.hok d _ U
  have W:es.size<=qa9:=by have e1:=congrArg qm0 h4;have e2:=cQ r;simp at e1;lia
  have Z:s.TypeIs (.ref d) "dict":=⟨o,h1,h2.1⟩;refine qj3 F.slot_dict_clear Z F.entry_dict_clear ?_ (F.args_dict_clear_1 _);unfold qj1.«dict.clear»;refine wB ?_;unfold qj1.Dict.noArgs;refine wB (qs6 Z ?_);show wpAny _ _ (pure d) _ _ s;refine qa6 (wB (qs4 h1 O (wB ?_)));unfold bearsInstanceDictMark;refine wB (wpAny_load h1 (qa6 (wB (wpAny_updateDictKeys (hz:=W) h1 O ?_))));have hg:=qf6 (Obj.mapDictKeys fun _=>#[]) h1 (Obj.isFreed_of_dict (Obj.data_mapDictKeys O _))
  have fin:EP X J0 σ Q .none {s with heap:=s.heap.update d (Obj.mapDictKeys fun _=>#[])}:=by refine⟨.non,_,gx (t':=s.toks) I (by rw[U];exact qk8) (qq2 ..) ⟨_,hg⟩ ?_,rfl,q⟩;exact⟨qg9 _,y,[],.nil,_,_,_,hg,h2.mapDictKeys _,Obj.data_mapDictKeys O _,rfl,qw8⟩
  split
  .exact wB (wpAny_letGo (qa6 ⟨.none,rfl,fin⟩))
  .exact wB (qa6 (qa6 ⟨.none,rfl,fin⟩))
 .exact v6 I U fun s' I'=>⟨.non,_,I',rfl,q⟩
end
variable{J1:η (Key×V)}
section
variable{G:Gx}{X:Cx}{e o a:J6}{es:η J6}{pos spos apos cpos p tpos:Pos}{f fa fe fk:Fg}{m:Md}{i:Nat}{sc:J8}{x:Str}{F H:Hp}{ρ:Nat->J4}{ch:CH}{c:CV}{v:V}
def nr(ch:CH):CV->ζ (η (η Key×Dt))
 |.ref i=>match ch[i]? with
  |some (.dT l)=>(dats (l.map (·.2))).map fun ds=>(l.map (·.1)).zip ds
  |_=>ψ
 |.own _ (.dcT l)=>ς l
 |_=>ψ
theorem wX{l:η (η Key×Dt)}(g:Gh G F H ρ ch)(r:RelC G F H ρ ch.length c v)(h:nr ch c=ς l):∃a J1,v=.ref a/\H a=ς (.dT J1)/\J1.map (·.1)=l.map (·.1)/\Reps G.K F (l.map (·.2)) (J1.map (·.2)):=by
 unfold nr at h;split at h
 .rename_i i;split at h<;>first|(cases h;done)|skip
  rename_i Z hl;obtain⟨ds,U,rfl⟩:=mS h;obtain⟨_,J1,h1,h2,O⟩:=g.ok i _ hl
  have W:(Z.map (·.1)).length=ds.length:=by have:=congrArg qm0 (cN U);simpa using this
  refine⟨_,J1,r.2,h1,?_,?_⟩
  .rw[h2,qt5 Θ]
  .rw[List.map_snd_zip Θ];exact bj U O
 .cases h;obtain⟨a,rfl,_,⟨b,J1,e,rfl,h1,h2,O⟩,_⟩:=r;exact⟨_,J1,rfl,h1,h2,O⟩
 .cases h
def fY(l:η (η Key×Dt)):η Dt:=l.map fun q=>.t [np q.1,q.2]
def eIl(m:Md)(fa:Fg):Fg:=fun δ ch=>(fa δ ch).bind fun p=>(nr p.2 p.1).bind fun l=>fin m p.2 (.e (fY l))
theorem lI:∀{ds:η Dt}{vs:η V},ds.length=vs.length->(∀(j:Nat)(d:Dt)(v:V),ds[j]?=ς d->vs[j]?=ς v->Rep K F d v)->Reps K F ds vs
 |[],[],_,_=>by simp[Reps]
 |[],_::_,h,_=>by cases h
 |_::_,[],h,_=>by cases h
 |d::ds,v::vs,h,q=>by simp only[Reps];exact⟨v,vs,rfl,q 0 d v rfl rfl,lI (by simpa using h) fun j d v h1 h2=>q (j+1) d v (by simpa using h1) (by simpa using h2)⟩
theorem BL (hK:X.K=G.K) (h:aQ sc "list"=θ) (hc:X.calm=θ) (hm:X.mg "list"=ψ) (ha:GE G X o fa) (e1:bp X sc) (W:qh5 o "items" X.env (eval o X.env)=eval o X.env) (hline:(apos.endLine==cpos.line)=θ) :
  GE G X (.Call (.Name "list" p) [.Call (.Attribute o "items" apos) [] [] cpos] [] pos) (eIl m fa):=
 PE.mono (dW h (tQ hc) hm rfl (bF (mM PySem.F.plainAttrs_dict PySem.F.slot_dict_items PySem.F.type_dict_items tO ha W hline) cK rfl) e1 rfl rfl) fun σ H Q ⟨Φ,δ,ch,F,ρ,c,ch',en,hf,k⟩=>by
  obtain⟨q,h1,hf1⟩:=bS hf;obtain⟨l,h2,hf2⟩:=bS hf1;refine⟨Φ,δ,ch,F,ρ,_,_,en,h1,fun v F1 H1 ρ1 a1 r1=>?_⟩;obtain⟨d,J1,rfl,hH,hk,hr⟩:=wX a1.gh r1.1 h2;have hlen:J1.length=l.length:=by have:=congrArg qm0 hk;simpa using this
  refine⟨.inr (.inr (.inl ⟨rfl,.inr ⟨_,hH⟩⟩)),d,J1,rfl,rfl,.inl hH,fun x hx=>⟨x,d,J1,rfl,ah,.inl ?_,fun bs ts ls hb ht hbt nd fr hl hlt=>?_⟩⟩
  .rw[ai (aK hH hx)];exact hH
  have k1:=(bZ a1.gh hf2 (k.adv a1)).step (Step.made (o:=vwI x d) a1.gh.fh hx);have Z:Same F1 (upd H1 x (vwI x d)):=a1.gh.fh.trans (Same.upd hx);generalize upd H1 x (vwI x d)=H2 at hbt fr hl k1 Z ⊢
  have hbn:∀b∈bs,∃vs,H2 b=ς (.t vs):=fun b hm=>by
   obtain⟨j,hj⟩:=List.getElem?_of_mem hm;have hlt:j<J1.length:=by rw[<- hb];exact(gX hj).1
   exact⟨_,hbt j b _ hj (gQ hlt)⟩
  have hb1:∀{b:J4},b∈bs->b∉ts:=fun {b} h1 h2=>by obtain⟨vs,e⟩:=hbn b h1;rw[fr b h2]at e;cases e
  let ps:=qt0 (fun b (p:η Key×V)=>[V.ref b,p.2]) bs J1;have hpl:ps.length=ts.length:=by simp[ps,hb,ht]
  let F':Hp:=fun b=>if b∈ts∨b∈bs then eR H2 ts ps b else F1 b
  have fin:∀{b:J4},b∈ts∨b∈bs->F' b=eR H2 ts ps b:=fun h=>if_pos h
  have O:∀{b:J4},¬ (b∈ts∨b∈bs)->F' b=F1 b:=fun h=>if_neg h
  have hs:=jB (ps:=ps) fr
  have ff:Same F1 F':=fun b o e=>by
   by_cases h:b∈ts∨b∈bs
   .rw[fin h];exact hs _ _ (Z _ _ e)
   .rw[O h];exact e
  have fh':Same F' (eR H2 ts ps):=fun b o e=>by
   by_cases h:b∈ts∨b∈bs
   .rw[fin h]at e;exact e
   .rw[O h]at e;exact hs _ _ (Z _ _ e)
  have st:Step F1 H2 F' (eR H2 ts ps):=⟨hs,ff,fh',fun b o e=>by
   by_cases h:b∈ts∨b∈bs
   .rcases h with h|h
    .exact .inr (.inl (fr b h))
    .exact .inr (.inr (hbn b h))
   .rw[O h]at e;exact .inl e⟩
  refine cg (k1.step st) fh' (lI (by simp[fY,ht,hlen]) fun j y z h3 h4=>?_) (by rw[cR hlt];exact hl);unfold fY at h3;rw[qa8]at h3 h4;obtain⟨q,hq,rfl⟩:=mS h3;obtain⟨t,htt,rfl⟩:=mS h4;have hj:j<l.length:=(gX hq).1;obtain⟨p,hp⟩:∃p,J1[j]?=ς p:=⟨J1[j],gQ Θ⟩;obtain⟨b,U⟩:∃b,bs[j]?=ς b:=⟨bs[j],gQ Θ⟩
  have hpk:p.1=q.1:=by
   have e1:(J1.map (·.1))[j]?=ς p.1:=by rw[qa8,hp];rfl
   have e2:(l.map (·.1))[j]?=ς q.1:=by rw[qa8,hq];rfl
   rw[hk,e2]at e1;exact(qc9 e1).symm
  obtain⟨w,hw,rw'⟩:=hr.get (i:=j) (d:=q.2) (by rw[qa8,hq];rfl);have hwp:w=p.2:=by rw[qa8,hp]at hw;exact(qc9 hw).symm
  subst hwp;have hpj:ps[j]?=ς [V.ref b,p.2]:=by simp only[ps];rw[zc4,U,hp]
  simp only[Rep];refine⟨t,[V.ref b,p.2],rfl,SqT.of (by rw[fin (.inl (qa5 htt))];exact ku nd htt hpj),?_⟩;simp only[Reps];refine⟨_,_,rfl,tL ?_,_,_,rfl,rw'.same ff,rfl⟩;have hbm:=qa5 U;rw[fin (.inr hbm),cR (hb1 hbm),hbt j b p U hp,hpk]
def qB(fa fe:Fg):Fg:=fun δ ch=>(fa δ ch).bind fun p=>(fe δ p.2).bind fun q=>match p.1 with
 |.ref i=>(eQ p.2 i).bind fun _=>(eQ q.2 i).bind fun l=>(bO q.1).bind fun j=>if 0<=j/\j<l.length/\l.length<=1000000 then(l[j.toNat]?).map fun c=>(c,q.2.set i (.e (l.eraseIdx j.toNat)))else ψ
 |_=>ψ
theorem Paired.erase{α β:Type}{R:α->β->Prop}:∀{l:η α}{m:η β}(i:Nat),Paired R l m->Paired R (l.eraseIdx i) (m.eraseIdx i)
 |_,_,_,.nil=>.nil
 |_,_,0,.cons _ t=>t
 |_,_,i+1,.cons r t=>.cons r (Paired.erase i t)
theorem qC(O:0<=j)(h1:j<n):ze3 j n=ς j.toNat:=by unfold ze3;have e:(if j<0 then j+(n:Int)else j)=j:=if_neg Θ;simp only[e];rw[if_pos (by simp[O,h1])]
theorem BM(hx:GE G X o fa)(he:GE G X e fe)(A:AsM X o "pop" apos [e] cpos):GE G X (.Call (.Attribute o "pop" apos) [e] [] cpos) (qB fa fe):=
 PE.mono (ld PySem.F.plainAttrs_list PySem.F.slot_list_pop PySem.F.type_list_pop rP hx (bF he cK (A.star _ _ rfl).1) A.base A.few A.line (A.star _ _ rfl).1 (A.star _ _ rfl).2) fun σ H Q ⟨Φ,δ,ch,F,ρ,c,ch',en,hg,k⟩=>by
  have⟨⟨c1,ch1⟩,h1,hg1⟩:=bS hg;obtain⟨q,h2,U⟩:=bS hg1;cases c1 with
  |ref i=>
   obtain⟨l0,h3,hg3⟩:=bS U;obtain⟨l,h4,Z⟩:=bS hg3;obtain⟨j,h5,O⟩:=bS Z;split at O<;>first|(cases O;done)|skip
   rename_i hz;obtain⟨c',h6,e6⟩:=mS O;cases e6;refine⟨Φ,δ,ch,F,ρ,_,_,en,h1,fun v F1 H1 ρ1 a1 r1=>?_⟩;obtain⟨W,q0,_⟩:=a1.gh.ok i _ (cC h3);obtain⟨hi,rfl⟩:=r1.1;refine⟨.inl ⟨rfl,W,.inl (.inl q0)⟩,Φ,δ,_,F1,ρ1,_,_,en.adv a1,h2,fun w F2 H2 ρ2 a2 r2=>?_⟩;obtain⟨vs,q1,q2⟩:=a2.gh.ok i _ (cC h4);have hz2:ρ2 i=ρ1 i:=a2.ext i hi;have hw:=cO h5 r2.1;subst hw;obtain⟨y,hy,ry⟩:=Paired.get q2 h6;have a3:Adv G F2 H2 ρ2 q.2 F2 _ ρ2 _:=.put (o:=.e (l.eraseIdx j.toNat)) (u:=.e (vs.eraseIdx j.toNat)) a2.gh (cC h4) trivial ⟨_,ah,Paired.erase _ q2⟩;rw[hz2]at q1 a3;exact⟨_,vs,j,j.toNat,y,rfl,rfl,q1,Θ,Θ,by rw[RelSs.length q2];exact qC hz.1 hz.2.1,hy,((k.adv a1).adv a2).sol a3 (ry.adv a3)⟩
  |_=>cases U
def wY(t:Bool):CO->ζ CO
 |.e _=>if t then ψ else ς (.e [])
 |.dK _=>if t then ς (.dK [])else ψ
 |.dT _=>if t then ς (.dT [])else ψ
 |_=>ψ
def sCl(t:Bool)(fa:Fg):Fs:=fun δ ch=>(fa δ ch).bind fun p=>match p.1 with
 |.ref i=>((p.2[i]?).bind (wY t)).map fun o=>.nx δ (p.2.set i o)
 |_=>ψ
theorem tR {t:Bool} (hx:GE G X o fa) (U:qh5 o "clear" X.env (eval o X.env)=eval o X.env) (O:(apos.endLine==cpos.line)=θ) (hsw:qi6 (.Call (.Attribute o "clear" apos) [] [] cpos) ψ pos.line X.env=pure ξ) :
  GS1 G X (.Expr (.Call (.Attribute o "clear" apos) [] [] cpos) pos) (sCl t fa):=by
 cases t with
 |false=>
  refine PSBq.mono (dB (mM PySem.F.plainAttrs_list PySem.F.slot_list_clear PySem.F.type_list_clear rQ hx U O) hsw) fun D σ H ⟨Φ,δ,ch,F,ρ,og,en,hg,k⟩=>?_
  have⟨⟨c1,ch1⟩,h1,hg1⟩:=bS hg;cases c1 with
  |ref i=>
   obtain⟨w,h2,e2⟩:=mS hg1;cases e2;obtain⟨o,ho,Z⟩:=bS h2;refine⟨Φ,δ,ch,F,ρ,_,_,en,h1,fun v F1 H1 ρ1 a1 r1=>?_⟩;obtain⟨hi,rfl⟩:=r1.1;have W:=a1.gh.ok i o ho;cases o with
   |e l=>cases Z;obtain⟨vs,q1,_⟩:=W;exact⟨.inl ⟨rfl,vs,.inl (.inl q1)⟩,_,vs,rfl,rfl,q1,k σ F1 _ ρ1 ((en.adv a1).adv (.put (o:=.e []) a1.gh ho trivial ⟨_,ah,.nil⟩))⟩
   |_=>cases Z
  |_=>cases hg1
 |true=>
  refine PSBq.mono (dB (mM PySem.F.plainAttrs_dict PySem.F.slot_dict_clear PySem.F.type_dict_clear wW hx U O) hsw) fun D σ H ⟨Φ,δ,ch,F,ρ,og,en,hg,k⟩=>?_
  have⟨⟨c1,ch1⟩,h1,hg1⟩:=bS hg;cases c1 with
  |ref i=>
   obtain⟨w,h2,e2⟩:=mS hg1;cases e2;obtain⟨o,ho,Z⟩:=bS h2;refine⟨Φ,δ,ch,F,ρ,_,_,en,h1,fun v F1 H1 ρ1 a1 r1=>?_⟩;obtain⟨hi,rfl⟩:=r1.1;have W:=a1.gh.ok i o ho;cases o with
   |dK l=>cases Z;obtain⟨_,J1,q1,_⟩:=W;exact⟨.inr (.inr (.inl ⟨rfl,.inl ⟨_,q1⟩⟩)),_,rfl,rfl,.inr ⟨⟨_,q1⟩,k σ F1 _ ρ1 ((en.adv a1).adv (.put (o:=.dK []) a1.gh ho trivial ⟨qw8,_,ah,rfl,.nil⟩))⟩⟩
   |dT l=>cases Z;obtain⟨_,J1,q1,_⟩:=W;exact⟨.inr (.inr (.inl ⟨rfl,.inr ⟨_,q1⟩⟩)),_,rfl,rfl,.inl ⟨⟨_,q1⟩,k σ F1 _ ρ1 ((en.adv a1).adv (.put (o:=.dT []) a1.gh ho trivial ⟨qw8,_,ah,rfl,.nil⟩))⟩⟩
   |_=>cases Z
  |_=>cases hg1
def sCs(i:Nat):Fs:=fun δ ch=>match b7 δ i with
 |some (.e _)=>ς (.nx (δ.set i (ς (.own θ (.e [])))) ch)
 |_=>ψ
def cF(ch:CH):CV->ζ (Key×CV)
 |.g (.t [k,d])=>(cX k).map fun k=>(k,.g d)
 |.ref j=>match ch[j]? with
  |some (.t [.g k,c])=>(cX k).map fun k=>(k,c)
  |_=>ψ
 |_=>ψ
def bc(ch:CH):η CV->ζ (η (Key×CV))
 |[]=>ς []
 |c::l=>(cF ch c).bind fun p=>(bc ch l).map (p::·)
theorem tS(g:Gh G F H ρ ch){p:Key×CV}(h:cF ch c=ς p)(r:RelS G F ρ ch.length c v):∃t u,v=.ref t/\SqT G.K H t [kV p.1,u]/\RelS G F ρ ch.length p.2 u:=by
 unfold cF at h;split at h
 .rename_i k d;obtain⟨Z,O,rfl⟩:=mS h;have r:Rep G.K F (.t [k,d]) v:=r;simp only[Rep,Reps]at r;obtain⟨t,vs,rfl,h1,x,ws,rfl,W,y,ws',rfl,U,rfl⟩:=r;have:=dD (RepB.of g.fh (show Rep G.K F _ _ from W)) O;subst this;exact⟨t,y,rfl,g.fh.tup h1,U⟩
 .rename_i j;split at h<;>first|(cases h;done)|skip
  rename_i k c' hj;obtain⟨Z,O,rfl⟩:=mS h;obtain⟨vs,h1,h2⟩:=g.ok j _ hj;obtain _|⟨W,_|⟨U,_|_⟩⟩:=h2;have:=dD (RepB.of g.fh (show Rep G.K F _ _ from W)) O;subst this;exact⟨_,_,r.2,SqT.of h1,U⟩
 .cases h
theorem jC(g:Gh G F H ρ ch):∀{l:η CV}{vs:η V}{ps:η (Key×CV)},bc ch l=ς ps->RelSs G F ρ ch.length l vs->∃O:η (Key×V),vs.length=O.length/\O.map (·.1)=ps.map (·.1)/\RelSs G F ρ ch.length (ps.map (·.2)) (O.map (·.2))/\∀(j:Nat)(q:Key×V),O[j]?=ς q->∃t,vs[j]?=ς (.ref t)/\SqT G.K H t [kV q.1,q.2]
 |[],_,ps,h,.nil=>by cases h;exact⟨[],rfl,rfl,.nil,fun j q U=>by simp at U⟩
 |c::l,_,ps,h,.cons r1 Z=>by
  obtain⟨p,hp,h⟩:=bS h;obtain⟨ps',W,rfl⟩:=mS h;obtain⟨t,u,rfl,h1,h2⟩:=tS g hp r1;obtain⟨O,q1,q2,q3,q4⟩:=jC g W Z;refine⟨(p.1,u)::O,by simp[q1],by simp[q2],.cons h2 q3,fun j q U=>?_⟩;cases j with
  |zero=>simp at U;subst U;exact⟨t,rfl,h1⟩
  |succ j=>simpa using q4 j q (by simpa using U)
def kx(ch:CH):CV->ζ (η CV)
 |.ref i=>match ch[i]? with
  |some (.e l)=>ς l
  |some (.t l)=>ς l
  |_=>ψ
 |.g (.e l)=>ς (l.map .g)
 |.g (.t l)=>ς (l.map .g)
 |.own _ (.e l)=>ς (l.map .g)
 |_=>ψ
theorem wZ{l:η CV}(g:Gh G F H ρ ch)(r:RelC G F H ρ ch.length c v)(h:kx ch c=ς l):∃a vs b,v=.ref a/\SqB b G.K H a vs/\RelSs G F ρ ch.length l vs:=by
 unfold kx at h;split at h
 .split at h<;>cases h
  .rename_i i _ hl;obtain⟨vs,h1,h2⟩:=g.ok i _ hl;exact⟨_,vs,θ,r.2,SqL.of h1,h2⟩
  .rename_i i _ hl;obtain⟨vs,h1,h2⟩:=g.ok i _ hl;exact⟨_,vs,ξ,r.2,SqT.of h1,h2⟩
 .cases h;simp only[RelC,RelS,Rep]at r;obtain⟨a,vs,rfl,h1,h2⟩:=r;exact⟨a,vs,θ,rfl,g.fh.seq h1,RelSs.dats h2⟩
 .cases h;simp only[RelC,RelS,Rep]at r;obtain⟨a,vs,rfl,h1,h2⟩:=r;exact⟨a,vs,ξ,rfl,g.fh.tup h1,RelSs.dats h2⟩
 .cases h;obtain⟨a,rfl,_,⟨b,vs,e,rfl,h1,h2⟩,_⟩:=r;exact⟨_,vs,θ,rfl,SqL.of h1,RelSs.dats h2⟩
 .cases h
theorem kz{k:Key}(h:k∉J1.map (·.1)):bM J1 k=ψ:=by
 cases q:bM J1 k with
 |none=>rfl
 |some v=>exact absurd (v7 q) h
theorem dZ:∀{ps J1:η (Key×V)},((J1++ps).map (·.1)).Nodup->ba J1 ps=J1++ps
 |[],J1,_=>by simp[ba]
 |p::ps,J1,h=>by
  have O:p.1∉J1.map (·.1):=fun z=>by rw[qd0]at h;exact(qe2.mp h).2.2 p.1 z p.1 Ξ rfl
  simp only[ba];rw[rR _ (kz O),dZ (by simpa using h)];simp
def lJ(m:Md)(ps:η (Key×CV))(ch:CH):ζ (CV×CH):=match dats (ps.map (·.2))with
 |some ds=>fin m ch (.dct ((ps.map (·.1)).zip ds))
 |none=>if(ps.map (·.2)).all CV.sol then ς (.ref ch.length,ch++[.dK ps])else ψ
def eDc(m:Md)(fa:Fg):Fg:=fun δ ch=>(fa δ ch).bind fun p=>(kx p.2 p.1).bind fun l=>(bc p.2 l).bind fun ps=>if(ps.map (·.1)).Nodup then lJ m ps p.2 else ψ
theorem w6{l:η (Key×Dt)}{p:J4}{Q:VK}(k:KO K F H (.dct l) Q)(O:Same F H)(U:J1.map (·.1)=l.map (·.1))(r:Reps K F (l.map (·.2)) (J1.map (·.2)))(hp:H p=ψ):Q (.ref p) (upd H p (.dK J1)):=k _ _ F (fun b=>b=p) (Step.made O hp) ⟨p,J1,rfl,rfl,ah,U,r⟩ fun b z=>by subst z;exact⟨O.free hp,hp,_,ah,nofun⟩
theorem w8(h:aQ sc "dict"=θ)(hK:X.K=G.K)(hc:X.calm=θ)(hm:X.mg "dict"=ψ)(ha:GE G X a fa)(e1:bp X sc)(he:qb3 [a] X.env=(ξ,eval a X.env)::qb3 [] X.env):GE G X (.Call (.Name "dict" p) [a] [] pos) (eDc m fa):=
 PE.mono (dW h (nq hc) hm rfl (bF ha cK he) e1 he rfl) fun σ H Q ⟨Φ,δ,ch,F,ρ,c,ch',en,hf,k⟩=>by
  obtain⟨q,h1,U⟩:=bS hf;obtain⟨l,h2,W⟩:=bS U;obtain⟨ps,h3,O⟩:=bS W;split at O<;>first|(cases O;done)|skip
  rename_i nd;refine⟨Φ,δ,ch,F,ρ,_,_,en,h1,fun v F1 H1 ρ1 a1 r1=>?_⟩;obtain⟨x,vs,b,rfl,hq,hr⟩:=wZ a1.gh r1.1 h2;obtain⟨qs,q1,q2,q3,q4⟩:=jC a1.gh h3 hr;rw[hK];refine⟨x,vs,qs,rfl,⟨b,hq⟩,q1,q4,fun y hy=>?_⟩;have e:ba [] qs=qs:=by rw[dZ (by simpa[q2] using nd)];simp
  rw[e];unfold lJ at O;split at O
  .rename_i ds hd;have Z:(ps.map (·.1)).length=ds.length:=by have:=congrArg qm0 (cN hd);simpa using this
   exact w6 (bZ a1.gh O (k.adv a1)) a1.gh.fh (by rw[q2,qt5 Θ]) (by rw[List.map_snd_zip Θ];exact bj hd q3) hy
  .split at O<;>cases O
   exact ki (o:=.dK ps) a1.gh hy ⟨nd,qs,ah,q2,q3⟩ (k.adv a1)
def rUpd:V->η V->Hp->VK->Prop:=fun x vs H Q=>∃d o J1 more,x=.ref d/\vs=[.ref o]/\d≠o/\H d=ς (.dK J1)/\H o=ς (.dK more)/\J1.length+more.length<=qa9/\Q .non (upd H d (.dK (ba J1 more)))
theorem ip:∀(ps J1:η (Key×Value)),merged J1 ps=cD J1 ps
 |[],J1=>rfl
 |p::ps,J1=>ip ps _
theorem BN:MtM X "dict.update" rUpd:=by
 intro J0 s σ H x vs v us Q I rx rv h;obtain⟨d,o,J1,more,rfl,rfl,W,hd,ho,hz,q⟩:=h;cases rx;obtain⟨u,rfl,ru⟩:=rv.one;cases ru;obtain⟨z1,y1,O,k1,D1⟩:=I.hok d _ hd;obtain⟨z2,y2,Z,k2,D2⟩:=I.hok o _ ho;have l1:=k1.length;have l2:=k2.length
 refine zb8 PySem.F.slot_dict_update (show Heap.DictOf (av X.prog X.w) s.heap d O from D1).typeIs PySem.F.entry_dict_update (PySem.F.args_dict_update_2 _ _) (meets_dict_update (av X.prog X.w) d o W y2)
  ⟨O,Z,D1,D2,Θ,fun h' hm _ hs=>?_⟩
 have U:=KV.all k2 k1;obtain⟨od,es,ep,e1,rest⟩:=id hm;refine⟨.non,_,I.write (x:=d) (e:=d) (o:=.dK (ba J1 more)) (h':=h') (t':=s.toks) (by rw[hd];trivial) (.inl rfl) (fun b u hb hu=>(hs.2 b hb).trans hu) ⟨od,e1⟩ ⟨?_,y1,_,U,?_⟩,rfl,q⟩
 .have:=dY more J1;lia
 .rw[<- ip];exact hm
def gv(ch:CH)(i:Nat):ζ (η (Key×CV)):=match ch[i]? with
 |some (.dK l)=>ς l
 |_=>ψ
theorem eS{l:η (Key×CV)}(h:gv ch i=ς l):ch[i]?=ς (.dK l):=by
 unfold gv at h;split at h<;>cases h
 assumption
def sUp(fa fe:Fg):Fs:=fun δ ch=>(fa δ ch).bind fun p=>(fe δ p.2).bind fun q=>match p.1,q.1 with
 |.ref i,.ref j=>(gv p.2 i).bind fun _=>(gv q.2 i).bind fun l=>(gv q.2 j).bind fun n=>if i≠j/\((l++n).map (·.1)).Nodup/\l.length+n.length<=qa9 then ς (.nx δ (q.2.set i (.dK (l++n))))else ψ
 |_,_=>ψ
theorem qD(hx:GE G X o fa)(he:GE G X e fe)(A:AsM X o "update" apos [e] cpos)(hsw:qi6 (.Call (.Attribute o "update" apos) [e] [] cpos) ψ pos.line X.env=pure ξ):GS1 G X (.Expr (.Call (.Attribute o "update" apos) [e] [] cpos) pos) (sUp fa fe):=
 PSBq.mono (dB (ld PySem.F.plainAttrs_dict PySem.F.slot_dict_update PySem.F.type_dict_update BN hx (bF he cK (A.star _ _ rfl).1) A.base A.few A.line (A.star _ _ rfl).1 (A.star _ _ rfl).2) hsw) fun D σ H ⟨Φ,δ,ch,F,ρ,og,en,hg,k⟩=>by
  have⟨⟨c1,ch1⟩,h1,hg1⟩:=bS hg;have⟨⟨c2,ch2⟩,h2,hg2⟩:=bS hg1;clear hg hg1;dsimp only at h2 hg2;split at hg2<;>first|(cases hg2;done)|skip
  rename_i i j;obtain⟨l0,h3,hg3⟩:=bS hg2;obtain⟨l,h4,Z⟩:=bS hg3;obtain⟨n,h5,U⟩:=bS Z;split at U<;>cases U
  rename_i hz;refine⟨Φ,δ,ch,F,ρ,_,_,en,h1,fun v F1 H1 ρ1 a1 r1=>?_⟩;obtain⟨_,vs0,q0,_⟩:=a1.gh.ok i _ (eS h3);obtain⟨hi,rfl⟩:=r1.1;refine⟨.inr (.inr (.inl ⟨rfl,.inl ⟨_,q0⟩⟩)),Φ,δ,_,F1,ρ1,_,_,en.adv a1,h2,fun w F2 H2 ρ2 a2 r2=>?_⟩;obtain⟨_,O,q1,q2,q3⟩:=a2.gh.ok i _ (eS h4);obtain⟨_,kv2,p1,p2,p3⟩:=a2.gh.ok j _ (eS h5);obtain⟨hj,rfl⟩:=r2.1;have W:ρ2 i=ρ1 i:=a2.ext i hi;have e1:=wU q2;have e2:=wU p2;have ep:ba O kv2=O++kv2:=dZ (by rw[qd0,q2,p2,<- qd0];exact hz.2.1);have a3:Adv G F2 H2 ρ2 ch2 F2 _ ρ2 _:=.put (o:=.dK (l++n)) (u:=.dK (O++kv2)) a2.gh (eS h4) trivial ⟨hz.2.1,_,ah,by simp[q2,p2],by rw[qd0,qd0];exact Paired.app q3 p3⟩;have hne:ρ1 i≠ρ2 j:=fun e=>hz.1 (a2.gh.inj i j (ao (eS h4)) hj (by rw[W,e]))
  rw[W]at q1 a3;refine⟨_,_,O,kv2,rfl,rfl,hne,q1,p1,Θ,?_⟩;rw[ep];exact k σ F2 _ ρ2 (((en.adv a1).adv a2).adv a3)
end
structure Op2 where
 op:qv3 ⊕ CmpOp
 g:Dt->Dt->Option T
 ok:∀(K:xA9)(X:Cx)(k:Nat),X.K=K->Room k X.A->fX K=θ->∃r,OpR X (match op with|.inl o=>qh4 o|.inr o=>qf0 o) r/\R2D K r g
structure Bf where
 nm:Str
 fv:String ⊕ String
 bt:qf4 nm=ς (fv.elim .builtin .type)
 g:List Dt->Option T
 ok:∀(K:xA9)(X:Cx)(k:Nat),X.K=K->X.calm=θ->Room k X.A->∃r,CallR X (fv.elim .builtin .type) r/\CRD K r g
structure Ms where
 nm:Str
 id:String
 slot:Slot "str" nm id
 ty:typeOf (.builtin id)=pure (.type "method_descriptor")
 g:Dt->List Dt->Option T
 ok:∀(K:xA9)(X:Cx),X.K=K->∃r,MtR X id r/\MRD K r g
structure Ia where
 op:qv3
 f:Int->Int->Int
 ok:∀X:Cx,PIp X op (ipI f)
inductive E where
 |k (d:Dt)|v (i:Nat)|g (j:Nat)
 |b2 (o:Op2) (m:Md) (a b:E)
 |nt (a:E)|ng (a:E)|an (a b:E)|cd (c a b:E)
 |tr (a:E)|tn (a:E)|ta (a b:E)|to (a b:E)
 |bn (o:Bf) (m:Md) (as:E)|ii (c:String) (a:E)|ms (o:Ms) (m:Md) (a as:E)|gt (a k e:E)
 |ca (j:Nat) (as:E)|me (j:Nat) (o as:E)|mk (j:Nat) (as:E)
 |at (c f:Nat) (o:E)|ix (a b:E)|sl (m:Md) (a lo hi:E)|no
 |ls (m:Md) (as:E)|tu (as:E)|dn (m:Md) (t:Bool)|il (m:Md) (a:E)|pp (a b:E)|dc (m:Md) (a:E)
 |co (m:Md) (src:List (Option Nat)) (pt:Pt) (it c e:E)|ys
 |it (a:E)|rg (as:E)|en (a:E)
 |nil|cons (a as:E)
inductive En where
 |fn (x:Str) (n:Nat) (F:Fd)|fd (x:Str) (n:Nat) (d:Int) (F:Fd)|me (c:Nat) (m:Str) (n:Nat) (F:Fd)|mk (c:Nat) (n:Nat) (F:Fd)
structure Tb where
 f:List En
 gc:List (Str×Dt)
def nF:Fg:=fun _ _=>ψ
def aDf(d:Int)(fs:FM (η CV)):FM (η CV):=fun δ ch=>(fs δ ch).map fun p=>(p.1++[.g (.int d)],p.2)
def w9:E->Nat
 |.cons _ as=>w9 as+1
 |_=>0
mutual
def evE(tb:Tb):E->Fg
 |.k d=>eK d
 |.v i=>eV i
 |.g j=>match tb.gc[j]? with
  |some p=>eK p.2
  |none=>nF
 |.b2 o m a b=>e2 m o.g (evE tb a) (evE tb b)
 |.nt a=>eNt (evE tb a)
 |.ng a=>eNg (evE tb a)
 |.an a b=>eAn (evE tb a) (evE tb b)
 |.cd c a b=>eIf (evT tb c) (evE tb a) (evE tb b)
 |.bn o m as=>eB m o.g (evA tb as)
 |.ii c a=>eIs c (evE tb a)
 |.ms o m a as=>eMt m o.g (evE tb a) (evA tb as)
 |.gt a k e=>eGt (evE tb a) (evE tb k) (evE tb e)
 |.ca j as=>match tb.f[j]? with
  |some (.fn _ n F)=>eCa n F (evA tb as)
  |some (.fd _ n d F)=>eCa n F (aDf d (evA tb as))
  |_=>nF
 |.me j o as=>match tb.f[j]? with
  |some (.me c _ n F)=>eMe c n F (evE tb o) (evA tb as)
  |_=>nF
 |.mk j as=>match tb.f[j]? with
  |some (.mk c n F)=>eMk c n F (evA tb as)
  |_=>nF
 |.at c f o=>eAt c f (evE tb o)
 |.ix a b=>eIx (evE tb a) (evE tb b)
 |.sl m a lo hi=>eSl m (evE tb a) (evO tb lo) (evO tb hi)
 |.ls m as=>eLs m (evA tb as)
 |.tu as=>eTu (evA tb as)
 |.dn m t=>eDn m t
 |.il m a=>eIl m (evE tb a)
 |.pp a b=>qB (evE tb a) (evE tb b)
 |.dc m a=>eDc m (evE tb a)
 |.co m src pt it c e=>eCo m src (evI tb it) (bnd pt) (evT tb c) (evE tb e)
 |_=>nF
def evO(tb:Tb):E->ζ Fg
 |.no=>ψ
 |.cons a _=>ς (evE tb a)
 |_=>ς nF
def evT(tb:Tb):E->FM Bool
 |.tr (.b2 o m a b)=>aL (e2 m o.g (evE tb a) (evE tb b))
 |.tr a=>cq (evE tb a)
 |.tn a=>tNt (evT tb a)
 |.ta a b=>tAn (evT tb a) (evT tb b)
 |.to a b=>iT (evT tb a) (evT tb b)
 |.ys=>tYs
 |_=>fun _ _=>ψ
def evA(tb:Tb):E->FM (η CV)
 |.nil=>aNl
 |.cons a as=>aCn (evE tb a) (evA tb as)
 |_=>fun _ _=>ψ
def evI(tb:Tb):E->FM (η Dt)
 |.it a=>iE (evE tb a)
 |.rg as=>iR (w9 as) (evA tb as)
 |.en a=>iN (evE tb a)
 |_=>fun _ _=>ψ
end
inductive S where
 |nil|sq (s ss:S)|fz (i:Nat) (ss:S)
 |set (i:Nat) (e:E)|un (pt:Pt) (e:E)|put (a k e:E)|fl (c f:Nat) (o e:E)|fa (c f:Nat) (o:Ia) (a e:E)|au (i:Nat) (o:Ia) (e:E)
 |dr (e:E)|ap (a e:E)|aps (i:Nat) (e:E)|cl (t:Bool) (a:E)|up (a e:E)
 |rt (e:E)|rn
 |cd (c:E) (a b:S)|fo (pt:Pt) (it:E) (b:S)|wh (n:Nat) (c:E) (b:S)
def evS(tb:Tb):S->Fs
 |.nil=>ar
 |.sq s ss=>aj (evS tb s) (evS tb ss)
 |.fz i ss=>sFz i (evS tb ss)
 |.set i e=>aO i (evE tb e)
 |.un pt e=>sUn pt (evE tb e)
 |.put a k e=>sPt (evE tb a) (evE tb k) (evE tb e)
 |.fl c f o e=>sFl c f (evE tb o) (evE tb e)
 |.fa c f o a e=>sFa c f o.f (evE tb a) (evE tb e)
 |.au i o e=>sAu i o.f (evE tb e)
 |.dr e=>sDr (evE tb e)
 |.ap a e=>sAp (evE tb a) (evE tb e)
 |.aps i e=>sAs i (evE tb e)
 |.cl t a=>sCl t (evE tb a)
 |.up a e=>sUp (evE tb a) (evE tb e)
 |.rt e=>sRt (evE tb e)
 |.rn=>sRn
 |.cd c a b=>sIf (evT tb c) (evS tb a) (evS tb b)
 |.fo pt it b=>na (evI tb it) (bnd pt) (evS tb b)
 |.wh n c b=>whZ (evT tb c) (evS tb b) n
structure Lw where
 bl:List Str
 ct:List (Str×List Str)
 ks:List String
structure Sc where
 sc:J8
 N:List Str
def cst:J6->Dt->Bool
 |.Constant (.int i) _ _,.int j=>i==j
 |.Constant (.str x) _ _,.str y=>x==y
 |.Constant (.bool b) _ _,.bl c=>b==c
 |.Constant .none _ _,.non=>θ
 |_,_=>ξ
def aE:J6->Bool
 |.Starred _ _=>ξ
 |_=>θ
def aZ:J6->Bool
 |.Call (.Name _ _) [] [] _=>ξ
 |_=>θ
def gG:J6->Bool
 |.Slice _ _ _ _=>ξ
 |_=>θ
def iq:J6->Bool
 |.ListComp _ _ _ _|.SetComp _ _ _ _|.DictComp _ _ _ _ _=>ξ
 |_=>θ
def tT:J6->Bool
 |.Set _ _ _=>ξ
 |_=>θ
def Ed:J6->Bool
 |.Tuple _ _ _|.List _ _=>ξ
 |_=>θ
variable{m:Str}{apos:Pos}
section
variable{e o:J6}{es:η J6}{env:Env}{pos:Pos}
theorem aG(h:aE e=θ):qb3 (e::es) env=(ξ,eval e env)::qb3 es env:=by cases e<;>first|rfl|cases h
theorem bw:∀{es:η J6},es.all aE=θ->(qh3 pos (qb3 es env)).any (·.1)=ξ
 |[],_=>rfl
 |e::es,h=>by simp only[qc7,qa1]at h;rw[aG h.1];show(ξ||(qh3 pos (qb3 es env)).any (·.1))=ξ;rw[bw h.2];rfl
theorem lK:∀{es:η J6},es.all aE=θ->(qh3 pos (qb3 es env)).all (fun x=>!x.1)=θ
 |[],_=>rfl
 |e::es,h=>by simp only[qc7,qa1]at h;rw[aG h.1];show(!false&&(qh3 pos (qb3 es env)).all (fun x=>!x.1))=θ;rw[lK h.2];rfl
theorem base_of(h:aZ o=θ):qh5 o m env (eval o env)=eval o env:=by
 unfold qh5;split
 .cases h
 .rfl
theorem nu(h:gG e=θ):jR e:=fun a i=>by
 unfold zd4;split
 .cases h
 .contradiction
 .rfl
theorem ir{t:ζ J6}(h:iq e=θ):qi6 e t n env=pure ξ:=by cases e<;>first|rfl|cases h
theorem kA(h:tT e=θ)(x:Value):qh0 e env x=pure x:=by cases e<;>first|rfl|cases h
theorem kD (h:es.all aE=θ) (O:es.length<30):((qh3 pos (qb3 es env)).all (fun x=>!x.1)&&(qo8 pos (qi2 [] env)).all (fun x=>x.1.isSome)
      && decide (es.length+([]:η qw7).length+(if([]:η qw7).isEmpty then 0 else 1)<30))=θ:=by
 rw[lK h];simp only[qg4,zf9,qj6];rw[show(qo8 pos (qi2 [] env)).all (fun x=>x.1.isSome)=θ from rfl,qj6];exact decide_eq_true O
theorem qE (hb:aZ o=θ) (O:es.all aE=θ) (W:es.length<30) (hl:(apos.endLine==pos.line)=θ) :
  ∃pl,eval (.Call (.Attribute o m apos) es [] pos) env=(do
   let ov <- eval o env
   qw5 apos.atName
   let (f,first) <- qp1 [ov] (qu4 ov m pl)
   zc7 pos f first (qh3 pos (qb3 es env)) (qo8 pos (qi2 [] env))):=by
 refine⟨do return (<- importBound o env).getD θ,?_⟩;have U:methodCallForm (es.length+([]:η qw7).length) (qh3 pos (qb3 es env)) (qo8 pos (qi2 [] env))=θ:=kD O W;rw[PySem.arm_eval_Call,base_of hb];unfold methodCall;rw[U];unfold calleeOf methodCallPos;simp only[hl,ze7,ze4,if_true,qy3]
end
def fNm(c:Sc)(inn:Bool)(i:Nat):J6->Bool
 |.Name x _=>cm c.sc c.N i x&&(if inn then loOk c.sc x else iQ c.sc x)
 |_=>ξ
def xa(c:Sc)(inn:Bool):η Nat->η J6->Bool
 |[],[]=>θ
 |i::is,e::es=>fNm c inn i e&&xa c inn is es
 |_,_=>ξ
def fP(c:Sc)(inn:Bool):Pt->J6->Bool
 |.one i,e=>fNm c inn i e
 |.many is,.Tuple es _ _=>xa c inn is es
 |_,_=>ξ
def bB(sc:J8):η Str:=sc.names.filterMap fun y=>if y.2==.local||y.2==.cell||y.2==.free then ς y.1 else ψ
def zd:J6->Bool
 |.Tuple _ _ _=>θ
 |_=>ξ
def tU:J6->Bool
 |.UnaryOp .Not _ _|.BoolOp _ _ _|.IfExp _ _ _ _|.Compare _ _ _ _=>ξ
 |_=>θ
def Ee:E->Bool
 |.b2 _ _ _ _=>ξ
 |_=>θ
mutual
def fE(L:Lw)(tb:Tb)(c:Sc):E->J6->Bool
 |.k d,e=>cst e d
 |.v i,e=>(match e with|.Name x _=>cm c.sc c.N i x|_=>ξ)
 |.g j,e=>(match e with|.Name x _=>aQ c.sc x&&(match tb.gc[j]? with|some p=>p.1==x|none=>ξ)|_=>ξ)
 |.b2 o _ a b,e=>(match e with
  |.BinOp l op r _=>decide (o.op=.inl op)&&fE L tb c a l&&fE L tb c b r
  |.Compare l [op] [r] _=>decide (o.op=.inr op)&&!behindInMarks op r&&fE L tb c a l&&fE L tb c b r
  |_=>ξ)
 |.nt a,e=>(match e with|.UnaryOp .Not x _=>fE L tb c a x|_=>ξ)
 |.ng a,e=>(match e with|.UnaryOp .USub x _=>fE L tb c a x|_=>ξ)
 |.an a b,e=>(match e with|.BoolOp .And [x,y] _=>fE L tb c a x&&fE L tb c b y|.BoolOp .And (x::y::z::r) p=>fE L tb c a x&&fE L tb c b (.BoolOp .And (y::z::r) p)|_=>ξ)
 |.cd t a b,e=>(match e with|.IfExp x y z _=>fT L tb c t x&&fE L tb c a y&&fE L tb c b z|_=>ξ)
 |.bn o _ as,e=>(match e with|.Call (.Name x _) (y::ys) [] _=>(x==o.nm)&&aQ c.sc x&&L.bl.contains x&&(y::ys).all aE&&fA L tb c as (y::ys)|_=>ξ)
 |.ii cn a,e=>(match e with|.Call (.Name f _) [x,.Name t _] [] _=>(f==("isinstance":Str))&&aQ c.sc f&&L.bl.contains f&&aQ c.sc t&&L.bl.contains t&&(qf4 t==ς (.type cn))&&L.ks.contains cn&&aE x&&fE L tb c a x|_=>ξ)
 |.ms o _ a as,e=>(match e with|.Call (.Attribute x m ap) (y::ys) [] p=>(m==o.nm)&&(ap.endLine==p.line)&&aZ x&&(y::ys).all aE&&decide ((y::ys).length<30)&&fE L tb c a x&&fA L tb c as (y::ys)|_=>ξ)
 |.gt a k d,e=>(match e with|.Call (.Attribute x m ap) [y,z] [] p=>(m==("get":Str))&&(ap.endLine==p.line)&&aZ x&&aE y&&aE z&&fE L tb c a x&&fE L tb c k y&&fE L tb c d z|_=>ξ)
 |.ca j as,e=>(match e with|.Call (.Name x _) ys [] _=>(match tb.f[j]? with|some (.fn y _ _)=>y==x|some (.fd y _ _ _)=>(y==x)&&!ys.isEmpty|_=>ξ)&&aQ c.sc x&&ys.all aE&&fA L tb c as ys|_=>ξ)
 |.me j o as,e=>(match e with|.Call (.Attribute x m ap) ys [] p=>(match tb.f[j]? with|some (.me cl y _ _)=>(y==m)&&(match L.ct[cl]? with|some q=>!(q.2.contains m)|none=>ξ)|_=>ξ)&&(ap.endLine==p.line)&&aZ x&&ys.all aE&&decide (ys.length<30)&&fE L tb c o x&&fA L tb c as ys|_=>ξ)
 |.mk j as,e=>(match e with|.Call (.Name x _) ys [] _=>(match tb.f[j]? with|some (.mk cl _ _)=>(match L.ct[cl]? with|some q=>q.1==x|none=>ξ)|_=>ξ)&&aQ c.sc x&&ys.all aE&&fA L tb c as ys|_=>ξ)
 |.at cl f o,e=>(match e with|.Attribute x fn _=>(match L.ct[cl]? with|some q=>decide (q.2[f]?=ς fn)|none=>ξ)&&aZ x&&fE L tb c o x|_=>ξ)
 |.ix a b,e=>(match e with|.Subscript x y _=>gG y&&fE L tb c a x&&fE L tb c b y|_=>ξ)
 |.sl _ a lo hi,e=>(match e with|.Subscript x (.Slice l h ψ _) _=>fE L tb c a x&&fO L tb c lo l&&fO L tb c hi h|_=>ξ)
 |.ls _ as,e=>(match e with|.List ys _=>ys.all aE&&fA L tb c as ys|_=>ξ)
 |.tu as,e=>(match e with|.Tuple ys _ _=>ys.all aE&&fA L tb c as ys|_=>ξ)
 |.dn _ _,e=>(match e with|.Dict [] [] _=>θ|_=>ξ)
 |.il _ a,e=>(match e with|.Call (.Name x _) [.Call (.Attribute y m ap) [] [] cp] [] _=>(x==("list":Str))&&aQ c.sc x&&L.bl.contains x&&(m==("items":Str))&&(ap.endLine==cp.line)&&aZ y&&fE L tb c a y|_=>ξ)
 |.pp a b,e=>(match e with|.Call (.Attribute y m ap) [z] [] cp=>(m==("pop":Str))&&(ap.endLine==cp.line)&&aZ y&&aE z&&fE L tb c a y&&fE L tb c b z|_=>ξ)
 |.dc _ a,e=>(match e with|.Call (.Name x _) [y] [] _=>(x==("dict":Str))&&aQ c.sc x&&L.bl.contains x&&aE y&&fE L tb c a y|_=>ξ)
 |.co _ src pt it t a,e=>(match e with
  |.ListComp elt [⟨tg,iter,ifs,k⟩] scope _=>(k==0)&&r9 c.N c.sc scope ((bB scope).drop 1) src&&fI L tb c it tg iter&&tT iter&&fP ⟨de scope c.sc,(bB scope).drop 1⟩ θ pt tg&&(pt.slots.all fun k=>decide (src[k]?=ς ψ))&&
   (match ifs with|[]=>(match t with|.ys=>θ|_=>ξ)|[x]=>fT L tb ⟨de scope c.sc,(bB scope).drop 1⟩ t x|_=>ξ)&&fE L tb ⟨de scope c.sc,(bB scope).drop 1⟩ a elt
  |_=>ξ)
 |_,_=>ξ
def fO(L:Lw)(tb:Tb)(c:Sc):E->ζ J6->Bool
 |.no,ψ=>θ
 |.cons a _,ς e=>fE L tb c a e
 |_,_=>ξ
def fT(L:Lw)(tb:Tb)(c:Sc):E->J6->Bool
 |.tr a,e=>if tU e then Ee a&&fE L tb c a e else fTr L tb c a e
 |.tn a,e=>(match e with|.UnaryOp .Not x _=>fT L tb c a x|_=>ξ)
 |.ta a b,e=>(match e with|.BoolOp .And [x,y] _=>fT L tb c a x&&fT L tb c b y|.BoolOp .And (x::y::z::r) p=>fT L tb c a x&&fT L tb c b (.BoolOp .And (y::z::r) p)|_=>ξ)
 |.to a b,e=>(match e with|.BoolOp .Or [x,y] _=>fT L tb c a x&&fT L tb c b y|.BoolOp .Or (x::y::z::r) p=>fT L tb c a x&&fT L tb c b (.BoolOp .Or (y::z::r) p)|_=>ξ)
 |_,_=>ξ
def fTr(L:Lw)(tb:Tb)(c:Sc):E->J6->Bool
 |.b2 o _ a b,e=>(match e with|.Compare l [op] [r] _=>decide (o.op=.inr op)&&!behindInMarks op r&&fE L tb c a l&&fE L tb c b r|_=>ξ)
 |_,_=>ξ
def fA(L:Lw)(tb:Tb)(c:Sc):E->η J6->Bool
 |.nil,[]=>θ
 |.cons a as,e::es=>fE L tb c a e&&fA L tb c as es
 |_,_=>ξ
def fI(L:Lw)(tb:Tb)(c:Sc):E->J6->J6->Bool
 |.it a,_,e=>fE L tb c a e
 |.rg as,_,e=>(match e with|.Call (.Name x _) ys [] _=>(x==("range":Str))&&aQ c.sc x&&L.bl.contains x&&ys.all aE&&decide (ys.length=w9 as)&&decide (1<=ys.length)&&decide (ys.length<=1)&&fA L tb c as ys|_=>ξ)
 |.en a,tg,e=>zd tg&&(match e with|.Call (.Name x _) [y] [] _=>(x==("enumerate":Str))&&aQ c.sc x&&L.bl.contains x&&aE y&&fE L tb c a y|_=>ξ)
 |_,_,_=>ξ
end
def lev(n:Nat):Nat:=2*n
def EnP(G:Gx)(P:qe7)(w:J5)(K:xA9)(mg:Str->ζ Value)(base:Heap)(k:Nat):En->Prop
 |.fn x n F=>∃ps,OkF P w K mg base x k ps (spZ G n F)
 |.fd x n d F=>∃ps f fd t,mg x=ς (.ref f)/\xD9 K (.ref f)=θ/\Binds K fd ps [.int d t]/\FnOk P w K mg base CX0 k f fd ps (spZ G n F)
 |.me c m n F=>∀p,G.ct[c]?=ς p->∃ps,OkM P w K mg base p.1 m k ps (spZ G n F)
 |.mk c n F=>∀p,G.ct[c]?=ς p->∃ps,OkI P w K mg base p.1 k ps (spZ G n F)
abbrev EnOk(G:Gx)(X:Cx)(k:Nat):En->Prop:=EnP G X.prog X.w X.K X.mg X.base k
structure Cn(L:Lw)(tb:Tb)(G:Gx)(c:Sc)(X:Cx):Prop where
 K:X.K=G.K
 ct:G.ct=L.ct
 k2:fX G.K=θ
 sc:X.env.scope=c.sc
 N:X.N=c.N
 nd:c.N.Nodup
 calm:X.calm=θ
 room:Room (lev tb.f.length+1) X.A
 bl:∀x∈L.bl,X.mg x=ψ
 gc:∀p∈tb.gc,yX G.K X.mg p.1 p.2
 cls:∀c,jo G c
 ks:∀s∈L.ks,kg G.K s
 f:∀e∈tb.f,EnOk G X (lev tb.f.length) e
 xe:X.xe=fun _ _=>False
variable{scope:J8}{inn:Bool}{env:Env}{cpos p:Pos}{es:η J6}
section
variable{L:Lw}{tb:Tb}{G:Gx}{c:Sc}{X:Cx}
theorem Cn.rm(n:Cn L tb G c X):Room (lev tb.f.length) X.A:=n.room.mono (qi3 _)
theorem Cn.comp(n:Cn L tb G c X){M:η Str}{s:qb0}{ex:η J4}(O:M.Nodup):Cn L tb G ⟨de scope c.sc,M⟩ (cxC X M scope C s H ex):=⟨n.K,n.ct,n.k2,scC n.sc,rfl,O,n.calm,n.room,n.bl,n.gc,n.cls,n.ks,n.f,rfl⟩
theorem BO{G:Gx}{d:Dt}(h:cst e d=θ):GE G X e (eK d):=by
 unfold cst at h;split at h
 .rw[beq_iff_eq]at h;subst h;exact sF zX fun _=>br
 .rw[beq_iff_eq]at h;subst h;exact sF zZ fun _=>eM
 .rw[beq_iff_eq]at h;subst h;exact sF Du fun _=>ib
 .exact sF zY fun _=>oe
 .cases h
theorem ze(n:Cn L tb G c X)(h:cm c.sc c.N i x=θ):PE X (.Name x pos) (qO i):=pvD i h n.sc n.N
theorem tV(hi:inn=ξ->∀x,X.fn x=θ)(n:Cn L tb G c X)(h:fNm c inn i e=θ):PG X e (eu i):=by
 unfold fNm at h;split at h<;>first|(cases h;done)|skip
 rw[qa1]at h;cases inn with
 |true=>exact sj h.1 h.2 (by rw[n.N];exact n.nd) n.sc n.N
 |false=>exact si h.1 h.2 n.nd n.sc n.N (.inl (hi rfl _))
theorem oK(hi:inn=ξ->∀x,X.fn x=θ)(n:Cn L tb G c X):∀{is:η Nat}{es:η J6},xa c inn is es=θ->PGs X es (tPs G (gu is) is)/\(qi1 es X.env).length=is.length/\(qi1 es X.env).findIdx? (·.1)=ψ
 |[],[],_=>⟨wJ,rfl,rfl⟩
 |i::is,e::es,h=>by
  simp only[xa,qa1]at h;obtain⟨h1,h2,U⟩:=oK hi n h.2
  have O:qi1 (e::es) X.env=(ξ,qz3 e X.env)::qi1 es X.env:=by have h:=h.1;unfold fNm at h;split at h<;>first|(cases h;done)|rfl
  refine⟨tj (tV hi n h.1) h1 (by rw[O];rfl),by rw[O];simp[h2],?_⟩;rw[O,List.findIdx?_cons];simp[U]
 |[],e::es,h=>by cases h
 |i::is,[],h=>by cases h
theorem oM(hi:inn=ξ->∀x,X.fn x=θ)(n:Cn L tb G c X){pt:Pt}(h:fP c inn pt e=θ):GP G X e pt:=by
 cases pt with
 |one i=>exact BE (tV hi n h)
 |many is=>
  unfold fP at h;split at h<;>first|(cases h;done)|skip
  .rename_i O;cases O
  .rename_i O;cases O;obtain⟨h1,h2,U⟩:=oK hi n h;exact wK n.K n.calm h1 h2 U
theorem BP(h:tU e=θ)(O:Sem Value):isTrue e env O=(do let v <- O;qw5 e.pos;qp1 [v] (truthy v)):=by
 cases e with
 |UnaryOp op a p=>cases op<;>first|rfl|cases h
 |_=>first|rfl|cases h
theorem zf{op vs p}{t:FM Bool}(h:GT G X (.BoolOp op vs p) t):GW G X (.BoolOp op vs p) t:=fun _ J0 s σ H Q I q=>h J0 s σ H Q I q
theorem asM{o:J6}(h1:aZ o=θ)(h2:es.all aE=θ)(O:es.length<30)(h4:apos.endLine=cpos.line):AsM X o m apos es cpos:=⟨base_of h1,kD h2 O,beq_iff_eq.mpr h4,fun e r h=>by subst h;simp only[qc7,qa1]at h2;exact⟨aG h2.1,bw h2.2⟩⟩
theorem tW{k m:Nat}{ps:η Str}{g:Fd}{f:J4}{fd:qn1}{d:Int}{t:Tok}{fs:FM (η CV)}(h:aQ sc x=θ)(F:FnOk X.prog X.w X.K X.mg X.base CX0 k f fd ps (spZ G m g))(hm:X.mg x=ς (.ref f))(hk:xD9 X.K (.ref f)=θ)(hb:Binds X.K fd ps [.int d t])(hr:Room k X.A)(ha:GA G X (e::es) fs)(e1:bp X sc)(Z:qb3 (e::es) X.env=(ξ,eval e X.env)::qb3 es X.env)(U:(qh3 cpos (qb3 es X.env)).any (·.1)=ξ):GE G X (.Call (.Name x p) (e::es) [] cpos) (eCa m g (aDf d fs)):=PE.mono (nY (dvs:=[.int d]) F hr (glD h e1) hm hk hb (.cons ⟨t,rfl⟩ .nil) ia ha (cM h) Z U) fun σ H Q ⟨Φ,δ,ch,F,ρ,c,ch',en,hf,kk⟩=>by obtain⟨q,h1,O⟩:=bS hf;obtain⟨r,h2,e2⟩:=mS h1;subst e2;refine⟨Φ,δ,ch,F,ρ,r.1,r.2,en,h2,fun vs F1 H1 ρ1 a1 r1=>?_⟩;exact ij (σ:=σ) ⟨Φ,δ,r.2,F1,ρ1,r.1++[.g (.int d)],c,ch',en.adv a1,Paired.app r1 (.cons (show RelC G F1 H1 ρ1 r.2.length (.g (.int d)) (.int d)from br (K:=G.K) (F:=F1)) .nil),O,kk.adv a1⟩
mutual
theorem gE:∀(a:E){c:Sc}{X:Cx}(n:Cn L tb G c X)(e:J6),fE L tb c a e=θ->GE G X e (evE tb a)
 |.k d,c,X,n,e,h=>BO h
 |.v i,c,X,n,e,h=>by
  simp only[fE]at h;split at h<;>first|(cases h;done)|skip
  exact A9 (ze n h)
 |.g j,c,X,n,e,h=>by
  simp only[fE]at h;split at h<;>first|(cases h;done)|skip
  simp only[qa1]at h;obtain⟨h1,h2⟩:=h;split at h2<;>first|(cases h2;done)|skip
  rename_i p hp;rw[beq_iff_eq]at h2;subst h2;show GE G X _ (match tb.gc[j]? with|some p=>eK p.2|none=>nF);rw[hp];obtain⟨v,hm,hv⟩:=n.gc p (qa5 hp);exact sF (so h1 hm n.sc) hv
 |.b2 o m a b,c,X,n,e,h=>by
  simp only[fE]at h;obtain⟨r,o1,o2⟩:=o.ok G.K X _ n.K n.rm n.k2;split at h<;>first|(cases h;done)|skip
  .simp only[qa1,decide_eq_true_eq]at h;obtain⟨⟨h1,h2⟩,h3⟩:=h;rw[h1]at o1;exact Ba o1 o2 (gE a n _ h2) (gE b n _ h3)
  .simp only[qa1,decide_eq_true_eq,qi5]at h;obtain⟨⟨⟨h1,h0⟩,h2⟩,h3⟩:=h;rw[h1]at o1;exact Bb o1 o2 (gE a n _ h2) (gE b n _ h3) h0
 |.nt a,c,X,n,e,h=>by
  simp only[fE]at h;split at h<;>first|(cases h;done)|skip
  exact Bl (gE a n _ h)
 |.ng a,c,X,n,e,h=>by
  simp only[fE]at h;split at h<;>first|(cases h;done)|skip
  exact Bm (gE a n _ h)
 |.an a b,c,X,n,e,h=>by
  simp only[fE]at h;split at h<;>first|(cases h;done)|skip
  .rw[qa1]at h;exact sK (gE a n _ h.1) (Bk (gE b n _ h.2))
  .rw[qa1]at h;exact sK (gE a n _ h.1) (gE b n _ h.2)
 |.cd t a b,c,X,n,e,h=>by
  simp only[fE]at h;split at h<;>first|(cases h;done)|skip
  simp only[qa1]at h;exact D0 (gT t n _ h.1.1) (gE a n _ h.1.2) (gE b n _ h.2)
 |.bn o m as,c,X,n,e,h=>by
  simp only[fE]at h;split at h<;>first|(cases h;done)|skip
  simp only[qa1,beq_iff_eq,qh2]at h;obtain⟨⟨⟨⟨h1,h2⟩,h3⟩,h4⟩,h5⟩:=h;subst h1;obtain⟨r,o1,o2⟩:=o.ok G.K X _ n.K n.calm n.rm;have hs:=h4;simp only[qc7,qa1]at hs;have hb:=o.bt;cases q:o.fv with
  |inl id=>rw[q]at o1 hb;exact tz h2 o1 o2 (n.bl _ h3) hb (gA as n _ h5 h4) n.sc (aG hs.1) (bw hs.2)
  |inr id=>rw[q]at o1 hb;exact tB h2 o1 o2 (n.bl _ h3) hb (gA as n _ h5 h4) n.sc (aG hs.1) (bw hs.2)
 |.ii cn a,c,X,n,e,h=>by
  simp only[fE]at h;split at h<;>first|(cases h;done)|skip
  simp only[qa1,beq_iff_eq,qh2]at h;obtain⟨⟨⟨⟨⟨⟨⟨⟨h1,h2⟩,h3⟩,h4⟩,h5⟩,h6⟩,h7⟩,h8⟩,h9⟩:=h;subst h1;exact qo n.K h2 h4 (n.bl _ h3) (n.bl _ h5) h6 (by rw[n.K];exact n.ks _ h7) (gE a n _ h9) n.sc (aG h8) (aG rfl) rfl
 |.ms o m a as,c,X,n,e,h=>by
  simp only[fE]at h;split at h<;>first|(cases h;done)|skip
  simp only[qa1,beq_iff_eq,decide_eq_true_eq]at h;obtain⟨⟨⟨⟨⟨⟨h1,h2⟩,h3⟩,h4⟩,h5⟩,h6⟩,h7⟩:=h;subst h1;obtain⟨r,o1,o2⟩:=o.ok G.K X n.K;have hs:=h4;simp only[qc7,qa1]at hs;exact BG o.slot o.ty o1 o2 (gE a n _ h6) (gA as n _ h7 h4) (base_of h3) (kD h4 h5) (beq_iff_eq.mpr h2) (aG hs.1) (bw hs.2)
 |.gt a k d,c,X,n,e,h=>by
  simp only[fE]at h;split at h<;>first|(cases h;done)|skip
  simp only[qa1,beq_iff_eq]at h;obtain⟨⟨⟨⟨⟨⟨⟨h1,h2⟩,h3⟩,h4⟩,h5⟩,h6⟩,h7⟩,h8⟩:=h;subst h1;exact wT n.k2 n.rm (gE a n _ h6) (gE k n _ h7) (gE d n _ h8) ⟨base_of h3,kD (by simp[h4,h5]) (by show 2<30;decide),beq_iff_eq.mpr h2,by rw[aG h4,aG h5];rfl⟩
 |.ca j as,c,X,n,e,h=>by
  simp only[fE]at h;split at h<;>first|(cases h;done)|skip
  rename_i x _ ys _;simp only[qa1]at h;obtain⟨⟨⟨h1,h2⟩,h3⟩,h4⟩:=h;split at h1<;>first|(cases h1;done)|skip
  .rename_i y m F hj;rw[beq_iff_eq]at h1;subst h1;show GE G X _ (match tb.f[j]? with|some (.fn _ n F)=>eCa n F (evA tb as)|some (.fd _ n d F)=>eCa n F (aDf d (evA tb as))|_=>nF);rw[hj];obtain⟨ps,ok⟩:=n.f _ (qa5 hj);cases ys with
   |nil=>
    have ha:evA tb as=aNl:=by cases as<;>first|rfl|simp[fA]at h4
    rw[ha];exact sO h2 ok n.rm n.sc
   |cons y ys=>have hs:=h3;simp only[qc7,qa1]at hs;exact wx h2 ok n.rm (gA as n _ h4 h3) n.sc (aG hs.1) (bw hs.2)
  .rename_i y m d F hj;simp only[qa1,beq_iff_eq]at h1;obtain⟨rfl,h5⟩:=h1;show GE G X _ (match tb.f[j]? with|some (.fn _ n F)=>eCa n F (evA tb as)|some (.fd _ n d F)=>eCa n F (aDf d (evA tb as))|_=>nF);rw[hj];obtain⟨ps,f,fd,t,q1,q2,q3,q4⟩:=n.f _ (qa5 hj);cases ys with
   |nil=>cases h5
   |cons z ys=>have hs:=h3;simp only[qc7,qa1]at hs;exact tW h2 q4 q1 q2 q3 n.rm (gA as n _ h4 h3) n.sc (aG hs.1) (bw hs.2)
 |.me j o as,c,X,n,e,h=>by
  simp only[fE]at h;split at h<;>first|(cases h;done)|skip
  rename_i x m ap ys p;simp only[qa1,beq_iff_eq,decide_eq_true_eq]at h;obtain⟨⟨⟨⟨⟨⟨h1,h2⟩,h3⟩,h4⟩,h5⟩,h6⟩,h7⟩:=h;split at h1<;>first|(cases h1;done)|skip
  rename_i cl y k F hj;simp only[qa1,beq_iff_eq]at h1;obtain⟨rfl,h8⟩:=h1;split at h8<;>first|(cases h8;done)|skip
  rename_i q hq;rw[<- n.ct]at hq;have hm:y∉q.2:=by simpa[qh2] using h8
  show GE G X _ (match tb.f[j]? with|some (.me c _ n F)=>eMe c n F (evE tb o) (evA tb as)|_=>nF);rw[hj];obtain⟨ps,ok⟩:=n.f _ (qa5 hj) q hq;obtain⟨pl,he⟩:=qE (env:=X.env) (m:=y) h3 h4 h5 (beq_iff_eq.mpr h2);cases ys with
  |nil=>
   have ha:evA tb as=aNl:=by cases as<;>first|rfl|simp[fA]at h7
   rw[ha];exact sQ n.K hq hm ok n.rm (gE o n _ h6) he
  |cons z ys=>have hs:=h4;simp only[qc7,qa1]at hs;exact wy n.K hq hm ok n.rm (gE o n _ h6) (gA as n _ h7 h4) (aG hs.1) (bw hs.2) he
 |.mk j as,c,X,n,e,h=>by
  simp only[fE]at h;split at h<;>first|(cases h;done)|skip
  rename_i x _ ys _;simp only[qa1]at h;obtain⟨⟨⟨h1,h2⟩,h3⟩,h4⟩:=h;split at h1<;>first|(cases h1;done)|skip
  rename_i cl k F hj;split at h1<;>first|(cases h1;done)|skip
  rename_i q hq;rw[<- n.ct]at hq;rw[beq_iff_eq]at h1;subst h1;show GE G X _ (match tb.f[j]? with|some (.mk c n F)=>eMk c n F (evA tb as)|_=>nF);rw[hj];obtain⟨ps,ok⟩:=n.f _ (qa5 hj) q hq;cases ys with
  |nil=>
   have ha:evA tb as=aNl:=by cases as<;>first|rfl|simp[fA]at h4
   rw[ha];exact sS n.K hq h2 ok n.room n.sc
  |cons z ys=>have hs:=h3;simp only[qc7,qa1]at hs;exact wz n.K hq h2 ok n.room (gA as n _ h4 h3) n.sc (aG hs.1) (bw hs.2)
 |.at cl f o,c,X,n,e,h=>by
  simp only[fE]at h;split at h<;>first|(cases h;done)|skip
  simp only[qa1]at h;obtain⟨⟨h1,h2⟩,h3⟩:=h;split at h1<;>first|(cases h1;done)|skip
  rename_i q hq;rw[<- n.ct]at hq;exact D4 n.K (n.cls cl) hq (of_decide_eq_true h1) (gE o n _ h3) (base_of h2)
 |.ix a b,c,X,n,e,h=>by
  simp only[fE]at h;split at h<;>first|(cases h;done)|skip
  simp only[qa1]at h;exact D3 n.K n.k2 n.rm (gE a n _ h.1.2) (gE b n _ h.2) (nu h.1.1)
 |.sl m a lo hi,c,X,n,e,h=>by
  simp only[fE]at h;split at h<;>first|(cases h;done)|skip
  simp only[qa1]at h;exact tq n.K (gE a n _ h.1.1) (gO lo n _ h.1.2) (gO hi n _ h.2)
 |.ls m as,c,X,n,e,h=>by
  simp only[fE]at h;split at h<;>first|(cases h;done)|skip
  rw[qa1]at h;exact Bs (gA as n _ h.2 h.1)
 |.tu as,c,X,n,e,h=>by
  simp only[fE]at h;split at h<;>first|(cases h;done)|skip
  rw[qa1]at h;exact Bt (gA as n _ h.2 h.1)
 |.dn m t,c,X,n,e,h=>by
  simp only[fE]at h;split at h<;>first|(cases h;done)|skip
  exact wQ
 |.il m a,c,X,n,e,h=>by
  simp only[fE]at h;split at h<;>first|(cases h;done)|skip
  simp only[qa1,beq_iff_eq,qh2]at h;obtain⟨⟨⟨⟨⟨⟨h1,h2⟩,h3⟩,h4⟩,h5⟩,h6⟩,h7⟩:=h;subst h1 h4;exact BL n.K h2 n.calm (n.bl _ h3) (gE a n _ h7) n.sc (base_of h6) (beq_iff_eq.mpr h5)
 |.pp a b,c,X,n,e,h=>by
  simp only[fE]at h;split at h<;>first|(cases h;done)|skip
  simp only[qa1,beq_iff_eq]at h;obtain⟨⟨⟨⟨⟨h1,h2⟩,h3⟩,h4⟩,h5⟩,h6⟩:=h;subst h1;exact BM (gE a n _ h5) (gE b n _ h6) (asM h3 (by simp[h4]) (by show 1<30;decide) h2)
 |.dc m a,c,X,n,e,h=>by
  simp only[fE]at h;split at h<;>first|(cases h;done)|skip
  simp only[qa1,beq_iff_eq,qh2]at h;obtain⟨⟨⟨⟨h1,h2⟩,h3⟩,h4⟩,h5⟩:=h;subst h1;exact w8 h2 n.K n.calm (n.bl _ h3) (gE a n _ h5) n.sc (aG h4)
 |.co m src pt it t a,c,X,n,e,h=>by
  simp only[fE]at h;split at h<;>first|(cases h;done)|skip
  simp only[qa1,beq_iff_eq]at h;obtain⟨⟨⟨⟨⟨⟨⟨h1,h2⟩,h3⟩,h4⟩,h5⟩,h6⟩,h7⟩,h8⟩:=h;subst h1;have S:=CmpScope.of h2;refine wM (pt:=pt) (by rw[n.N,n.sc];exact S) n.calm (gI it n _ _ h3) (fun nd C s H ex=>oM (inn:=true) (nofun) (n.comp nd) h5) (fun C s H ex=>?_) (fun C s H ex=>gE a (n.comp S.nd) _ h8) h6 (kA h4);split at h7
  .split at h7<;>first|(cases h7;done)|skip
   exact oB
  .exact oC (gT t (n.comp S.nd) _ h7)
  .cases h7
 |.tr _,c,X,n,e,h|.tn _,c,X,n,e,h|.ta _ _,c,X,n,e,h|.to _ _,c,X,n,e,h|.no,c,X,n,e,h|.ys,c,X,n,e,h|.it _,c,X,n,e,h|.rg _,c,X,n,e,h|.en _,c,X,n,e,h|.nil,c,X,n,e,h|.cons _ _,c,X,n,e,h=>by simp[fE]at h
theorem gO:∀(a:E){c:Sc}{X:Cx}(n:Cn L tb G c X)(e:ζ J6),fO L tb c a e=θ->jP X e (tM G RO (fOp (evO tb a)))
 |.no,c,X,n,ψ,_=>wO
 |.cons a b,c,X,n,ς e,h=>wP (gE a n e (by simpa only[fO] using h))
 |.no,c,X,n,ς _,h=>by simp[fO]at h
 |.cons _ _,c,X,n,ψ,h=>by simp[fO]at h
 |.k _,c,X,n,e,h|.v _,c,X,n,e,h|.g _,c,X,n,e,h|.b2 _ _ _ _,c,X,n,e,h|.nt _,c,X,n,e,h|.ng _,c,X,n,e,h|.an _ _,c,X,n,e,h|.cd _ _ _,c,X,n,e,h|.tr _,c,X,n,e,h|.tn _,c,X,n,e,h|.ta _ _,c,X,n,e,h|.to _ _,c,X,n,e,h|.bn _ _ _,c,X,n,e,h|.ii _ _,c,X,n,e,h|.ms _ _ _ _,c,X,n,e,h|.gt _ _ _,c,X,n,e,h|.ca _ _,c,X,n,e,h|.me _ _ _,c,X,n,e,h|.mk _ _,c,X,n,e,h|.at _ _ _,c,X,n,e,h|.ix _ _,c,X,n,e,h|.sl _ _ _ _,c,X,n,e,h|.ls _ _,c,X,n,e,h|.tu _,c,X,n,e,h|.dn _ _,c,X,n,e,h|.il _ _,c,X,n,e,h|.pp _ _,c,X,n,e,h|.dc _ _,c,X,n,e,h|.co _ _ _ _ _ _,c,X,n,e,h|.ys,c,X,n,e,h|.it _,c,X,n,e,h|.rg _,c,X,n,e,h|.en _,c,X,n,e,h|.nil,c,X,n,e,h=>by simp[fO]at h
theorem gT:∀(a:E){c:Sc}{X:Cx}(n:Cn L tb G c X)(e:J6),fT L tb c a e=θ->GT G X e (evT tb a)
 |.tr a,c,X,n,e,h=>by
  simp only[fT]at h;split at h
  .rename_i hp;rw[qa1]at h;have ha:evT tb (.tr a)=cq (evE tb a):=by cases a<;>first|rfl|cases h.1
   rw[ha];exact Be n.K (gE a n e h.2) (BP hp)
  .exact gTr a n e h
 |.tn a,c,X,n,e,h=>by
  simp only[fT]at h;split at h<;>first|(cases h;done)|skip
  exact Bg (gT a n _ h)
 |.ta a b,c,X,n,e,h=>by
  simp only[fT]at h;split at h<;>first|(cases h;done)|skip
  .rw[qa1]at h;exact(sH (gT a n _ h.1) (wu (gT b n _ h.2))).t
  .rw[qa1]at h;exact(sH (gT a n _ h.1) (zf (gT b n _ h.2))).t
 |.to a b,c,X,n,e,h=>by
  simp only[fT]at h;split at h<;>first|(cases h;done)|skip
  .rw[qa1]at h;exact(yY (gT a n _ h.1) (Bj (gT b n _ h.2))).t
  .rw[qa1]at h;exact(yY (gT a n _ h.1) (zf (gT b n _ h.2))).t
 |.no,c,X,n,e,h|.cons _ _,c,X,n,e,h|.k _,c,X,n,e,h|.v _,c,X,n,e,h|.g _,c,X,n,e,h|.b2 _ _ _ _,c,X,n,e,h|.nt _,c,X,n,e,h|.ng _,c,X,n,e,h|.an _ _,c,X,n,e,h|.cd _ _ _,c,X,n,e,h|.bn _ _ _,c,X,n,e,h|.ii _ _,c,X,n,e,h|.ms _ _ _ _,c,X,n,e,h|.gt _ _ _,c,X,n,e,h|.ca _ _,c,X,n,e,h|.me _ _ _,c,X,n,e,h|.mk _ _,c,X,n,e,h|.at _ _ _,c,X,n,e,h|.ix _ _,c,X,n,e,h|.sl _ _ _ _,c,X,n,e,h|.ls _ _,c,X,n,e,h|.tu _,c,X,n,e,h|.dn _ _,c,X,n,e,h|.il _ _,c,X,n,e,h|.pp _ _,c,X,n,e,h|.dc _ _,c,X,n,e,h|.co _ _ _ _ _ _,c,X,n,e,h|.ys,c,X,n,e,h|.it _,c,X,n,e,h|.rg _,c,X,n,e,h|.en _,c,X,n,e,h|.nil,c,X,n,e,h=>by simp[fT]at h
theorem gTr:∀(a:E){c:Sc}{X:Cx}(n:Cn L tb G c X)(e:J6),fTr L tb c a e=θ->GT G X e (evT tb (.tr a))
 |.b2 o m a b,c,X,n,e,h=>by
  simp only[fTr]at h;obtain⟨r,o1,o2⟩:=o.ok G.K X _ n.K n.rm n.k2;split at h<;>first|(cases h;done)|skip
  simp only[qa1,decide_eq_true_eq,qi5]at h;obtain⟨⟨⟨h1,h0⟩,h2⟩,h3⟩:=h;rw[h1]at o1;exact Bc o1 o2 (gE a n _ h2) (gE b n _ h3) h0
 |.no,c,X,n,e,h|.cons _ _,c,X,n,e,h|.k _,c,X,n,e,h|.v _,c,X,n,e,h|.g _,c,X,n,e,h|.nt _,c,X,n,e,h|.ng _,c,X,n,e,h|.an _ _,c,X,n,e,h|.cd _ _ _,c,X,n,e,h|.bn _ _ _,c,X,n,e,h|.ii _ _,c,X,n,e,h|.ms _ _ _ _,c,X,n,e,h|.gt _ _ _,c,X,n,e,h|.ca _ _,c,X,n,e,h|.me _ _ _,c,X,n,e,h|.mk _ _,c,X,n,e,h|.at _ _ _,c,X,n,e,h|.ix _ _,c,X,n,e,h|.sl _ _ _ _,c,X,n,e,h|.ls _ _,c,X,n,e,h|.tu _,c,X,n,e,h|.dn _ _,c,X,n,e,h|.il _ _,c,X,n,e,h|.pp _ _,c,X,n,e,h|.dc _ _,c,X,n,e,h|.co _ _ _ _ _ _,c,X,n,e,h|.ys,c,X,n,e,h|.it _,c,X,n,e,h|.rg _,c,X,n,e,h|.en _,c,X,n,e,h|.nil,c,X,n,e,h|.tr _,c,X,n,e,h|.tn _,c,X,n,e,h|.ta _ _,c,X,n,e,h|.to _ _,c,X,n,e,h=>by simp[fTr]at h
theorem gA:∀(a:E){c:Sc}{X:Cx}(n:Cn L tb G c X)(es:η J6),fA L tb c a es=θ->es.all aE=θ->GA G X es (evA tb a)
 |.nil,c,X,n,[],_,_=>Bn
 |.cons a as,c,X,n,e::es,h,hs=>by simp only[fA,qa1]at h;simp only[qc7,qa1]at hs;exact wv (gE a n e h.1) (gA as n es h.2 hs.2) (aG hs.1)
 |.nil,c,X,n,_::_,h,_=>by simp[fA]at h
 |.cons _ _,c,X,n,[],h,_=>by simp[fA]at h
 |.no,c,X,n,e,h,_|.k _,c,X,n,e,h,_|.v _,c,X,n,e,h,_|.g _,c,X,n,e,h,_|.b2 _ _ _ _,c,X,n,e,h,_|.nt _,c,X,n,e,h,_|.ng _,c,X,n,e,h,_|.an _ _,c,X,n,e,h,_|.cd _ _ _,c,X,n,e,h,_|.bn _ _ _,c,X,n,e,h,_|.ii _ _,c,X,n,e,h,_|.ms _ _ _ _,c,X,n,e,h,_|.gt _ _ _,c,X,n,e,h,_|.ca _ _,c,X,n,e,h,_|.me _ _ _,c,X,n,e,h,_|.mk _ _,c,X,n,e,h,_|.at _ _ _,c,X,n,e,h,_|.ix _ _,c,X,n,e,h,_|.sl _ _ _ _,c,X,n,e,h,_|.ls _ _,c,X,n,e,h,_|.tu _,c,X,n,e,h,_|.dn _ _,c,X,n,e,h,_|.il _ _,c,X,n,e,h,_|.pp _ _,c,X,n,e,h,_|.dc _ _,c,X,n,e,h,_|.co _ _ _ _ _ _,c,X,n,e,h,_|.ys,c,X,n,e,h,_|.it _,c,X,n,e,h,_|.rg _,c,X,n,e,h,_|.en _,c,X,n,e,h,_|.tr _,c,X,n,e,h,_|.tn _,c,X,n,e,h,_|.ta _ _,c,X,n,e,h,_|.to _ _,c,X,n,e,h,_=>by simp[fA]at h
theorem gI:∀(a:E){c:Sc}{X:Cx}(n:Cn L tb G c X)(tg e:J6),fI L tb c a tg e=θ->GI G X tg e (evI tb a)
 |.it a,c,X,n,tg,e,h=>gi_e n.K (gE a n e (by simpa only[fI] using h))
 |.rg as,c,X,n,tg,e,h=>by
  simp only[fI]at h;split at h<;>first|(cases h;done)|skip
  rename_i x _ ys _;simp only[qa1,beq_iff_eq,decide_eq_true_eq,qh2]at h;obtain⟨⟨⟨⟨⟨⟨⟨h1,h2⟩,h3⟩,h4⟩,h5⟩,h6⟩,h7⟩,h8⟩:=h;subst h1;show GI G X _ _ (iR (w9 as) (evA tb as));rw[<- h5];have ga:=gA as n _ h8 h4
  match ys,h4,h6,h7,ga with
  |[x],h4,_,_,ga=>simp only[qc7,qa1]at h4;exact qm h2 (n.bl _ h3) ga n.sc (aG h4.1)
  |_::_::_,_,_,h7,_=>simp at h7
 |.en a,c,X,n,tg,e,h=>by
  simp only[fI,qa1]at h;obtain⟨h0,h⟩:=h;split at h<;>first|(cases h;done)|skip
  simp only[qa1,beq_iff_eq,qh2]at h;obtain⟨⟨⟨⟨h1,h2⟩,h3⟩,h4⟩,h5⟩:=h;subst h1;cases tg with
  |Tuple es k p=>exact wL n.K h2 (n.bl _ h3) (gE a n _ h5) n.sc (aG h4)
  |_=>cases h0
 |.no,c,X,n,tg,e,h|.cons _ _,c,X,n,tg,e,h|.k _,c,X,n,tg,e,h|.v _,c,X,n,tg,e,h|.g _,c,X,n,tg,e,h|.b2 _ _ _ _,c,X,n,tg,e,h|.nt _,c,X,n,tg,e,h|.ng _,c,X,n,tg,e,h|.an _ _,c,X,n,tg,e,h|.cd _ _ _,c,X,n,tg,e,h|.bn _ _ _,c,X,n,tg,e,h|.ii _ _,c,X,n,tg,e,h|.ms _ _ _ _,c,X,n,tg,e,h|.gt _ _ _,c,X,n,tg,e,h|.ca _ _,c,X,n,tg,e,h|.me _ _ _,c,X,n,tg,e,h|.mk _ _,c,X,n,tg,e,h|.at _ _ _,c,X,n,tg,e,h|.ix _ _,c,X,n,tg,e,h|.sl _ _ _ _,c,X,n,tg,e,h|.ls _ _,c,X,n,tg,e,h|.tu _,c,X,n,tg,e,h|.dn _ _,c,X,n,tg,e,h|.il _ _,c,X,n,tg,e,h|.pp _ _,c,X,n,tg,e,h|.dc _ _,c,X,n,tg,e,h|.co _ _ _ _ _ _,c,X,n,tg,e,h|.ys,c,X,n,tg,e,h|.nil,c,X,n,tg,e,h|.tr _,c,X,n,tg,e,h|.tn _,c,X,n,tg,e,h|.ta _ _,c,X,n,tg,e,h|.to _ _,c,X,n,tg,e,h=>by simp[fI]at h
end
end
def isLC:J6->Bool
 |.ListComp _ _ _ _=>θ
 |_=>ξ
def swB(c:Sc)(x:Str)(p:Pos):J6->Bool
 |.ListComp _ _ scope q=>decide (c.sc.names.lookup x=ς .local)&&(p.line==q.line)&&!(scope.names.any fun(n,k)=>n==x&&(k==.local||k==.cell))
 |_=>ξ
mutual
def fS(L:Lw)(tb:Tb)(c:Sc):S->Stmt->Bool
 |.set i e,st=>(match st with|.Assign [.Name x p] v _=>cm c.sc c.N i x&&iQ c.sc x&&fE L tb c e v&&(iq v||isLC v)|_=>ξ)
 |.un pt e,st=>(match st with|.Assign [tg] v _=>zd tg&&fP c ξ pt tg&&iq v&&Ed v&&fE L tb c e v|_=>ξ)
 |.put a k e,st=>(match st with|.Assign [.Subscript o ik _] v _=>gG ik&&fE L tb c a o&&fE L tb c k ik&&fE L tb c e v|_=>ξ)
 |.fl cl f o e,st=>(match st with|.Assign [.Attribute x fn _] v _=>(match L.ct[cl]? with|some q=>decide (q.2[f]?=ς fn)|none=>ξ)&&fE L tb c o x&&fE L tb c e v|_=>ξ)
 |.fa cl f op a e,st=>(match st with|.AugAssign (.Attribute x fn _) aop v _=>decide (aop=op.op)&&(match L.ct[cl]? with|some q=>decide (q.2[f]?=ς fn)|none=>ξ)&&fE L tb c a x&&fE L tb c e v|_=>ξ)
 |.au i op e,st=>(match st with|.AugAssign (.Name x _) aop v _=>decide (aop=op.op)&&cm c.sc c.N i x&&iQ c.sc x&&fE L tb c e v|_=>ξ)
 |.dr e,st=>(match st with|.Expr v _=>iq v&&fE L tb c e v|_=>ξ)
 |.ap a e,st=>(match st with|.Expr (.Call (.Attribute o m ap) [v] [] cp) _=>(m==("append":Str))&&(ap.endLine==cp.line)&&aZ o&&aE v&&fE L tb c a o&&fE L tb c e v|_=>ξ)
 |.aps i e,st=>(match st with|.Expr (.Call (.Attribute (.Name x _) m ap) [v] [] cp) _=>(m==("append":Str))&&(ap.endLine==cp.line)&&cm c.sc c.N i x&&aE v&&fE L tb c e v|_=>ξ)
 |.cl _ a,st=>(match st with|.Expr (.Call (.Attribute o m ap) [] [] cp) _=>(m==("clear":Str))&&(ap.endLine==cp.line)&&aZ o&&fE L tb c a o|_=>ξ)
 |.up a e,st=>(match st with|.Expr (.Call (.Attribute o m ap) [v] [] cp) _=>(m==("update":Str))&&(ap.endLine==cp.line)&&aZ o&&aE v&&fE L tb c a o&&fE L tb c e v|_=>ξ)
 |.rt e,st=>(match st with|.Return (ς v) _=>fE L tb c e v|_=>ξ)
 |.rn,st=>(match st with|.Return ψ _=>θ|_=>ξ)
 |.cd t a b,st=>(match st with|.If x y z _=>fT L tb c t x&&fBBq L tb c a y&&fBBq L tb c b z|_=>ξ)
 |.fo pt it b,st=>(match st with|.For tg iter body [] _=>fI L tb c it tg iter&&tT iter&&fP c ξ pt tg&&fBBq L tb c b body|_=>ξ)
 |.wh _ t b,st=>(match st with|.While x body [] _=>fT L tb c t x&&fBBq L tb c b body|_=>ξ)
 |_,_=>ξ
def fBBq(L:Lw)(tb:Tb)(c:Sc):S->η Stmt->Bool
 |.nil,ss=>ss.isEmpty
 |.sq s r,ss=>(match ss with|st::rest=>fS L tb c s st&&fBBq L tb c r rest|[]=>ξ)
 |.fz _ r,ss=>fBBq L tb c r ss
 |_,_=>ξ
end
variable{gs:η Comprehension}{q:Pos}
section
variable{L:Lw}{tb:Tb}{G:Gx}{c:Sc}{X:Cx}
theorem swA{o:J6}:qi6 e (ς (.Attribute o x p)) n env=pure ξ:=by cases e<;>rfl
theorem swS{o i:J6}:qi6 e (ς (.Subscript o i p)) n env=pure ξ:=by cases e<;>rfl
theorem asS{o ik:J6}{pos':Pos}(h:gG ik=θ):AsS X o ik e pos pos':=⟨by unfold qt8;exact swS,by cases e<;>rfl,rfl,fun v=>by cases ik<;>first|rfl|cases h⟩
theorem xb(O:env.scope.kind=.function)(hs:env.scope=c.sc)(h:swB c x p (.ListComp e gs scope q)=θ):qi6 (.ListComp e gs scope q) (ς (.Name x p)) n env=pure θ:=by
 unfold swB at h;simp only[qa1,decide_eq_true_eq,beq_iff_eq]at h;show(pure (env.blockKind==.function&&env.kindOf x==ς .local&&p.line==q.line&&!(scope.names.any fun(n,k)=>n==x&&(k==.local||k==.cell))):Sem Bool)=pure θ;have h1:env.blockKind=.function:=by unfold Env.blockKind;rw[O];rfl
 have h2:env.kindOf x=ς .local:=by unfold Env.kindOf;rw[hs];exact h.1.1
 rw[h1,h2,h.1.2,h.2];simp
theorem tX(hs:env.scope=c.sc)(h:swB c x p (.ListComp e gs scope q)=ξ):qi6 (.ListComp e gs scope q) (ς (.Name x p)) n env=pure ξ:=by
 show(pure (env.blockKind==.function&&env.kindOf x==ς .local&&p.line==q.line&&!(scope.names.any fun(n,k)=>n==x&&(k==.local||k==.cell))):Sem Bool)=pure ξ;congr 1;have h:(decide (c.sc.names.lookup x=ς .local)&&(p.line==q.line)&&!(scope.names.any fun(n,k)=>n==x&&(k==.local||k==.cell)))=ξ:=h;have h2:(env.kindOf x==ς .local)=decide (c.sc.names.lookup x=ς .local):=by unfold Env.kindOf;rw[hs];by_cases q:c.sc.names.lookup x=ς .local<;>simp[q]
 rw[h2,qx0,qx0,<- qx0 (decide _),h,zd1]
mutual
theorem gS(hf:∀x,X.fn x=θ)(hk:X.env.scope.kind=.function)(n:Cn L tb G c X):∀(a:S)(st:Stmt),fS L tb c a st=θ->GS1 G X st (evS tb a)
 |.set i e,st,h=>by
  simp only[fS]at h;split at h<;>first|(cases h;done)|skip
  simp only[qa1,qg5]at h;obtain⟨⟨⟨h1,h2⟩,h3⟩,h4⟩:=h;rename_i x p v q;by_cases hc:iq v=θ
  .exact sT h1 h2 n.nd (gE e n v h3) n.sc n.N (.inl (hf x)) (ir hc)
  .have h4:=h4.resolve_left hc;cases v with
   |ListComp elt gs scope vp=>
    cases hw:swB c x p (.ListComp elt gs scope vp)with
    |false=>exact sT h1 h2 n.nd (gE e n _ h3) n.sc n.N (.inl (hf x)) (tX n.sc hw)
    |true=>
     cases e with
     |co m src pt it t a=>
      simp only[fE]at h3;split at h3<;>first|(cases h3;done)|skip
      rename_i e1;cases e1;simp only[qa1,beq_iff_eq]at h3;obtain⟨⟨⟨⟨⟨⟨⟨q1,q2⟩,q3⟩,q4⟩,q5⟩,q6⟩,q7⟩,q8⟩:=h3;subst q1;have S:=CmpScope.of q2;refine wN (pt:=pt) h1 h2 n.nd n.sc n.N (.inl (hf x)) (by rw[n.N,n.sc];exact S) n.calm (gI it n _ _ q3) (fun nd C s H ex=>oM (inn:=true) nofun (n.comp nd) q5) (fun C s H ex=>?_) (fun C s H ex=>gE a (n.comp S.nd) _ q8) q6 (kA q4) (xb hk n.sc hw);split at q7
      .split at q7<;>first|(cases q7;done)|skip
       exact oB
      .exact oC (gT t (n.comp S.nd) _ q7)
      .cases q7
     |k d=>cases h3
     |_=>simp[fE]at h3
   |_=>cases h4
 |.un pt e,st,h=>by
  simp only[fS]at h;split at h<;>first|(cases h;done)|skip
  simp only[qa1]at h;obtain⟨⟨⟨⟨h1,h2⟩,h3⟩,h4⟩,h5⟩:=h;rename_i tg v q;refine BK (gE e n v h5) (oM (fun _=>hf) n h2) (by unfold qt8;exact ir h3) ?_ (by cases tg<;>first|rfl|cases h1);cases tg with
  |Tuple ts k p=>cases v<;>first|rfl|cases h4
  |_=>cases h1
 |.put a k e,st,h=>by
  simp only[fS]at h;split at h<;>first|(cases h;done)|skip
  simp only[qa1]at h;exact BH n.k2 n.rm (gE a n _ h.1.1.2) (gE k n _ h.1.2) (gE e n _ h.2) (asS h.1.1.1)
 |.fl cl f o e,st,h=>by
  simp only[fS]at h;split at h<;>first|(cases h;done)|skip
  simp only[qa1]at h;obtain⟨⟨h1,h2⟩,h3⟩:=h;split at h1<;>first|(cases h1;done)|skip
  rename_i q hq;rw[<- n.ct]at hq;exact BI n.K (n.cls cl) hq (of_decide_eq_true h1) (gE o n _ h2) (gE e n _ h3) swA
 |.fa cl f op a e,st,h=>by
  simp only[fS]at h;split at h<;>first|(cases h;done)|skip
  simp only[qa1,decide_eq_true_eq]at h;obtain⟨⟨⟨h0,h1⟩,h2⟩,h3⟩:=h;subst h0;split at h1<;>first|(cases h1;done)|skip
  rename_i q hq;rw[<- n.ct]at hq;exact qp n.K (n.cls cl) hq (of_decide_eq_true h1) (op.ok X) (gE a n _ h2) (gE e n _ h3)
 |.au i op e,st,h=>by
  simp only[fS]at h;split at h<;>first|(cases h;done)|skip
  simp only[qa1,decide_eq_true_eq]at h;obtain⟨⟨⟨h0,h1⟩,h2⟩,h3⟩:=h;subst h0;exact BJ h1 h2 n.nd (op.ok X) (gE e n _ h3) n.sc n.N (.inl (hf _))
 |.dr e,st,h=>by
  simp only[fS]at h;split at h<;>first|(cases h;done)|skip
  rw[qa1]at h;exact wC (gE e n _ h.2) (ir h.1)
 |.ap a e,st,h=>by
  simp only[fS]at h;split at h<;>first|(cases h;done)|skip
  simp only[qa1,beq_iff_eq]at h;obtain⟨⟨⟨⟨⟨h1,h2⟩,h3⟩,h4⟩,h5⟩,h6⟩:=h;subst h1;exact qq (gE a n _ h5) (gE e n _ h6) (asM h3 (by simp[h4]) (by show 1<30;decide) h2) rfl
 |.aps i e,st,h=>by
  simp only[fS]at h;split at h<;>first|(cases h;done)|skip
  simp only[qa1,beq_iff_eq]at h;obtain⟨⟨⟨⟨h1,h2⟩,h3⟩,h4⟩,h5⟩:=h;subst h1;exact nl (ze n h3) (gE e n _ h5) (asM rfl (by simp[h4]) (by show 1<30;decide) h2) rfl
 |.cl t a,st,h=>by
  simp only[fS]at h;split at h<;>first|(cases h;done)|skip
  simp only[qa1,beq_iff_eq]at h;obtain⟨⟨⟨h1,h2⟩,h3⟩,h4⟩:=h;subst h1;exact tR (gE a n _ h4) (base_of h3) (beq_iff_eq.mpr h2) rfl
 |.up a e,st,h=>by
  simp only[fS]at h;split at h<;>first|(cases h;done)|skip
  simp only[qa1,beq_iff_eq]at h;obtain⟨⟨⟨⟨⟨h1,h2⟩,h3⟩,h4⟩,h5⟩,h6⟩:=h;subst h1;exact qD (gE a n _ h5) (gE e n _ h6) (asM h3 (by simp[h4]) (by show 1<30;decide) h2) rfl
 |.rt e,st,h=>by
  simp only[fS]at h;split at h<;>first|(cases h;done)|skip
  exact Bz (gE e n _ h)
 |.rn,st,h=>by
  simp only[fS]at h;split at h<;>first|(cases h;done)|skip
  exact wD
 |.cd t a b,st,h=>by
  simp only[fS]at h;split at h<;>first|(cases h;done)|skip
  simp only[qa1]at h;exact D5 (gT t n _ h.1.1) (gB hf hk n a _ h.1.2) (gB hf hk n b _ h.2)
 |.fo pt it b,st,h=>by
  simp only[fS]at h;split at h<;>first|(cases h;done)|skip
  simp only[qa1]at h;obtain⟨⟨⟨h1,h2⟩,h3⟩,h4⟩:=h;exact BF (by rw[n.xe];exact zb0.never) n.calm (gI it n _ _ h1) (oM (fun _=>hf) n h3) (gB hf hk n b _ h4) (kA h2)
 |.wh m t b,st,h=>by
  simp only[fS]at h;split at h<;>first|(cases h;done)|skip
  rw[qa1]at h;exact tp m (by rw[n.xe];exact zb0.never) (gT t n _ h.1) (gB hf hk n b _ h.2)
 |.nil,st,h|.sq _ _,st,h|.fz _ _,st,h=>by simp[fS]at h
theorem gB(hf:∀x,X.fn x=θ)(hk:X.env.scope.kind=.function)(n:Cn L tb G c X):∀(a:S)(ss:η Stmt),fBBq L tb c a ss=θ->GS G X ss (evS tb a)
 |.nil,ss,h=>by
  cases ss with
  |nil=>exact Bw
  |cons _ _=>simp[fBBq]at h
 |.sq s r,ss,h=>by
  simp only[fBBq]at h;split at h<;>first|(cases h;done)|skip
  rw[qa1]at h;exact wA (gS hf hk n s _ h.1) (gB hf hk n r _ h.2)
 |.fz i r,ss,h=>By (gB hf hk n r ss (by simpa only[fBBq] using h))
 |.set _ _,ss,h|.un _ _,ss,h|.put _ _ _,ss,h|.fl _ _ _ _,ss,h|.fa _ _ _ _ _,ss,h|.au _ _ _,ss,h|.dr _,ss,h|.ap _ _,ss,h|.aps _ _,ss,h|.cl _ _,ss,h|.up _ _,ss,h|.rt _,ss,h|.rn,ss,h|.cd _ _ _,ss,h|.fo _ _ _,ss,h|.wh _ _ _,ss,h=>by simp[fBBq]at h
end
end
end L2
namespace L2
open PySem PySem.Spec PyProof.Rows
def cG(m:Nat)(g:Fs):Fd:=fun cs ch=>match g (cs.map ς++qb1 (m-cs.length) ψ) ch with
 |some (.rt c ch')=>ς (c,ch')
 |some (.nx _ ch')=>ς (.g .non,ch')
 |_=>ψ
variable{ch:CH}{vs:η V}{N:η Str}
theorem lL{G:Gx}{F H:Hp}{ρ:Nat->J4}{cs:η CV}(g:Gh G F H ρ ch)(r:RelCs G F H ρ ch.length cs vs)(U:∀t,CV.own θ t∉cs):Ge G ⟨F,H,ρ,ch⟩ (cs.map ς++qb1 (N.length-cs.length) ψ) ch (dN N vs) F H ρ:=by
 have hl:=Paired.length r
 have O:∀(i:Nat)(c:CV),(cs.map ς++qb1 (N.length-cs.length) ψ)[i]?=ς (ς c)->cs[i]?=ς c:=fun i c h=>by
  by_cases hi:i<cs.length
  .rw[qg3 (by simpa using hi),qa8]at h;obtain⟨x,h1,h2⟩:=mS h;cases h2;exact h1
  .rw[qe1 (by simpa using hi)]at h;have:=qa5 h;rw[qw1]at this;cases this.2
 refine⟨.refl g,by simp[dN,hl],fun i c h=>?_,fun i t a h=>absurd (qa5 (O i _ h)) (U t),fun i j t u b a _ h=>absurd (qa5 (O i _ h)) (U t)⟩;obtain⟨v,h1,h2⟩:=Paired.get r (O i c h);refine⟨v,?_,h2⟩;unfold dN;rw[qg3 (by simpa using ao h1),qa8,h1];rfl
def eT(p:Arguments):Bool:=p.posonlyargs.isEmpty&&p.vararg.isNone&&p.kwonlyargs.isEmpty&&p.kwarg.isNone&&decide (p.args.map (·.arg)).Nodup
variable{ns:η Str}
theorem iu:∀{us:η Value},ns.Nodup->us.length=ns.length->ns.filterMap (fun n=>((ns.zip us).lookup n).map fun v=>(n,v))=ns.zip us:=by
 suffices H:∀(ns:η Str)(us:η Value)(O:η (Str×Value)),ns.Nodup->us.length=ns.length->(∀n∈ns,O.lookup n=ψ)->ns.filterMap (fun n=>((O++ns.zip us).lookup n).map fun v=>(n,v))=ns.zip us from fun {us} W hl=>H ns us [] W hl fun _ _=>rfl
 intro ns;induction ns with
 |nil=>intro us O _ _ _;rfl
 |cons n ns ih=>
  intro us O W hl hp;cases us with
  |nil=>cases hl
  |cons u us=>
   have U:=qd6.mp W
   have e1:(O++(n,u)::ns.zip us).lookup n=ς u:=by rw[qw2,hp n qj0];simp[qg8]
   simp only[qo0,qq0,e1,qb2];congr 1
   have:=ih us (O++[(n,u)]) U.2 (by simpa using hl) fun m Z=>by
    rw[qw2,hp m (qe6 _ Z)];have:(m==n)=ξ:=by simpa using fun e=>U.1 (by rw[<- e];exact Z)
    simp[qg8,this]
   rw[qd8]at this;exact this
theorem nv{fd:qn1}(hp:eT fd.params=θ)(hd:fd.defaults=.none){us:η Value}(hl:us.length=fd.params.args.length):ze1 fd ⟨us,[]⟩=pure ((fd.params.args.map (·.arg)).zip us):=by
 unfold eT at hp;simp only[qa1,decide_eq_true_eq,qz6,qm4]at hp;obtain⟨⟨⟨⟨h1,h2⟩,h3⟩,h4⟩,h5⟩:=hp;have U:=iu (us:=us) h5 (by simpa using hl);have hs:seqItems? qg2=(pure ψ:Sem (ζ (Array Value))):=rfl
 have hm:((fd.params.args.map (·.arg)).filter fun n=>((((fd.params.args.map (·.arg)).zip us).lookup n)).isNone)=[]:=by
  rw[za3];intro n hn he;rw[qm4]at he;have h7:n∈((fd.params.args.map (·.arg)).zip us).map (·.1):=by rw[qt5 (by simp[hl])];exact hn
  rw[<- U]at h7;obtain⟨⟨a,b⟩,h8,h9⟩:=qc8.mp h7;obtain⟨m,_,Z⟩:=qv5.mp h8;obtain⟨v,O,W⟩:=mS Z;cases W;cases h9;rw[he]at O;cases O
 obtain⟨nm,qn,⟨po,as,va,ko,kd,ka,df⟩,bd,sc,gl,cl,dfs,kdf,doc,pm,an,cd,ct,bi⟩:=fd;simp only at h1 h2 h3 h4 hd hl hm U ⊢;subst h1 h2 h3 h4 hd;unfold ze1;have hl:us.length=(as.map (·.arg)).length:=by simpa using hl
 simp only[qe0,qh7,qh6,hs,qy3,qz5,qx5];clear h5;generalize as.map (·.arg)=ns at*
 have e1:List.drop (0-ns.length) ([]:η Value)=[]:=List.drop_nil;have e2:ns.take ns.length=ns:=List.take_length;have e3:¬ (us.length > ns.length):=by lia
 simp only[List.toList_toArray,qg4,e1,zf8,e2,hm,List.isEmpty_nil,ze7,qg1,if_false,qt4,List.zip_nil_right,qx5,qy3,U,decide_eq_false e3,zd0]
def ny(K:xA9)(fd:qn1):ζ Value:=match fd.defaults with
 |.ref T=>(match K.lookup T with
  |some o=>(match o.data with
   |.seq J3 _=>(match J3.toList with
    |[v]=>ς v
    |_=>ψ)
   |_=>ψ)
  |none=>ψ)
 |_=>ψ
variable{x:Str}
theorem lM:∀{us:η Value},x∉ns->(ns.zip us).lookup x=ψ:=by
 induction ns with
 |nil=>intro us _;rfl
 |cons n ns O=>
  intro us h;cases us with
  |nil=>rfl
  |cons u us=>
   simp only[qc4,not_or]at h;have:(x==n)=ξ:=by simpa using h.1
   simp only[qo0,qg8,this];exact O h.2
theorem lN{u:Value}:∀{us:η Value},x∉ns->us.length=ns.length->((ns++[x]).zip (us++[u])).lookup x=ς u:=by
 induction ns with
 |nil=>intro us _ hl;cases us<;>first|(cases hl;done)|simp[qg8]
 |cons n ns O=>
  intro us h hl;cases us with
  |nil=>cases hl
  |cons w us=>
   simp only[qc4,not_or]at h;have:(x==n)=ξ:=by simpa using h.1
   simp only[ql1,qo0,qg8,this];exact O h.2 (by simpa using hl)
variable{K:xA9}
theorem lP{s:qb0}{fd:qn1}{v:Value}(hp:eT fd.params=θ)(O:ny K fd=ς v)(X:K.In s.heap){us:η Value}(W:fd.params.args.map (·.arg)=ns++[x]){vs:η Value}(U:vs.length=(ns++[x]).length)(hu:us=vs∨vs=us++[v]):zg3 s fd ⟨us,[]⟩ ((ns++[x]).zip vs):=by
 unfold ny at O;split at O<;>first|(cases O;done)|skip
 rename_i T hT;split at O<;>first|(cases O;done)|skip
 rename_i o ho;split at O<;>first|(cases O;done)|skip
 rename_i J3 n hs;split at O<;>cases O
 rename_i hi;unfold eT at hp;simp only[qa1,decide_eq_true_eq,qz6,qm4]at hp;obtain⟨⟨⟨⟨h1,h2⟩,h3⟩,h4⟩,h5⟩:=hp;rw[W]at h5;have hz:=iu (us:=vs) h5 U;have hx:x∉ns:=fun z=>(qe2.mp h5).2.2 x z x Ξ rfl
 have hm:(ns.filter fun n=>((((ns++[x]).zip us).lookup n)).isNone)=[]:=by
  rw[za3];intro n W he;rw[qm4]at he;have h7:n∈(ns.zip vs).map (·.1):=by rw[qt5 (by simp at U;lia)];exact W
  have e1:((ns++[x]).zip us).lookup n=(ns.zip vs).lookup n:=by
   rcases hu with rfl|rfl
   .obtain⟨a,b,rfl⟩:∃a b,us=a++[b]:=⟨us.dropLast,us.getLast (by intro z;subst z;simp at U),(qo1 _).symm⟩;have hl:a.length=ns.length:=by simpa using U
    have hnx:(n==x)=ξ:=by simpa using fun e=>hx (by rw[<- e];exact W)
    rw[qo5 Θ,qw2]
    have e2:ns.zip (a++[b])=ns.zip a:=by have:=qo5 (l₁:=ns) (r₁:=([]:η Str)) (l₂:=a) (r₂:=[b]) Θ;simpa using this
    rw[e2];simp[qg8,hnx]
   .have hl:us.length=ns.length:=by simpa using U
    have e2:ns.zip (us++[v])=ns.zip us:=by have:=qo5 (l₁:=ns) (r₁:=([]:η Str)) (l₂:=us) (r₂:=[v]) Θ;simpa using this
    have Z:(ns++[x]).zip us=ns.zip us:=by have:=qo5 (l₁:=ns) (r₁:=[x]) (l₂:=us) (r₂:=([]:η Value)) Θ;simpa using this
    rw[e2,Z]
  rw[e1]at he;obtain⟨⟨a,b⟩,h8,h9⟩:=qc8.mp h7;cases h9;exact absurd (List.lookup_eq_none_iff.mp he ⟨a,b⟩ h8) Ξ
 obtain⟨nm,qn,⟨po,as,va,ko,kd,ka,df⟩,bd,sc,gl,cl,dfs,kdf,doc,pm,an,cd,ct,bi⟩:=fd;simp only at h1 h2 h3 h4 hT W hm hz ⊢;subst h1 h2 h3 h4 hT;refine zg3.of_defaults (T:=T) rfl (X T o ho) hs (by unfold ze1;simp only[qe0,qh7,qh6,qy3,qx5];rfl) ?_;have hgt:¬ (us.length > (ns++[x]).length):=by rcases hu with rfl|rfl<;>simp at U ⊢<;>lia
 have Z:(ns++[x]).take ((ns++[x]).length-[v].length)=ns:=by simp
 have e4:(ns++[x]).drop ((ns++[x]).length-[v].length)=[x]:=by simp
 have e5:[v].drop ([v].length-(ns++[x]).length)=[v]:=by simp
 simp only[ql0,hi,W,decide_eq_false hgt,zd0,qg1,if_false,qy3,e5,Z,e4,hm,List.isEmpty_nil,ze7,qo0,List.zip_nil_right,List.forIn_cons,qx5];rcases hu with rfl|rfl
 .obtain⟨a,b,rfl⟩:∃a b,us=a++[b]:=⟨us.dropLast,us.getLast (by intro z;subst z;simp at U),(qo1 _).symm⟩;rw[lN hx (by simpa using U)];simp only[Option.isNone_some,qg1,if_false,qy3,hz]
 .have hl:us.length=ns.length:=by simpa using U
  have e6:(ns++[x]).zip us=ns.zip us:=by have:=qo5 (l₁:=ns) (r₁:=[x]) (l₂:=us) (r₂:=([]:η Value)) Θ;simpa using this
  have e7:ns.zip us++[(x,v)]=(ns++[x]).zip (us++[v]):=by rw[qo5 Θ];rfl
  rw[e6,lM hx];simp only[Option.isNone_none,if_true,qy3,e7,hz]
inductive Kd where
 |fn|fd (d:Int)|me (c:Nat)|mk (c:Nat)
structure Df where
 kd:Kd
 nm:Str
 m:Nat
 n:Nat
 b:S
def BQ(N ps:η Str)(sc:J8):Bool:=decide (sc.kind=.function)&&!sc.isCoroutine&&!sc.isGenerator&&decide N.Nodup&&decide (N.take ps.length=ps)&&ps.all (fun x=>decide (sc.names.lookup x=ς .local)||decide (sc.names.lookup x=ς .cell))&&sc.names.all fun y=>decide (y.2≠.free)
theorem xc{ps:η Str}{sc:J8}(h:BQ N ps sc=θ):FnScope N ps sc:=by unfold BQ at h;simp only[qa1,decide_eq_true_eq,qi5,qc0,qg5]at h;obtain⟨⟨⟨⟨⟨⟨h1,h2⟩,O⟩,h4⟩,U⟩,W⟩,Z⟩:=h;exact⟨h1,h2,O,h4,U,W,Z⟩
def isNoneV:Value->Bool
 |.none=>θ
 |_=>ξ
def nz(K:xA9)(L:Lw)(tb:Tb)(nm q:Str)(d:Df)(fd:qn1):Bool:=match fd.body with
 |.stmts b=>(fd.name==nm)&&(fd.qualname==q)&&(fd.globals==qe8)&&fd.closure.isEmpty&&(fd.builtins==ze9)&&(isNoneV fd.defaults||((ny K fd).isSome&&decide (0<d.n)))&&PySem.W.codeIn K fd.code q&&eT fd.params&&decide (fd.params.args.map (·.arg)=(bB fd.scope).take d.n)&&(decide (d.n<=d.m)&&decide ((bB fd.scope).length=d.m))&&BQ (bB fd.scope) ((bB fd.scope).take d.n) fd.scope&&fBBq L tb ⟨fd.scope,bB fd.scope⟩ d.b b
 |_=>ξ
def dq(K:xA9)(f:J4):ζ qn1:=match K.lookup f with
 |some o=>(match o.data with
  |.func fd=>ς fd
  |_=>ψ)
 |none=>ψ
structure Ev0(L:Lw)(gc:List (Str×Dt))(G:Gx)(mg:Str->Option Value):Prop where
 ct:G.ct=L.ct
 k2:fX G.K=θ
 bl:∀x∈L.bl,mg x=ψ
 gc:∀p∈gc,yX G.K mg p.1 p.2
 cls:∀c,jo G c
 ks:∀s∈L.ks,kg G.K s
section
variable{L:Lw}{tb:Tb}{G:Gx}{P:qe7}{w:J5}{mg:Str->ζ Value}{base:Heap}{d:Df}{fd:qn1}{f:J4}{nm q:Str}
theorem gH (E:Ev0 L tb.gc G mg) (ht:∀ e∈tb.f,EnP G P w G.K mg base (lev tb.f.length) e) (hf:dq G.K f=ς fd) (h:nz G.K L tb nm q d fd=θ) :
  FnOk P w G.K mg base CX0 (lev tb.f.length+2) f fd ((bB fd.scope).take d.n) (spZ G d.n (cG d.m (evS tb d.b)))/\Binds G.K fd ((bB fd.scope).take d.n) []/\(∀v,ny G.K fd=ς v->Binds G.K fd ((bB fd.scope).take d.n) [v])/\(isNoneV fd.defaults=θ->∀us:η Value,us.length=((bB fd.scope).take d.n).length->ze1 fd ⟨us,[]⟩=pure (((bB fd.scope).take d.n).zip us)):=by
 unfold nz at h;split at h<;>first|(cases h;done)|skip
 rename_i b hb;simp only[qa1,beq_iff_eq,decide_eq_true_eq,qz6]at h;obtain⟨⟨⟨⟨⟨⟨⟨⟨⟨⟨⟨h1,h2⟩,h3⟩,h4⟩,h5⟩,U⟩,h7⟩,h8⟩,h9⟩,h10⟩,h11⟩,h12⟩:=h;have W:((bB fd.scope).take d.n).length=d.n:=by rw[qk9];lia
 have hm:=h10.2
 have hdf:∀v,ny G.K fd=ς v->0<d.n->Binds G.K fd ((bB fd.scope).take d.n) []/\Binds G.K fd ((bB fd.scope).take d.n) [v]:=fun v hv hpos=>by
  obtain⟨ns,x,Z⟩:∃ns x,(bB fd.scope).take d.n=ns++[x]:=⟨((bB fd.scope).take d.n).dropLast,((bB fd.scope).take d.n).getLast (by intro z;rw[z]at W;simp at W;lia),(qo1 _).symm⟩;refine⟨fun s us X hu=>?_,fun s us X hu=>?_⟩
  .rw[qh6]at hu ⊢;rw[Z]at hu ⊢;exact lP h8 hv X (h9.trans Z) hu (.inl rfl)
  .rw[Z]at hu ⊢;exact lP h8 hv X (h9.trans Z) hu (.inr rfl)
 have hpl:isNoneV fd.defaults=θ->∀us:η Value,us.length=((bB fd.scope).take d.n).length->ze1 fd ⟨us,[]⟩=pure (((bB fd.scope).take d.n).zip us):=fun U us hu=>by
  have hd:fd.defaults=.none:=by cases q:fd.defaults<;>rw[q]at U<;>first|rfl|cases U
  rw[<- h9];exact nv h8 hd (by rw[<- h9]at hu;simpa using hu)
 refine⟨?_,?_,fun v hv=>?_,hpl⟩
 rotate_left
 .rw[qg5]at U;rcases U with U|U
  .exact .all (hpl U)
  .simp only[qa1,decide_eq_true_eq]at U;obtain⟨v,hv⟩:=qd5.mp U.1;exact(hdf v hv U.2).1
 .refine(hdf v hv ?_).2;rw[qg5]at U;rcases U with U|U
  .have hd:fd.defaults=.none:=by cases q:fd.defaults<;>rw[q]at U<;>first|rfl|cases U
   simp[ny,hd]at hv
  .simp only[qa1,decide_eq_true_eq]at U;exact U.2
 clear hdf hpl U h8;unfold dq at hf;split at hf<;>first|(cases hf;done)|skip
 rename_i o ho;split at hf<;>cases hf
 rename_i hdat
 obtain⟨nm',qn,ps,bd,sc,gl,cl,dfs,kdf,doc,pm,an,cd,ct,bi⟩:=fd;obtain⟨oc,od,dta,osl⟩:=o;simp only at h1 h2 h3 h4 h5 h7 h9 h11 h12 hb hdat
 subst h1 h2 h3 h4 h5 hb hdat
 have S:=xc h11;refine DM (k:=lev tb.f.length+1) ho h7 S (fun vs H Q _ ⟨F,ρ,cs,ch,c,ch',g,hn,_,r,_⟩=>by rw[<- Paired.length r,W];exact hn) fun A outer s H vs Q E' hr hsp=>?_
 obtain⟨F,ρ,cs,ch,c,ch',g,hn,ho2,r,O,k⟩:=hsp;have n:Cn L tb G ⟨sc,bB sc⟩ (pV CX0 P w G.K mg base (bB sc) qn sc f cd A outer s H E').nox:=⟨rfl,E.ct,E.k2,rfl,rfl,S.nd,rfl,hr,E.bl,E.gc,E.cls,E.ks,ht,rfl⟩;refine⟨_,(gB (fun _=>rfl) S.kind n d.b b h12).nox,?_⟩;unfold cG at O;simp only at hm;rw[<- hm]at O;split at O<;>first|(cases O;done)|skip
 .rename_i c1 ch1 hg;cases O;exact⟨_,_,ch,F,ρ,_,lL g r ho2,hg,fun v F' H' ρ' a rr=>k v F' H' ρ' a rr⟩
 .rename_i δ1 ch1 hg;cases O;refine⟨_,_,ch,F,ρ,_,lL g r ho2,hg,fun σ' F' H' ρ' en=>k .non F' H' ρ' en.ad ?_⟩;show Rep G.K F' .non .non;exact oe
end
def Df.en(d:Df)(F:Fd):En:=match d.kd with
 |.fn=>.fn d.nm d.n F
 |.fd v=>.fd d.nm d.n v F
 |.me c=>.me c d.nm d.n F
 |.mk c=>.mk c d.n F
def bm(gc:η (Str×Dt)):η Df->Tb
 |[]=>⟨[],gc⟩
 |d::r=>⟨d.en (cG d.m (evS (bm gc r) d.b))::(bm gc r).f,gc⟩
def FF(gc:η (Str×Dt)):η Df->Fd
 |[]=>fun _ _=>ψ
 |d::r=>cG d.m (evS (bm gc r) d.b)
def kE(K:xA9)(ct:η (Str×η Str))(c:Nat):ζ (Str×J4):=match ct[c]? with
 |some p=>(match xE9 K qe8 p.1 with
  |some (ς (.ref C))=>ς (p.1,C)
  |_=>ψ)
 |none=>ψ
def xf(K:xA9)(L:Lw)(tb:Tb)(d:Df):Bool:=match d.kd with
 |.fn=>(match xE9 K qe8 d.nm with
  |some (ς (.ref f))=>xD9 K (.ref f)&&(match dq K f with|some fd=>nz K L tb d.nm d.nm d fd|none=>ξ)
  |_=>ξ)
 |.fd v=>(match xE9 K qe8 d.nm with
  |some (ς (.ref f))=>xD9 K (.ref f)&&(match dq K f with|some fd=>(match ny K fd with|some (.int i _)=>i==v|_=>ξ)&&nz K L tb d.nm d.nm d fd|none=>ξ)
  |_=>ξ)
 |.me c=>(match kE K L.ct c with
  |some (cn,C)=>(match xB9 K (.ref C) d.nm with
   |some (ς (.ref f))=>xH9 K (.ref f)&&xD9 K (.ref f)&&(match dq K f with|some fd=>nz K L tb d.nm (cn++(".":Str)++d.nm) d fd|none=>ξ)
   |_=>ξ)
  |none=>ξ)
 |.mk c=>(match kE K L.ct c with
  |some (cn,C)=>xS9 K C&&xD9 K (.ref C)&&(match xB9 K (.ref C) "__init__" with
   |some (ς (.ref f))=>xH9 K (.ref f)&&(match dq K f with|some fd=>nz K L tb "__init__" (cn++(".__init__":Str)) d fd|none=>ξ)
   |_=>ξ)
  |none=>ξ)
def noDf(K:xA9)(nm x:Str):Bool:=match xE9 K qe8 nm with
 |some (ς (.ref f))=>(match dq K f with|some fd=>isNoneV fd.defaults&&decide (fd.params.args.map (·.arg)=[x])&&decide ((bB fd.scope).take 1=[x])|none=>ξ)
 |_=>ξ
def tY(K:xA9)(L:Lw)(gc:η (Str×Dt)):η Df->Bool
 |[]=>θ
 |d::r=>xf K L (bm gc r) d&&tY K L gc r
variable{j:Nat}
section
variable{L:Lw}{gc:η (Str×Dt)}{G:Gx}{P:qe7}{w:J5}{mg:Str->ζ Value}{base h:Heap}
theorem EnP.mono{k:Nat}{e:En}(O:j<=k)(x:EnP G P w G.K mg base j e):EnP G P w G.K mg base k e:=by
 cases e with
 |fn y n F=>obtain⟨ps,f,fd,h1,h2,U,h4⟩:=x;exact⟨ps,⟨f,fd,h1,h2,U,h4.mono O⟩⟩
 |fd y n d F=>obtain⟨ps,f,fd,t,h1,h2,U,h4⟩:=x;exact⟨ps,f,fd,t,h1,h2,U,h4.mono O⟩
 |me c m n F=>intro p hp;obtain⟨ps,C,f,fd,h1,h2,U,h4,W⟩:=x p hp;exact⟨ps,⟨C,f,fd,h1,h2,U,h4,W.mono O⟩⟩
 |mk c n F=>intro p hp;obtain⟨ps,C,f,fd,h1,h2,U,h4,W⟩:=x p hp;exact⟨ps,⟨C,f,fd,h1,h2,U,h4,W.mono O⟩⟩
theorem jD{ct:η (Str×η Str)}{c:Nat}{x:Str×J4}(h:kE K ct c=ς x):∃p,ct[c]?=ς p/\p.1=x.1/\ClsAt K p.1 x.2:=by
 unfold kE at h;split at h<;>first|(cases h;done)|skip
 rename_i p hp;split at h<;>cases h
 rename_i C O;exact⟨p,hp,rfl,O⟩
theorem iw:∀ds:η Df,(bm gc ds).gc=gc
 |[]=>rfl
 |_::_=>rfl
theorem jE:∀ds:η Df,(bm gc ds).f.length=ds.length
 |[]=>rfl
 |_::r=>by simp[bm,jE r]
theorem xg{tb:Tb}{d:Df}(X:G.K.In h)(N:h.Ns qe8 mg)(E:Ev0 L tb.gc G mg)(ht:∀e∈tb.f,EnP G P w G.K mg base (lev tb.f.length) e)(hc:xf G.K L tb d=θ):EnP G P w G.K mg base (lev tb.f.length+2) (d.en (cG d.m (evS tb d.b))):=by
 unfold xf at hc;unfold Df.en
 have fin:∀{f:J4}{nm q:Str},(match dq G.K f with|some fd=>nz G.K L tb nm q d fd|none=>ξ)=θ->∃fd,FnOk P w G.K mg base CX0 (lev tb.f.length+2) f fd ((bB fd.scope).take d.n) (spZ G d.n (cG d.m (evS tb d.b)))/\Binds G.K fd ((bB fd.scope).take d.n) []:=fun {f nm q} h=>by
  split at h<;>first|(cases h;done)|skip
  rename_i fd hfd;obtain⟨h1,h2,_⟩:=gH E ht hfd h;exact⟨fd,h1,h2⟩
 cases q:d.kd with
 |fn=>
  rw[q]at hc;dsimp only at hc ⊢;split at hc<;>first|(cases hc;done)|skip
  rename_i f hf;rw[qa1]at hc;obtain⟨fd,h1,h2⟩:=fin hc.2;exact⟨_,⟨f,fd,xK9 X N hf,hc.1,h2,h1⟩⟩
 |fd v=>
  rw[q]at hc;dsimp only at hc ⊢;split at hc<;>first|(cases hc;done)|skip
  rename_i f hf;rw[qa1]at hc;obtain⟨hc1,hc⟩:=hc;split at hc<;>first|(cases hc;done)|skip
  rename_i fd hfd;rw[qa1]at hc;obtain⟨U,hc⟩:=hc;obtain⟨h1,_,h3,_⟩:=gH (P:=P) (w:=w) (base:=base) E ht hfd hc;split at U<;>first|(cases U;done)|skip
  rename_i i t hv;rw[beq_iff_eq]at U;subst U;exact⟨_,f,fd,t,xK9 X N hf,hc1,h3 _ hv,h1⟩
 |me c=>
  rw[q]at hc;dsimp only at hc ⊢;split at hc<;>first|(cases hc;done)|skip
  rename_i cn C Z;split at hc<;>first|(cases hc;done)|skip
  rename_i f hf;simp only[qa1]at hc;obtain⟨fd,h1,h2⟩:=fin hc.2;obtain⟨p,hp,_,hat⟩:=jD Z;intro p' O;rw[E.ct,hp]at O;cases O;obtain⟨C',hC',hcs,_⟩:=E.cls c p (by rw[E.ct];exact hp);have:=hat.inj hC';subst this;exact⟨_,⟨C,f,fd,hat,hcs,⟨hf,hc.1.1,hc.1.2⟩,h2,h1⟩⟩
 |mk c=>
  rw[q]at hc;dsimp only at hc ⊢;split at hc<;>first|(cases hc;done)|skip
  rename_i cn C Z;simp only[qa1]at hc;obtain⟨⟨h3,h4⟩,hc⟩:=hc;split at hc<;>first|(cases hc;done)|skip
  rename_i f hf;rw[qa1]at hc;obtain⟨fd,h1,h2⟩:=fin hc.2;obtain⟨p,hp,_,hat⟩:=jD Z;intro p' O;rw[E.ct,hp]at O;cases O;exact⟨_,⟨C,f,fd,hat,xK9 X N hat,⟨h3,hf,hc.1,h4⟩,h2,h1⟩⟩
theorem kF(X:G.K.In h)(N:h.Ns qe8 mg)(E:Ev0 L gc G mg):∀{ds:η Df},tY G.K L gc ds=θ->∀e∈(bm gc ds).f,EnP G P w G.K mg base (lev (bm gc ds).f.length) e
 |[],_,e,O=>by cases O
 |d::r,hc,e,O=>by
  simp only[tY,qa1]at hc;have U:=kF X N E (ds:=r) hc.2;have hl:lev (bm gc (d::r)).f.length=lev (bm gc r).f.length+2:=by simp[bm,lev];lia
  rw[hl];rcases qc4.mp O with rfl|O
  .exact xg X N (by rw[iw];exact E) U hc.1
  .exact(U e O).mono (Nat.le_add_right _ _)
def zg:Value->Dt->Bool
 |.int i _,.int j=>i==j
 |.str x _,.str y=>x==y
 |_,_=>ξ
def gcOk(K:xA9)(p:Str×Dt):Bool:=match xE9 K qe8 p.1 with
 |some (ς u)=>zg u p.2
 |_=>ξ
def clOk(K:xA9)(p:Str×η Str):Bool:=match xE9 K qe8 p.1 with
 |some (ς (.ref C))=>xJ9 K C Str.empty&&xM9 K C&&xQ9 K C&&(xB9 K (.ref C) "__setattr__"==ς (ς (.builtin "object.__setattr__")))&&decide p.2.Nodup&&p.2.all fun f=>xB9 K (.ref C) f==ς ψ
 |_=>ξ
def tyNames:η String:=["NoneType","bool","int","str","tuple","list","dict"]
def iX(c t:String):Bool:=(t==c)||(t=="bool"&&c=="int")
def ksOk(K:xA9)(c:String):Bool:=tyNames.all fun t=>xI9 K (.type t) (.type c)==ς (iX c t)
def ev0(K:xA9)(L:Lw)(gc:η (Str×Dt)):Bool:=fX K&&L.bl.all (fun x=>xE9 K qe8 x==ς ψ)&&gc.all (gcOk K)&&L.ct.all (clOk K)&&L.ks.all (ksOk K)
theorem xh{c:String}(h:ksOk K c=θ):kg K c:=fun d _=>by
 have O:∀t∈tyNames,xI9 K (.type t) (.type c)=ς (iX c t):=fun t U=>beq_iff_eq.mp (qc0.mp h t U)
 cases d
 case bl b=>
  refine(O "bool" (by simp[tyNames])).trans ?_;simp only[iX,dP,qz0 (a:="bool")];rfl
 case non=>refine(O "NoneType" (by simp[tyNames])).trans ?_;simp[iX,dP,qz0 (a:="NoneType")]
 case int i=>refine(O "int" (by simp[tyNames])).trans ?_;simp[iX,dP,qz0 (a:="int")]
 case str i=>refine(O "str" (by simp[tyNames])).trans ?_;simp[iX,dP,qz0 (a:="str")]
 case t i=>refine(O "tuple" (by simp[tyNames])).trans ?_;simp[iX,dP,qz0 (a:="tuple")]
 case e i=>refine(O "list" (by simp[tyNames])).trans ?_;simp[iX,dP,qz0 (a:="list")]
 case dct a b=>refine(O "dict" (by simp[tyNames])).trans ?_;simp[iX,dP,qz0 (a:="dict")]
 case dcT a b=>refine(O "dict" (by simp[tyNames])).trans ?_;simp[iX,dP,qz0 (a:="dict")]
theorem BR(X:K.In h)(N:h.Ns qe8 mg)(hc:ev0 K L gc=θ):Ev0 L gc ⟨K,L.ct⟩ mg:=by
 unfold ev0 at hc;simp only[qa1,qc0]at hc;obtain⟨⟨⟨⟨h1,h2⟩,Z⟩,h4⟩,h5⟩:=hc;refine⟨rfl,h1,fun x U=>PySem.W.mg_none_of X N (beq_iff_eq.mp (h2 x U)),fun p hp=>?_,fun c p hp=>?_,fun s hs=>xh (h5 s hs)⟩
 .have h:=Z p hp;unfold gcOk at h;split at h<;>first|(cases h;done)|skip
  rename_i u hu;have O:=xK9 X N hu;unfold zg at h;split at h<;>first|(cases h;done)|skip
  .rename_i i t j e;rw[e];rw[beq_iff_eq]at h;subst h;exact⟨.int i,⟨_,O,_,rfl⟩,fun _=>br⟩
  .rename_i i t j e;rw[e];rw[beq_iff_eq]at h;subst h;exact⟨.str i,⟨_,O,_,rfl⟩,fun _=>eM⟩
 .have h:=h4 p (qa5 hp);unfold clOk at h;split at h<;>first|(cases h;done)|skip
  rename_i C hC;simp only[qa1,qc0,decide_eq_true_eq]at h;obtain⟨⟨⟨⟨⟨q1,q2⟩,q3⟩,q4⟩,q5⟩,q6⟩:=h;exact⟨C,hC,⟨q1,q2,q3,beq_iff_eq.mp q4⟩,q5,fun f hf=>beq_iff_eq.mp (q6 f hf)⟩
end
def spL(K:xA9):Sp:=fun vs H Q _=>∃(a:J4)(ns:η Int),vs=[.ref a]/\SqL K H a (ns.map V.int)/\ns.length<=63/\∀H',Q (.bl θ) H'
theorem zwalk {l:PySem.W.OpenLaw} {q:qe7} {loose:η Str} {XP:(Str->ζ Value)->Heap->Prop} {YP:J5->Heap->Prop} {d:DefRec} {K:Params->xA9} (L:Lw) (gc:η (Str×Dt)) {d0:Df} {r:η Df} {x:Str} (main:∀ ns:η Int,ns.length<=63->∃ ch',FF gc (d0::r) [.g (.e (ns.map .int))] []=ς (.g (.bl θ),ch'))
  (hd:d0.kd=.fn/\d0.nm=d.name/\d0.n=1) (hr:Room (lev r.length+2) zd5) (hn:l.most=ς 63) (hdf:d.params.defaults=[])
  (hY:∀(w:J5)(h:Heap),YP w h->(K w.params).In h) (hT0:∀w:J5,k8 (K w.params)=[])
  (hc:∀w:J5,(ev0 (K w.params) L gc&&tY (K w.params) L gc (d0::r)&&noDf (K w.params) d0.nm x)=θ):PySem.W.WalkO q loose XP YP l.row.toRowW d [] (fun f vs=>PySem.call f vs):=by
 refine L2.FD (n:=63) (k:=lev r.length+2) (x:=x) (CX:=fun _=>CX0) (sp:=fun w=>spL (K w.params)) hn Ω hdf hr hY hT0 (fun w mg fa h KX N hfa=>?_) (fun _ _ a ns hl hO hS=>⟨a,ns,rfl,hS,hl,fun _=>rfl⟩) fun _ _ _ _ _ z=>z
 have hw:=hc w;simp only[qa1]at hw;obtain⟨hw,O⟩:=hw;have E:=BR KX N hw.1;obtain⟨hkd,hnm,hn1⟩:=hd;have U:=hw.2;simp only[tY,qa1]at U;have h1:=U.1;unfold xf at h1;rw[hkd]at h1;dsimp only at h1;split at h1<;>first|(cases h1;done)|skip
 rename_i f hf;rw[qa1]at h1
 have hff:f=fa:=by have e:=xK9 KX N hf;rw[hnm,hfa]at e;cases e;rfl
 subst hff;have h2:=h1.2;split at h2<;>first|(cases h2;done)|skip
 rename_i fd Z;unfold noDf at O;rw[hf]at O;dsimp only at O;rw[Z]at O;simp only[qa1,decide_eq_true_eq]at O;have hps:(bB fd.scope).take d0.n=[x]:=by rw[hn1];exact O.2
 have hb:=(gH (P:=l.prog) (w:=w) (base:=h) (f:=f) (G:=⟨K w.params,L.ct⟩) (tb:=bm gc r) (by rw[iw];exact E) (kF KX N E U.2) Z h2).2.2.2 O.1.1;refine⟨fd,fun s u=>.of_eq ?_,fun base hb1 hb2=>?_⟩
 .have:=hb [u] (by rw[hps];rfl);rw[hps]at this;exact this
 .have hok:=(gH (P:=l.prog) (w:=w) (base:=base) (f:=f) (G:=⟨K w.params,L.ct⟩) (tb:=bm gc r) (by rw[iw];exact E) (kF KX N E U.2) Z h2).1;rw[hps,jE]at hok;refine hok.imp fun vs H Q E' hsp=>?_
  obtain⟨a,ns,rfl,hS,hl,q⟩:=hsp;obtain⟨ch',hm⟩:=main ns hl;refine⟨H,fun _=>a,[.g (.e (ns.map .int))],[],.g (.bl θ),ch',⟨Same.refl H,fun i j hi=>absurd hi (Nat.not_lt_zero _),fun i o hi=>by simp at hi,fun i o hi=>by simp at hi⟩,by rw[hn1];rfl,fun t=>Ξ,.cons ?_ .nil,hm,fun v F' H' ρ' _ o=>?_⟩
  .show Rep (K w.params) H (.e (ns.map .int)) (.ref a);simp only[Rep];exact⟨a,_,rfl,hS,Reps.map (fun _=>br) ns⟩
  .have o:Rep (K w.params) F' (.bl θ) v:=o;simp only[Rep]at o;subst o;exact q H'
def isKBq:Dt->ζ (η Key)
 |.t [.int n,.str s]=>ς [.inl n,.inr s]
 |_=>ψ
section
variable{X:Cx}
def gSlW:Dt->ζ Int->ζ Int->ζ T
 |.t l,lo,hi=>if HT.sIx l.length 0 lo=0/\HT.sIx l.length l.length hi=l.length then ς (.f (.t l))else ς (.f (.t (fQ l lo hi)))
 |x,lo,hi=>gSl x lo hi
def ua(K:xA9):R2:=fun x y H Q=>∃a b z xs,x=.ref a/\y=.ref b/\SqT K H a (z::xs)/\SqT K H b []/\Q (.ref a) H
theorem xi:OpR X (qh4 .Add) (ua X.K):=by
 intro J0 s σ H x y v u Q I rx ry h;obtain⟨a,b,z,xs,rfl,rfl,ha,hb,q⟩:=h;cases rx;cases ry;obtain⟨J3,r1,p1,_⟩:=I.tuple ha;obtain⟨its2,r2,p2,_⟩:=I.tuple hb;cases r2;obtain⟨⟨cls,dd,data,sl⟩,ho,hc,n,hd⟩:=id p1;obtain⟨⟨cls2,Z,data2,sl2⟩,O,U,n2,W⟩:=id p2;simp only at hc hd U W;subst hc hd U W
 exact qv8 ⟨_,ho,rfl⟩ ⟨_,O,rfl⟩ qt1 qy8 PySem.F.slot_tuple_add PySem.F.entry_tuple_add (PySem.F.args_tuple_add_2 _ _)
  (tuple_addW1 a b J3.toArray #[] n n2 dd Z sl sl2 (by cases r1;simp) rfl) ⟨ho,O,⟨.ref a,H,I,rfl,q⟩⟩
def iy:Dt->Dt->ζ T
 |.t (d::l),.t []=>ς (.f (.t (d::l)))
 |x,y=>sY x y
theorem xj:OpR X (qh4 .Add) (fun x y H Q=>(lz X.K x y H Q∨jm X.K x y H Q)∨ua X.K x y H Q):=OpR.or wH xi
theorem BS:R2D K (fun x y H Q=>(lz K x y H Q∨jm K x y H Q)∨ua K x y H Q) iy:=by
 intro F H x y vx vy Q t W rx Z U k;unfold iy at U;split at U
 .rename_i d l;cases U;obtain⟨a,vs,rfl,h1,h2⟩:=rx;obtain⟨b,ws,rfl,h3,h4⟩:=Z;simp only[Reps]at h4;subst h4;have O:=h2;simp only[Reps]at O;obtain⟨v,us,rfl,_,_⟩:=O;refine .inr ⟨a,b,v,us,rfl,rfl,W.tup h1,W.tup h3,k.leaf.here W ?_⟩;simp only[Rep];exact⟨a,_,rfl,h1,h2⟩
 .exact .inl (BC F H _ _ vx vy Q t W rx Z U k)
end
def topI(m:Int):η Int->Int
 |[]=>m
 |x::r=>topI (if m<x then x else m) r
theorem nA{J3:η Value}{ns:η Int}(h:zf0 J3 ns):∃xs:Array (Int×Tok),J3.toArray=intItems xs/\xs.toList.map (·.1)=ns:=by
 induction h with
 |nil=>exact⟨#[],by simp[intItems],rfl⟩
 |cons k t _ U=>obtain⟨xs,W,e2⟩:=U;refine⟨((k,t)::xs.toList).toArray,?_,by simp[e2]⟩;have O:=congrArg zf2 W;simp only[intItems]at O ⊢;apply Array.toList_inj.mp;simp at O ⊢;exact O
section
variable{X:Cx}
theorem qF(O:X.calm=θ):CallR X (.builtin "sum") (fun xs H Q=>∃(p:J4)(ns:η Int),xs=[.ref p]/\SqL X.K H p (ns.map V.int)/\Q (.int ns.sum) H):=by
 intro J0 s σ H xs us Q I r h;obtain⟨p,ns,rfl,hq,q⟩:=h;obtain⟨u,rfl,U⟩:=cY r;cases U;obtain⟨J3,W,pl,hz'⟩:=I.list hq;obtain⟨xs,Z,e2⟩:=nA (mK W);have hl:=pl.isList;rw[Z]at hl;refine sum_intListG (I.ok.hd O) hl fun h' tk t' hk=>?_
 refine⟨.int ns.sum,H,I.kept hk,⟨t',?_⟩,q⟩;rw[preSum_eq,za4 Ξ,e2]
end
def gMaxL:η Dt->ζ T
 |[.e ds]=>match nn ds with
  |some (m::ns)=>ς (.f (.int (topI m ns)))
  |_=>ψ
 |_=>ψ
def oN:η Dt->ζ T
 |[.e ds]=>(nn ds).map fun ns=>.f (.int ns.sum)
 |_=>ψ
theorem BT:CRD K (fun xs H Q=>∃(p:J4)(ns:η Int),xs=[.ref p]/\SqL K H p (ns.map V.int)/\Q (.int ns.sum) H) oN:=by
 intro F H ds vs Q t W r O k;unfold oN at O;split at O<;>first|(cases O;done)|skip
 obtain⟨ns,Z,O⟩:=qd3.mp O;cases O;obtain⟨v,rfl,U⟩:=bC r;obtain⟨a,vs,rfl,h1,h2⟩:=U;have:=oI h2 Z;subst this;exact⟨a,ns,rfl,h1,k.int W⟩
def ub:Dt->Dt->ζ T
 |.str x,.int n=>if 0<=n/\n<=1000/\x.length<=1000 then ς (.f (.str (BA x n)))else ψ
 |_,_=>ψ
def zh:R2:=fun x y H Q=>∃z n,x=.str z/\y=.int n/\(0<=n/\n<=1000/\z.length<=1000)/\Q (.str (BA z n)) H
variable{z:Str}
theorem BU{n:Int}(h:0<=n/\n<=1000/\z.length<=1000):MulOk z n:=by
 obtain⟨W,h1,h2⟩:=h;refine⟨?_,fun h _=>?_,fun h _=>?_⟩
 .have O:decide (n < -(2^63:Int))=ξ:=decide_eq_false Θ;have e2:decide (n ≥ 2^63)=ξ:=decide_eq_false Θ;rw[O,e2];rfl
 .have e:(1000:Int)<=(2^63-1)/n:=(Int.le_ediv_iff_mul_le Θ).mpr Θ;lia
 .have e:z.length*n.toNat<=1000*1000:=Nat.mul_le_mul h2 Θ;have U:qa9=16777216:=qa7;exact decide_eq_false Θ
variable{X:Cx}
theorem xk:OpR X (qh4 .Mult) zh:=by intro J0 s σ H x y v u Q I U O h;obtain⟨z,n,rfl,rfl,hb,q⟩:=h;obtain⟨t,rfl⟩:=U;obtain⟨t',rfl⟩:=O;exact SB.mul (BU hb) fun t2 k=>⟨.str (BA z n),H,I.tok _,⟨_,rfl⟩,q⟩
theorem BV:R2D K zh ub:=by
 intro F H x y vx vy Q t U Z W O k;unfold ub at O;split at O<;>first|(cases O;done)|skip
 split at O<;>cases O
 rename_i h;cases Z;cases W;exact⟨_,_,rfl,rfl,h,k.str U⟩
def lQ:Dt->Dt->ζ T
 |.e l,.int n=>if 0<=n/\n<=1000/\l.length<=1000 then ς (.e (qb1 n.toNat l).flatten)else ψ
 |_,_=>ψ
theorem Ef (a:Int) (t:Tok) (l:J4) (J3:Array Value) (n:Nat) (sl:Array (ζ Value)) :
  Meets (qj1.«int.__rmul__» ⟨[.int a t,.ref l],[]⟩) (fun _ R s=>s.heap.get? l=ς {cls:=.type "list",dict:=ψ,data:=.seq J3 n,slots:=sl}/\R (.ok (.ret Value.notImplemented)) s):=
 .of_wp fun prog w A R s h=>by obtain⟨hp,g,d,O,U⟩:=s;obtain⟨hl,h⟩:=h;wp_walk;exact⟨_,rfl,h⟩
theorem mulL (l:J4) (J3:Array Value) (n:Nat) (sl:Array (ζ Value)) (x:Int) (u:Tok) (h0:¬(!Builtin.List.listFitsIndex x)=θ) (h1:¬J3.size*x.toNat > (2^63-1)/8) (h2:¬qq8 (J3.size*x.toNat)=θ) (hsz:(zc8 (fun O U=>O++U) #[] (qb1 (if J3.isEmpty=θ then 0 else x.toNat) J3)).size<=qa9) :
  Meets (qj1.«list.__mul__» ⟨[.ref l,.int x u],[]⟩) (fun _ R s=>s.heap.get? l=ς {cls:=.type "list",dict:=ψ,data:=.seq J3 n,slots:=sl}/\R (.ok (.ret (qc1 s.heap.objs.size))) {s with heap:=s.heap.push {cls:=qo7 "list",data:=Data.seq (zc8 (fun O U=>O++U) #[] (qb1 (if J3.isEmpty=θ then 0 else x.toNat) J3))},toks:=s.toks}):=
 .of_wp fun prog w A R s h=>by obtain⟨hp,g,d,W,Z⟩:=s;obtain⟨hl,h⟩:=h;wp_walk;refine wpAny_ite_false (decide_eq_false (qn7.mpr hsz)) ?_;wp_walk;exact⟨_,rfl,h⟩
def zi(K:xA9):R2:=fun x y H Q=>∃l k xs,x=.ref l/\y=.int k/\SqL K H l xs/\(0<=k/\k<=1000/\xs.length<=1000)∧∀p,H p=ψ->Q (.ref p) (upd H p (.e (qb1 k.toNat xs).flatten))
theorem xl:OpR X (qh4 .Mult) (zi X.K):=by
 intro J0 s σ H x y v u Q I rx ry h;obtain⟨l,k,xs,rfl,rfl,hH,⟨h0,h1,hx⟩,q⟩:=h;cases rx;obtain⟨t,rfl⟩:=ry;obtain⟨J3,r,pl,_⟩:=I.list hH;obtain⟨⟨cls,dd,data,sl⟩,n,ho,hc,Z,hd⟩:=pl;simp only at hc hd Z;subst hc hd Z;have hl:=r.length;have hk:k.toNat<=1000:=by lia
 have hm:J3.length*k.toNat<=1000*1000:=Nat.mul_le_mul Θ hk;have hs:qa9=16777216:=qa7;have W:J3.toArray.size*k.toNat<=qa9:=by rw[qb6];lia
 have O:zc8 (fun x1 x2=>x1++x2) #[] (qb1 (if J3.toArray.isEmpty=θ then 0 else k.toNat) J3.toArray)=(qb1 k.toNat J3).flatten.toArray:=by
  have f0:∀m:Nat,zc8 (fun x1 x2=>x1++x2) #[] (qb1 m J3.toArray)=(qb1 m J3).flatten.toArray:=fun m=>by have:=jd J3 m [];rw[qh7]at this;exact this
  rw[f0];cases J3 with
  |nil=>simp
  |cons a r'=>rw[if_neg Ξ]
 refine wpAny_binaryOp_repeat_ref (T:="list") (U:="int") Ω ⟨_,ho,rfl⟩ (fun s'=>typeIs_int s' k t) noFill_list_mul F.fills_int_mul F.slot_int_rmul repeat_list F.slot_int_index.lookup
  (qu1 F.slot_int_rmul (typeIs_int s k t) F.entry_int_rmul (F.args_int_rmul_2 _ _) (Ef k t l J3.toArray n sl)
   ⟨ho,rfl,⟨_,ho,rfl⟩,qu1 F.slot_list_mul ⟨_,ho,rfl⟩ F.entry_list_mul (F.args_list_mul_2 _ _) (mulL l J3.toArray n sl k t (by
    rw[fitsIndex_both Θ Θ];exact qb7) (by
    have:(qa9:Nat)<=(2^63-1)/8:=by decide
    lia) (by
    rw[rO W];exact qb7) (by
    rw[O,qb6,n5,Nat.mul_comm];lia)) ⟨ho,?_⟩⟩)
 rw[O];exact⟨.ref _,_,I.lnew (t':=s.toks) (r.rep k.toNat) (by rw[n5,Nat.mul_comm,hl];lia),rfl,q _ I.fresh⟩
variable{l:η Dt}
theorem Reps.rep{F:Hp}(h:Reps K F l vs):∀n:Nat,Reps K F (qb1 n l).flatten (qb1 n vs).flatten
 |0=>by simp[Reps]
 |n+1=>by rw[qf7,qf7,qk4,qk4];exact h.append (Reps.rep h n)
theorem BW:R2D K (zi K) lQ:=by
 intro F H x y vx vy Q t U Z W O k;unfold lQ at O;split at O<;>first|(cases O;done)|skip
 split at O<;>cases O
 rename_i hl;obtain⟨a,vs,rfl,h1,h2⟩:=Z;cases W;exact⟨a,_,vs,rfl,rfl,h1,⟨hl.1,hl.2.1,by rw[h2.length];exact hl.2.2⟩,fun p hp=>cg k U (Reps.rep h2 _) hp⟩
def orO(g g':Dt->Dt->ζ T)(x y:Dt):ζ T:=match g x y with
 |some t=>ς t
 |none=>g' x y
theorem R2D.or{r r':R2}{g g':Dt->Dt->ζ T}(h:R2D K r g)(h':R2D K r' g'):R2D K (fun x y H Q=>r x y H Q∨r' x y H Q) (orO g g'):=fun F H x y vx vy Q t U Z W O k=>by
 unfold orO at O;split at O
 .rename_i u hu;cases O;exact .inl (h F H x y vx vy Q _ U Z W hu k)
 .exact .inr (h' F H x y vx vy Q t U Z W O k)
def xm:Dt->Dt->ζ T
 |.int i,.int j=>if 0<=j then ς (.f (.int (i/2^j.toNat)))else ψ
 |_,_=>ψ
theorem Eg:R2D K (gW (fun _ j=>0<=j) fun i j=>.int (i/2^j.toNat)) xm:=by
 intro F H x y vx vy Q t U Z W O k;unfold xm at O;split at O<;>first|(cases O;done)|skip
 split at O
 .cases O;cases Z;cases W;exact⟨_,_,rfl,rfl,by assumption,k.int U⟩
 .cases O
def eU(O:Bool)(x y:Dt):ζ T:=(az y x).map fun r=>.f (.bl (if O then !r.isSome else r.isSome))
theorem zj{O:Bool}(hK:fX K=θ):R2D K (Bp O) (eU O):=by
 intro F H x y vx vy Q t W rx ry U k;obtain⟨r,hr,rfl⟩:=mS U;obtain⟨a,o,rfl,U,Z⟩:=ie hK W ry rx hr;refine⟨a,o,rfl,U,?_⟩
 have e:o.isSome=r.isSome:=by
  cases r with
  |none=>rw[Z.2 rfl];rfl
  |some d=>obtain⟨v,rfl,_⟩:=Z.1 d rfl;rfl
 rw[e];exact k.bl W
def oAdd:Op2:=⟨.inl .Add,orO cW iy,fun K X k e _ _=>⟨_,by subst e;exact OpR.or oq xj,R2D.or yT BS⟩⟩
def oSub:Op2:=⟨.inl .Sub,oo,fun K X k e _ _=>⟨_,Ao,DT⟩⟩
def oMul:Op2:=⟨.inl .Mult,orO iS (orO lQ ub),fun K X k e _ _=>⟨_,by subst e;exact OpR.or Ap (OpR.or xl xk),R2D.or DU (R2D.or BW BV)⟩⟩
def oDiv:Op2:=⟨.inl .FloorDiv,bu,fun K X k e _ _=>⟨_,tf,BD⟩⟩
def oMod:Op2:=⟨.inl .Mod,aA,fun K X k e _ _=>⟨_,Aq,DV⟩⟩
def xn:Op2:=⟨.inl .Pow,sA,fun K X k e _ _=>⟨_,Ar,DW⟩⟩
def oBan:Op2:=⟨.inl .BitAnd,qc qw6,fun K X k e _ _=>⟨_,Au,mV⟩⟩
def oBor:Op2:=⟨.inl .BitOr,qc qj1.bitOr,fun K X k e _ _=>⟨_,DF,mV⟩⟩
def oXor:Op2:=⟨.inl .BitXor,qc qj1.bitXor,fun K X k e _ _=>⟨_,Av,mV⟩⟩
def oShr:Op2:=⟨.inl .RShift,xm,fun K X k e _ _=>⟨_,As,Eg⟩⟩
def oEq:Op2:=⟨.inr .Eq,gEq ξ,fun K X k e r _=>⟨_,by subst e;exact AX r,r_eq⟩⟩
def oNe:Op2:=⟨.inr .NotEq,gEq θ,fun K X k e r _=>⟨_,by subst e;exact AY r,r_ne⟩⟩
def oLt:Op2:=⟨.inr .Lt,qd fun i j=>decide (i<j),fun K X k e r _=>⟨_,DI,yU⟩⟩
def oGt:Op2:=⟨.inr .Gt,qd fun i j=>decide (j<i),fun K X k e r _=>⟨_,DJ,yU⟩⟩
def oIs:Op2:=⟨.inr .Is,orO (gIs ξ) (qj ξ),fun K X k e r _=>⟨_,OpR.or Ay BB,R2D.or r_is D7⟩⟩
def oIsN:Op2:=⟨.inr .IsNot,orO (gIs θ) (qj θ),fun K X k e r _=>⟨_,OpR.or vM qk,R2D.or wo sX⟩⟩
def oIn:Op2:=⟨.inr .In,orO (gIn ξ) (eU ξ),fun K X k e r h=>⟨_,by subst e;exact OpR.or A6 (Bq (lj r)),R2D.or (r_in ξ) (zj h)⟩⟩
def oNi:Op2:=⟨.inr .NotIn,orO (gIn θ) (eU θ),fun K X k e r h=>⟨_,by subst e;exact OpR.or qe (qg (lj r)),R2D.or (r_in θ) (zj h)⟩⟩
def bLen:Bf:=⟨"len",.inl "len",rfl,kf,fun K X k e _ _=>⟨_,by subst e;exact rj,DX⟩⟩
def bList:Bf:=⟨"list",.inr "list",rfl,sC,fun K X k e _ _=>⟨_,by subst e;exact jV,A8⟩⟩
def bTup:Bf:=⟨"tuple",.inr "tuple",rfl,mX,fun K X k e _ _=>⟨_,by subst e;exact iO,wq⟩⟩
def bInt:Bf:=⟨"int",.inr "int",rfl,wp,fun K X k e _ _=>⟨_,qf,DY⟩⟩
def bSrt:Bf:=⟨"sorted",.inl "sorted",rfl,gF,fun K X k e _ _=>⟨_,by subst e;exact kr,tJ⟩⟩
def bSum:Bf:=⟨"sum",.inl "sum",rfl,oN,fun K X k e c _=>⟨_,by subst e;exact qF c,BT⟩⟩
def bMin:Bf:=⟨"min",.inl "min",rfl,sZ,fun K X k e c _=>⟨_,ql c,D8⟩⟩
def mJoin:Ms:=⟨"join","str.join",PySem.F.slot_str_join,PySem.F.type_str_join,kh,fun K X e=>⟨_,by subst e;exact wb,wr⟩⟩
def iAdd:Ia:=⟨.Add,fun i j=>i+j,fun X=>Ah⟩
abbrev kI(n:Int):E:=.k (.int n)
abbrev kS(s:Str):E:=.k (.str s)
abbrev A1(a:E):E:=.cons a .nil
abbrev A2(a b:E):E:=.cons a (A1 b)
abbrev A3(a b c:E):E:=.cons a (A2 b c)
abbrev A4(a b c d:E):E:=.cons a (A3 b c d)
abbrev A5(a b c d e:E):E:=.cons a (A4 b c d e)
abbrev vN0:E:=.v 0
abbrev vN1:E:=.v 1
abbrev vN2:E:=.v 2
abbrev vN3:E:=.v 3
abbrev vN4:E:=.v 4
abbrev vN5:E:=.v 5
abbrev vN6:E:=.v 6
abbrev vN7:E:=.v 7
abbrev vN8:E:=.v 8
abbrev vN9:E:=.v 9
abbrev qG:E:=.v 10
abbrev xo:E:=.v 11
abbrev nB:E:=.v 12
abbrev BX:E:=.v 13
abbrev qH:E:=.v 14
def sL:η S->S
 |[]=>.nil
 |a::l=>.sq a (sL l)
instance{n:Nat}[OfNat Int n]:OfNat E n:=⟨.k (.int (OfNat.ofNat n))⟩
instance:Add E:=⟨.b2 oAdd .v⟩
instance:Sub E:=⟨.b2 oSub .v⟩
instance:Mul E:=⟨.b2 oMul .v⟩
instance:_root_.Mod E:=⟨.b2 oMod .v⟩
instance:SDiff E:=⟨.b2 oDiv .v⟩
instance:Div E:=⟨.ix⟩
variable{n:Nat}
theorem xLit[OfNat Int n]:(OfNat.ofNat n:E)=.k (.int (OfNat.ofNat n)):=rfl
section
variable{a b:E}
theorem xAdd:a+b=.b2 oAdd .v a b:=rfl
theorem xSub:a-b=.b2 oSub .v a b:=rfl
theorem xMul:a*b=.b2 oMul .v a b:=rfl
theorem xMod:a%b=.b2 oMod .v a b:=rfl
theorem xDiv:a \ b=.b2 oDiv .v a b:=rfl
theorem xIx:a/b=.ix a b:=rfl
abbrev tsE(a b:E):E:=.tr (.b2 oEq .v a b)
abbrev tsL(a b:E):E:=.tr (.b2 oLt .v a b)
abbrev tsN(a b:E):E:=.tr (.b2 oNe .v a b)
abbrev tsG(a b:E):E:=.tr (.b2 oGt .v a b)
abbrev eLn(a:E):E:=.bn bLen .v (A1 a)
abbrev rG1(a:E):E:=.rg (A1 a)
abbrev aT0(c f:Nat):E:=.at c f (.v 0)
abbrev mE0(j:Nat)(a:E):E:=.me j (.v 0) a
abbrev cO0(l:η (ζ Nat))(a b:E):E:=.co .v l (.one 0) a .ys b
abbrev cR0(a b:E):S:=.cd a (.sq (.rt b) .nil) .nil
end
def sLb:η S->S->S
 |[],s=>s
 |a::l,s=>.sq a (sLb l s)
def gc:η (Str×Dt):=[("WIDE",.int 1099511627776)]
def L:Lw:=⟨["bool","dict","enumerate","int","isinstance","len","list","min","range","sorted","str","sum","tuple"],[("Hand",["first","unlike"]),("Lost",["place","done","hears","says","boxes","dust","log"]),("Store",["home","heads","page_boxes","page_turns","counting","result"]),("House",["rows","onward","sizes","twins","keeps","incoming","store","hand","dust","lost","plan"]),("Plain",["rows","onward","incoming","outgoing","boxes","cells","shelves","place","hears","done","result"])],["bool","int","str"]⟩
def t0:η Df:=[]
def d0:Df:=⟨.fn,"_law_names",6,2,sL [.set 2 (kS "abcdefghijklmnopqrstuvwxyz"),.set 3 (vN0%6),.set 4 (vN0 \ 6%(vN3+1)),.set 5 (.ms mJoin .v (kS "") (A1 (cO0 [ψ,ς 0,ς 2] (rG1 vN3) (vN2/((vN1 \ 37+11*vN0*(vN1%2))%26))))),.rt (cO0 [ψ,ς 4,ς 0,ς 5,ς 2] (rG1 vN1) (.sl .v vN3 .no (.cons vN1 .nil)+vN4/((vN2 \ 42+5*vN0)%26)+.sl .v vN3 (.cons vN1 .nil) .no))]⟩
def t1:=d0::t0
def d1:Df:=⟨.fn,"_law_cell_at",2,2,sL [cR0 (tsL vN1 (eLn vN0)) (vN0/vN1),.rt 0]⟩
def t2:=d1::t1
def d2:Df:=⟨.fn,"_law_stream",5,2,sL [.set 2 (.ls .w .nil),.set 3 (vN0%2147483629+69621),.fo (.one 4) (rG1 (vN1+1)) (sL [.set 3 ((vN3*vN3+16807*vN3+vN4)%2147483629),.aps 2 vN3]),.rt (.sl .v vN2 (.cons 1 .nil) .no)]⟩
def t3:=d2::t2
def d3:Df:=⟨.fn,"_law_value_by",1,1,sL [cR0 (tsE (vN0%3) 0) (vN0 \ 3%4),cR0 (tsE (vN0%3) 1) (.b2 xn .v 2 40-1-vN0 \ 3%4),.rt (vN0 \ 3*1664525%.b2 xn .v 2 40)]⟩
def t4:=d3::t3
def d4:Df:=⟨.fn,"_law_world",6,1,sL [.set 1 (.ca 3 (A2 (.ca 2 (A2 vN0 0)) 12)),.set 2 (.ca 1 (A2 (.ca 2 (A2 vN0 1)) 12)),.set 3 (cO0 [ψ,ς 1,ς 2] (rG1 (1+vN2/6%3)) (.tu (A3 (vN1/vN0) (.ca 0 (A1 (vN2/vN0))) (.b2 oEq .v ((vN2/vN0) \ 5%2) 0)))),.set 4 (cO0 [ψ,ς 1,ς 2] (rG1 (1+vN2/7%2)) (.tu (A3 (vN1/(4+vN0)) (1+vN2/(4+vN0)%8) (.b2 oEq .v ((vN2/(4+vN0)) \ 8%2) 0)))),.set 5 (cO0 [ψ] (.it (.ca 1 (A2 (.ca 2 (A2 vN0 2)) (vN2/8%7)))) (.ca 0 (A1 vN0))),.rt (.tu (A4 (.sl .v vN1 (.cons 6 .nil) (.cons 10 .nil)) vN3 vN4 vN5))]⟩
def t5:=d4::t4
def d5:Df:=⟨.fn,"_law_atom",2,2,sL [cR0 (tsE (vN0%3) 0) (.ca 1 (A1 (vN0 \ 3))),.rt (vN1/(vN0 \ 3%eLn vN1))]⟩
def t6:=d5::t5
def d6:Df:=⟨.fn,"_law_led",3,3,sL [cR0 (tsE (vN0/4%6) 0) (vN0/5%vN2),.rt (vN1+1+vN0/5%(vN2-1-vN1))]⟩
def t7:=d6::t6
def d7:Df:=⟨.fn,"_law_row",15,4,sL [.un (.many [4,5,6,7]) vN3,.set 8 (.ca 4 (A2 vN0 8)),.set 9 (vN4/(vN8/1%eLn vN4)),.set 10 (vN5/(vN8/6%eLn vN5)/0),.set 11 (vN6/(vN8/6%eLn vN6)/0),.set 12 (.ca 1 (A2 (vN8/2) vN4)),.set 13 (.ca 1 (A2 (vN8/3) vN4)),.set 14 (vN8/0%23),cR0 (tsL qH 5) (.tu (A5 (kS "op") vN9 (kS "+-*<=&|^"/(vN8/7%8)) nB BX)),cR0 (tsL qH 17) (.ls .v (A4 (.tu (A3 (kS "load") vN9 qG)) (.tu (A3 (kS "store") qG nB)) (.tu (A4 (kS "take") vN9 xo nB)) (.tu (A4 (kS "lay") xo nB BX)))/(qH%4)),cR0 (tsL qH 20) (.ls .v (A3 (.tu (A3 (kS "copy") vN9 nB)) (.tu (A2 (kS "hear") vN9)) (.tu (A2 (kS "say") nB)))/(qH%3)),cR0 (tsL qH 22) (.tu (A3 (kS "if") vN9 (.ca 0 (A3 vN8 vN1 vN2)))),.rt (.ls .v (A3 (.tu (A2 (kS "end") nB)) (.tu (A2 (kS "say") BX)) (.tu (A2 (kS "go") (.ca 0 (A3 vN8 vN1 vN2)))))/((vN8/5) \ 64%3))]⟩
def t8:=d7::t7
def d8:Df:=⟨.fn,"_law_program",4,3,sL [.set 3 (cO0 [ψ,ς 0,ς 1] (rG1 (eLn vN0)) (.ca 0 (A4 (vN1/vN0) vN0 (eLn vN1+1) vN2))),.rt (.tu (A3 (.bn bTup .v (A1 (vN1/1))) (.bn bTup .v (A1 (vN1/2))) (.bn bTup .v (A1 vN3)+.tu (A1 (.tu (A2 (kS "end") vN2))))))]⟩
def t9:=d8::t8
def d9:Df:=⟨.fn,"_law_some",2,2,sL [.rt (.bn bTup .v (A1 (.bn bSrt .v (A1 (.co .v [ψ,ς 1,ς 0] (.one 0) (rG1 (eLn vN1)) (tsE (.b2 oBan .v (.b2 oShr .v vN2 vN0) 1) 1) (vN1/vN0))))))]⟩
def t10:=d9::t9
def d10:Df:=⟨.fn,"_law_cutting",8,3,sL [.set 3 (vN0/2),.set 4 (.ca 7 (A2 vN1 (eLn vN3+2))),.set 5 (.ls .v (A3 2 3 5)/(vN4/0%3)),.set 6 (.ls .w .nil),.fo (.one 7) (rG1 (eLn vN3)) (sL [.cd (.to (tsE (vN3/vN7/0) (kS "end")) (tsE (vN4/(vN7+1)%vN5) 0)) (sL [.aps 6 (.tu (A2 vN7 (.ca 0 (A2 ((vN4/(vN7+1)) \ 30) vN2))))]) .nil]),.rt (.tu (A2 (.ca 0 (A2 (vN4/.ng 1) vN2)) (.bn bTup .v (A1 vN6))))]⟩
def t11:=d10::t10
def d11:Df:=⟨.fn,"_law_failings",5,1,sLb [.set 1 (.ls .w .nil),.fo (.one 2) (.it vN0) (sL [.set 3 (.ca 8 (A2 vN2 3)),.set 4 (vN3/0%15),.cd (tsE (vN3/2%5) 0) (sL [.set 4 (vN3/0%100)]) .nil,.aps 1 (.tu (A2 vN4 (.ca 7 (A1 (vN3/1)))))])] (.fz 1 (sL [.rt vN1]))⟩
def t12:=d11::t11
def d12:Df:=⟨.fn,"ways_of",2,2,sL [cR0 (tsE (vN1/0) (kS "go")) (.tu (A1 (vN1/1))),cR0 (tsE (vN1/0) (kS "if")) (.tu (A2 (vN1/2) (vN0+1))),cR0 (tsE (vN1/0) (kS "end")) (.tu .nil),.rt (.tu (A1 (vN0+1)))]⟩
def t13:=d12::t12
def d13:Df:=⟨.fn,"ways",1,1,sL [.rt (.co .v [ψ,ψ] (.many [0,1]) (.en (vN0/2)) .ys (.ca 0 (A2 vN0 vN1)))]⟩
def t14:=d13::t13
def d14:Df:=⟨.mk 2,"__init__",3,3,sL [.fl 2 0 vN0 (.dc .o (cO0 [ψ] (.it (vN1/0)) (.tu (.cons (vN0/0) (.cons (.ls .o (.cons (vN0/1) .nil)) .nil))))),.up (aT0 2 0) (.dc .o (cO0 [ψ] (.it (vN1/1)) (.tu (.cons (vN0/0) (.cons (.b2 oMul .o (.ls .v (A1 0)) (vN0/1)) .nil))))),.fl 2 1 vN0 (.ls .o (A2 (.tu (A4 0 0 0 0)) (.tu (A4 0 0 0 0)))),.fl 2 2 vN0 (.ls .o (.cons (.co .o [ψ] (.one 0) (.it vN2) .ys (.tu (.cons vN0 (.cons 0 .nil)))) (.cons (.ls .o .nil) .nil))),.fl 2 3 vN0 (.ls .o (.cons (.ls .o .nil) (.cons (.ls .o .nil) .nil))),.fl 2 4 vN0 0,.fl 2 5 vN0 (.k .non)]⟩
def t15:=d14::t14
def d15:Df:=⟨.mk 0,"__init__",1,1,sL [.fl 0 0 vN0 (.dn .o ξ),.fl 0 1 vN0 (.k (.bl ξ))]⟩
def t16:=d15::t15
def d16:Df:=⟨.fn,"named",2,2,sL [.rt (.co .v [ψ,ψ,ς 0] (.many [0,1]) (.it vN1) .ys (.tu (A4 vN2 (vN0/0) (vN0/1) vN1)))]⟩
def t17:=d16::t16
def d17:Df:=⟨.fn,"coming_up",1,1,sL [.rt (.b2 oAdd .o (.ca 0 (A2 (kS "put") (vN0/5))) (.ls .v (A1 (.tu (A1 (kS "wake"))))))]⟩
def t18:=d17::t17
def d18:Df:=⟨.me 2,"page",2,2,sL [.rt (aT0 2 1/vN1+.tu (A2 (.bn bList .v (A1 (aT0 2 2/vN1))) (.bn bList .v (A1 (aT0 2 3/vN1)))))]⟩
def t19:=d18::t18
def d19:Df:=⟨.me 3,"page",2,2,sL [.rt (.me 0 (aT0 3 6) (A1 vN1))]⟩
def t20:=d19::t19
def d20:Df:=⟨.me 2,"face",1,1,sL [.rt (aT0 2 4)]⟩
def t21:=d20::t20
def d21:Df:=⟨.me 3,"face",1,1,sL [.rt (.me 0 (aT0 3 6) .nil)]⟩
def t22:=d21::t21
def d22:Df:=⟨.mk 3,"__init__",4,4,sL [.fl 3 0 vN0 (vN1/2),.fl 3 1 vN0 (.ca 8 (A1 vN1)),.fl 3 2 vN0 (.dc .v (cO0 [ψ] (.it (vN1/1)) (.tu (A2 (vN0/0) (vN0/1))))),.fl 3 3 vN0 (.co .v [ψ] (.one 0) (.it (vN1/0+vN1/1)) (.tr (vN0/2)) (vN0/0)),.fl 3 4 vN0 (.dc .v (vN2/1)),.fl 3 5 vN0 (.bn bList .v (A1 vN3)),.fl 3 6 vN0 (.mk 7 (A2 vN1 (vN2/0))),.fl 3 7 vN0 (.mk 6 .nil),.fl 3 8 vN0 0,.fl 3 9 vN0 (.k .non),.fl 3 10 vN0 (.ca 4 (A1 (mE0 2 (A1 (mE0 0 .nil)))))]⟩
def t23:=d22::t22
def d23:Df:=⟨.me 2,"answer",1,1,sL [.rt (aT0 2 5)]⟩
def t24:=d23::t23
def d24:Df:=⟨.me 3,"answer",1,1,sL [.rt (.me 0 (aT0 3 6) .nil)]⟩
def t25:=d24::t24
def d25:Df:=⟨.me 3,"rests",1,1,sL [.rt (.b2 oIsN .v (mE0 0 .nil) (.k .non))]⟩
def t26:=d25::t25
def d26:Df:=⟨.mk 1,"__init__",3,3,sL [.fl 1 0 vN0 (vN1/0),.fl 1 1 vN0 (vN1/1),.fl 1 2 vN0 (vN1/2),.fl 1 3 vN0 (vN1/3),.fl 1 4 vN0 (.dc .o (vN1/4)),.fl 1 5 vN0 vN2,.fl 1 6 vN0 (.dn .o θ)]⟩
def t27:=d26::t26
def d27:Df:=⟨.me 2,"put",4,4,sL [.put (aT0 2 0/vN1) vN2 vN3]⟩
def t28:=d27::t27
def d28:Df:=⟨.me 2,"other",1,1,sL [.rt (1-aT0 2 4)]⟩
def t29:=d28::t28
def d29:Df:=⟨.me 2,"begin_page",5,5,sL [.put (aT0 2 1) (mE0 0 .nil) (.tu (A4 vN1 vN2 vN3 vN4)),.put (aT0 2 2) (mE0 0 .nil) (.ls .o .nil),.put (aT0 2 3) (mE0 0 .nil) (.ls .o .nil)]⟩
def t30:=d29::t29
def d30:Df:=⟨.me 2,"keep_box",3,3,sL [.ap (aT0 2 2/mE0 1 .nil) (.tu (A2 vN1 vN2))]⟩
def t31:=d30::t30
def d31:Df:=⟨.me 2,"keep_turn",4,4,sL [.ap (aT0 2 3/mE0 2 .nil) (.tu (A2 (.tu (A2 vN1 vN2)) vN3))]⟩
def t32:=d31::t31
def d32:Df:=⟨.me 2,"turn",1,1,sL [.fl 2 4 vN0 (mE0 3 .nil)]⟩
def t33:=d32::t32
def d33:Df:=⟨.fn,"do_small",2,2,sL [.cd (tsE (vN1/0) (kS "put")) (sL [.dr (mE0 5 (A3 (vN1/1) (vN1/2) (vN1/3)))]) (sL [.cd (tsE (vN1/0) (kS "begin")) (sL [.dr (mE0 3 (A4 (vN1/1) (vN1/2) (vN1/3) (vN1/4)))]) (sL [.cd (tsE (vN1/0) (kS "box")) (sL [.dr (mE0 2 (A2 (vN1/1) (vN1/2)))]) (sL [.cd (tsE (vN1/0) (kS "log")) (sL [.dr (mE0 1 (A3 (vN1/1) (vN1/2) (vN1/3)))]) (sL [.cd (tsE (vN1/0) (kS "turn")) (sL [.dr (mE0 0 .nil)]) .nil])])])])]⟩
def t34:=d33::t33
def d34:Df:=⟨.me 3,"small_step",2,1,sL [.set 1 (.pp (aT0 3 10) 0),.cd (tsE (vN1/0) (kS "wake")) (sL [.fl 3 9 vN0 (.mk 7 (A2 (mE0 14 (A1 (mE0 12 .nil))) (aT0 3 8)))]) (sL [.dr (.ca 0 (A2 (aT0 3 6) vN1))]),.cd (tsE (eLn (aT0 3 10)) 0) (sL [.cl θ (.at 1 6 (aT0 3 9))]) .nil]⟩
def t35:=d34::t34
def d35:Df:=⟨.me 2,"give",2,2,sL [.fl 2 5 vN0 vN1]⟩
def t36:=d35::t35
def d36:Df:=⟨.me 1,"worth",2,2,sL [.rt (.cd (.tr (.ii "str" vN1)) (.gt (aT0 1 4) vN1 (aT0 1 5)) vN1)]⟩
def t37:=d36::t36
def d37:Df:=⟨.me 3,"write_at",4,4,sL [.cd (.tr (.b2 oIn .v vN1 (aT0 3 3))) (sL [.put (.at 1 6 (aT0 3 9)) (.tu (A2 vN1 vN2)) vN3]) (sL [.dr (.me 9 (aT0 3 6) (A3 vN1 vN2 vN3))])]⟩
def t38:=d37::t37
def d38:Df:=⟨.me 3,"place_on",3,3,sL [.rt (.me 1 (aT0 3 9) (A1 vN2)%(aT0 3 2/vN1))]⟩
def t39:=d38::t38
def d39:Df:=⟨.me 0,"take",3,3,sL [.cd (.tr (.b2 oNi .v vN1 (aT0 0 0))) (sL [.put (aT0 0 0) vN1 vN2]) (sL [.cd (tsN (aT0 0 0/vN1) vN2) (sL [.fl 0 1 vN0 (.k (.bl θ))]) .nil])]⟩
def t40:=d39::t39
def d40:Df:=⟨.fn,"number_of",3,3,sL [cR0 (tsE vN0 (kS "+")) (vN1+vN2),cR0 (tsE vN0 (kS "-")) (vN1-vN2),cR0 (tsE vN0 (kS "*")) (vN1*vN2),cR0 (tsE vN0 (kS "<")) (.cd (tsL vN1 vN2) 1 0),cR0 (tsE vN0 (kS "=")) (.cd (tsE vN1 vN2) 1 0),cR0 (tsE vN0 (kS "&")) (.b2 oBan .v vN1 vN2),cR0 (tsE vN0 (kS "|")) (.b2 oBor .v vN1 vN2),.rt (.b2 oXor .v vN1 vN2)]⟩
def t41:=d40::t40
def d41:Df:=⟨.fn,"value",3,3,sL [.rt (.ca 0 (A3 vN0 vN1 vN2)%.g 0)]⟩
def t42:=d41::t41
def d42:Df:=⟨.me 2,"get_home",3,3,sL [.rt (aT0 2 0/vN1/vN2)]⟩
def t43:=d42::t42
def d43:Df:=⟨.me 3,"value_at",3,3,sL [cR0 (.tr (.b2 oIn .v (.tu (A2 vN1 vN2)) (.at 1 6 (aT0 3 9)))) (.at 1 6 (aT0 3 9)/.tu (A2 vN1 vN2)),.rt (.me 0 (aT0 3 6) (A2 vN1 vN2))]⟩
def t44:=d43::t43
def d44:Df:=⟨.me 3,"next_letter",3,1,sL [.set 1 (aT0 3 9),.set 2 (.at 1 2 vN1),.fa 1 2 iAdd vN1 1,.rt (.cd (tsL vN2 (eLn (aT0 3 5))) (aT0 3 5/vN2) 0)]⟩
def t45:=d44::t44
def d45:Df:=⟨.me 3,"set_by",3,2,sL [.set 2 (aT0 3 9),cR0 (tsE (vN1/0) (kS "copy")) (.me 8 vN2 (A1 (vN1/2))),cR0 (tsE (vN1/0) (kS "op")) (.ca 3 (A3 (vN1/2) (.me 8 vN2 (A1 (vN1/3))) (.me 8 vN2 (A1 (vN1/4))))),cR0 (tsE (vN1/0) (kS "load")) (mE0 1 (A2 (vN1/2) 0)),cR0 (tsE (vN1/0) (kS "take")) (mE0 1 (A2 (vN1/2) (mE0 6 (A2 (vN1/2) (vN1/3))))),.rt (mE0 0 .nil)]⟩
def t46:=d45::t45
def d46:Df:=⟨.me 3,"do_row",3,2,sL [.set 2 (aT0 3 9),.cd (tsE (vN1/0) (kS "store")) (sL [.dr (mE0 8 (A3 (vN1/1) 0 (.me 9 vN2 (A1 (vN1/2)))))]) (sL [.cd (tsE (vN1/0) (kS "lay")) (sL [.dr (mE0 8 (A3 (vN1/1) (mE0 7 (A2 (vN1/1) (vN1/2))) (.me 9 vN2 (A1 (vN1/3)))))]) (sL [.cd (tsE (vN1/0) (kS "say")) (sL [.dr (.me 6 (aT0 3 7) (A2 (.at 1 3 vN2) (.me 9 vN2 (A1 (vN1/1))))),.fa 1 3 iAdd vN2 1]) (sL [.cd (.ta (tsN (vN1/0) (kS "if")) (tsN (vN1/0) (kS "go"))) (sL [.put (.at 1 4 vN2) (vN1/1) (mE0 0 (A1 vN1))]) .nil])])])]⟩
def t47:=d46::t46
def d47:Df:=⟨.me 3,"place_behind",4,2,sL [.set 2 (aT0 3 9),.set 3 (aT0 3 1/.at 1 0 vN2),cR0 (.ta (tsE (vN1/0) (kS "if")) (tsE (.me 10 vN2 (A1 (vN1/1))) 0)) (vN3/1),.rt (vN3/0)]⟩
def t48:=d47::t47
def d48:Df:=⟨.fn,"writing_down",5,2,sL [.set 2 (.ls .v (A1 (.tu (A5 (kS "begin") (aT0 1 0) (aT0 1 1) (aT0 1 2) (aT0 1 3))))),.set 3 (cO0 [ψ,ς 0] (.it vN1) (.tu (A3 (kS "box") vN0 (.me 11 vN1 (A1 vN0))))),.set 4 (.il .v (aT0 1 6)),.rt (.b2 oAdd .o (vN2+vN3+.ca 31 (A2 (kS "log") vN4)+.ls .v (A1 (.tu (A1 (kS "turn"))))) (.ca 31 (A2 (kS "put") vN4)))]⟩
def t49:=d48::t48
def d49:Df:=⟨.me 3,"row_step",3,1,sL [.set 1 (aT0 3 9),.set 2 (aT0 3 0/.at 1 0 vN1),.fa 1 1 iAdd vN1 1,.cd (tsE (vN2/0) (kS "end")) (sL [.dr (.me 13 (aT0 3 6) (A1 (.me 12 vN1 (A1 (vN2/1))))),.rn]) .nil,.dr (mE0 2 (A1 vN2)),.fl 1 0 vN1 (mE0 1 (A1 vN2)),.cd (.tr (.b2 oIn .v (.at 1 0 vN1) (aT0 3 4))) (sL [.fl 3 10 vN0 (.ca 0 (A2 vN1 (aT0 3 4/.at 1 0 vN1)))]) .nil]⟩
def t50:=d49::t49
def d50:Df:=⟨.me 3,"step",1,1,sL [.cd (.tr (mE0 24 .nil)) (sL [.rn]) .nil,.cd (tsG (eLn (aT0 3 10)) 0) (sL [.dr (mE0 15 .nil)]) (sL [.dr (mE0 0 .nil)])]⟩
def t51:=d50::t50
def d51:Df:=⟨.fn,"walked",3,2,sL [.set 2 0,.wh 1100 (.ta (tsL vN2 vN1) (.tn (.tr (mE0 25 .nil)))) (sL [.dr (mE0 0 .nil),.au 2 iAdd 1]),.rt vN2]⟩
def t52:=d51::t51
def d52:Df:=⟨.me 3,"fail",2,2,sL [.cd (.tr (mE0 26 .nil)) (sL [.rn]) .nil,.fl 3 9 vN0 (.k .non),.fl 3 8 vN0 vN1,.fl 3 10 vN0 (.ca 34 (A1 (mE0 32 (A1 (mE0 30 .nil)))))]⟩
def t53:=d52::t52
def d53:Df:=⟨.fn,"drive",7,3,sL [.set 3 0,.set 4 0,.fo (.many [5,6]) (.it vN1) (sL [cR0 (tsG (vN3+vN5) vN2) (vN4+.ca 1 (A2 vN0 (vN2-vN3))),.au 4 iAdd (.ca 1 (A2 vN0 vN5)),.au 3 iAdd vN5,.dr (mE0 0 (A1 vN6))]),.rt (vN4+.ca 1 (A2 vN0 (vN2-vN3)))]⟩
def t54:=d53::t53
def d54:Df:=⟨.fn,"_law_whole",2,2,sL [.rt (.an (.ii "int" vN0) (.an (.nt (.ii "bool" vN0)) (.b2 oEq .v vN0 vN1)))]⟩
def t55:=d54::t54
def d55:Df:=⟨.fn,"_law_by_hand",8,3,sL [.set 3 0,.set 4 vN2,.fo (.many [5,6]) (.it vN1) (sL [.fo (.one 7) (rG1 (.bn bMin .v (A2 vN5 vN4))) (sL [.set 3 (vN3+.bn bInt .v (A1 (.nt (mE0 29 .nil)))),.dr (mE0 4 .nil)]),cR0 (tsG vN5 vN4) vN3,.set 4 (vN4-vN5),.dr (mE0 2 (A1 vN6))]),.fo (.one 7) (rG1 vN4) (sL [.set 3 (vN3+.bn bInt .v (A1 (.nt (mE0 29 .nil)))),.dr (mE0 4 .nil)]),.rt vN3]⟩
def t56:=d55::t55
def d56:Df:=⟨.me 0,"kept",2,1,sLb [.set 1 (.ls .w .nil),.wh 1100 (.tr (.b2 oIn .v (eLn vN1) (aT0 0 0))) (sL [.aps 1 (aT0 0 0/eLn vN1)])] (.fz 1 (sL [.rt vN1]))⟩
def t57:=d56::t56
def d57:Df:=⟨.me 3,"letters",1,1,sL [.rt (.me 0 (aT0 3 7) .nil)]⟩
def t58:=d57::t57
def d58:Df:=⟨.me 2,"cell",2,2,sL [.rt (aT0 2 0/vN1/0)]⟩
def t59:=d58::t58
def d59:Df:=⟨.me 3,"cell",2,2,sL [.rt (.me 0 (aT0 3 6) (A1 vN1))]⟩
def t60:=d59::t59
def d60:Df:=⟨.me 2,"shelf",2,2,sL [.rt (.bn bList .v (A1 (aT0 2 0/vN1)))]⟩
def t61:=d60::t60
def d61:Df:=⟨.me 3,"shelf",2,2,sL [.rt (.me 0 (aT0 3 6) (A1 vN1))]⟩
def t62:=d61::t61
def d62:Df:=⟨.me 3,"stands",1,1,sL [.rt (.cd (.to (.tr (mE0 36 .nil)) (tsG (eLn (aT0 3 10)) 0)) (.k .non) (.at 1 0 (aT0 3 9)))]⟩
def t63:=d62::t62
def d63:Df:=⟨.me 3,"count",1,1,sL [.rt (.cd (.tr (.b2 oIs .v (mE0 0 .nil) (.k .non))) (mE0 43 (A1 (mE0 41 .nil))/1) (.at 1 1 (aT0 3 9)))]⟩
def t64:=d63::t63
def d64:Df:=⟨.me 0,"torn",1,1,sL [.rt (aT0 0 1)]⟩
def t65:=d64::t64
def d65:Df:=⟨.me 3,"torn",1,1,sL [.rt (.me 0 (aT0 3 7) .nil)]⟩
def t66:=d65::t65
def d66:Df:=⟨.me 3,"box",2,2,sL [.rt (.cd (.tr (.b2 oIs .v (mE0 3 .nil) (.k .non))) 0 (.me 29 (aT0 3 9) (A1 vN1)))]⟩
def t67:=d66::t66
def d67:Df:=⟨.fn,"_law_same",9,4,sL [.fo (.one 4) (.it (.tu (A2 0 1))) (sL [cR0 (tsN (mE0 47 (A1 vN4)) (.me 47 vN1 (A1 vN4))) (.k (.bl ξ))]),cR0 (.to (tsN (mE0 45 .nil) (.me 45 vN1 .nil)) (.to (tsN (mE0 9 .nil) (.me 9 vN1 .nil)) (tsN (mE0 42 .nil) (.me 42 vN1 .nil)))) (.k (.bl ξ)),.fo (.many [5,6,7]) (.it (vN2/0)) (sL [cR0 (tsN (mE0 7 (A1 vN5)) (.me 7 vN1 (A1 vN5))) (.k (.bl ξ))]),.fo (.many [5,8,7]) (.it (vN2/1)) (sL [cR0 (tsN (mE0 5 (A1 vN5)) (.me 5 vN1 (A1 vN5))) (.k (.bl ξ))]),cR0 (.to (tsN (mE0 4 .nil) (.me 4 vN1 .nil)) (.to (tsN (mE0 3 .nil) (.me 3 vN1 .nil)) (tsN (mE0 1 .nil) (.me 1 vN1 .nil)))) (.k (.bl ξ)),.rt (.b2 oEq .v (cO0 [ψ,ς 0] (.it vN3) (.me 0 vN1 (A1 vN0))) (cO0 [ψ,ς 1] (.it vN3) (.me 0 vN1 (A1 vN0))))]⟩
def t68:=d67::t67
def d68:Df:=⟨.mk 4,"__init__",3,3,sL [.fl 4 0 vN0 (vN1/2),.fl 4 1 vN0 (.ca 54 (A1 vN1)),.fl 4 2 vN0 (.bn bList .v (A1 vN2)),.fl 4 3 vN0 (.ls .o .nil),.fl 4 4 vN0 (.dn .o ξ),.fl 4 5 vN0 (.dc .o (cO0 [ψ] (.it (vN1/0)) (.tu (A2 (vN0/0) (vN0/1))))),.fl 4 6 vN0 (.dc .o (cO0 [ψ] (.it (vN1/1)) (.tu (.cons (vN0/0) (.cons (.b2 oMul .o (.ls .v (A1 0)) (vN0/1)) .nil))))),.fl 4 7 vN0 0,.fl 4 8 vN0 0,.fl 4 9 vN0 0,.fl 4 10 vN0 (.k .non)]⟩
def t69:=d68::t68
def d69:Df:=⟨.me 4,"ended",1,1,sL [.rt (.b2 oIsN .v (aT0 4 10) (.k .non))]⟩
def t70:=d69::t69
def d70:Df:=⟨.me 4,"box",2,2,sL [.rt (.gt (aT0 4 4) vN1 0)]⟩
def t71:=d70::t70
def d71:Df:=⟨.me 4,"worth",2,2,sL [.rt (.cd (.tr (.ii "str" vN1)) (mE0 0 (A1 vN1)) vN1)]⟩
def t72:=d71::t71
def d72:Df:=⟨.me 4,"next_letter",2,1,sL [.set 1 (aT0 4 8),.fa 4 8 iAdd vN0 1,.rt (.cd (tsL vN1 (eLn (aT0 4 2))) (aT0 4 2/vN1) 0)]⟩
def t73:=d72::t72
def d73:Df:=⟨.me 4,"set_by",3,2,sL [cR0 (tsE (vN1/0) (kS "copy")) (mE0 1 (A1 (vN1/2))),cR0 (tsE (vN1/0) (kS "op")) (.ca 31 (A3 (vN1/2) (mE0 1 (A1 (vN1/3))) (mE0 1 (A1 (vN1/4))))),cR0 (tsE (vN1/0) (kS "load")) (aT0 4 5/(vN1/2)),.cd (tsE (vN1/0) (kS "take")) (sL [.set 2 (aT0 4 6/(vN1/2)),.rt (vN2/(mE0 1 (A1 (vN1/3))%eLn vN2))]) .nil,.rt (mE0 0 .nil)]⟩
def t74:=d73::t73
def d74:Df:=⟨.me 4,"do_row",3,2,sL [.cd (tsE (vN1/0) (kS "store")) (sL [.put (aT0 4 5) (vN1/1) (mE0 2 (A1 (vN1/2)))]) (sL [.cd (tsE (vN1/0) (kS "lay")) (sL [.set 2 (aT0 4 6/(vN1/1)),.put vN2 (mE0 2 (A1 (vN1/2))%eLn vN2) (mE0 2 (A1 (vN1/3)))]) (sL [.cd (tsE (vN1/0) (kS "say")) (sL [.ap (aT0 4 3) (mE0 2 (A1 (vN1/1)))]) (sL [.cd (.ta (tsN (vN1/0) (kS "if")) (tsN (vN1/0) (kS "go"))) (sL [.put (aT0 4 4) (vN1/1) (mE0 0 (A1 vN1))]) .nil])])])]⟩
def t75:=d74::t74
def d75:Df:=⟨.me 4,"place_behind",3,2,sL [.set 2 (aT0 4 1/aT0 4 7),cR0 (.ta (tsE (vN1/0) (kS "if")) (tsE (mE0 3 (A1 (vN1/1))) 0)) (vN2/1),.rt (vN2/0)]⟩
def t76:=d75::t75
def d76:Df:=⟨.me 4,"step",2,1,sL [.cd (.tr (mE0 6 .nil)) (sL [.rn]) .nil,.set 1 (aT0 4 0/aT0 4 7),.fa 4 9 iAdd vN0 1,.cd (tsE (vN1/0) (kS "end")) (sL [.fl 4 10 vN0 (mE0 4 (A1 (vN1/1)))]) (sL [.dr (mE0 1 (A1 vN1)),.fl 4 7 vN0 (mE0 0 (A1 vN1))])]⟩
def t77:=d76::t76
def d77:Df:=⟨.fn,"_law_ends",4,2,sL [.set 2 (.mk 8 (A2 vN0 vN1)),.fo (.one 3) (rG1 60) (sL [.dr (.me 0 vN2 .nil)]),.rt (.me 7 vN2 .nil)]⟩
def t78:=d77::t77
def d78:Df:=⟨.fd 1000,"drive",7,3,sL [.set 3 0,.set 4 0,.fo (.many [5,6]) (.it vN1) (sL [cR0 (tsG (vN3+vN5) vN2) (vN4+.ca 26 (A2 vN0 (vN2-vN3))),.au 4 iAdd (.ca 26 (A2 vN0 vN5)),.au 3 iAdd vN5,.dr (mE0 25 (A1 vN6))]),.rt (vN4+.ca 26 (A2 vN0 (vN2-vN3)))]⟩
def t79:=d78::t78
def d79:Df:=⟨.fn,"law",12,1,sL [.set 1 (.ca 74 (A1 vN0)),.set 2 (.ca 78 (A2 (.ca 77 (A2 vN0 0)) 12)),.set 3 (.ca 70 (A3 (.sl .v vN0 (.cons 5 .nil) (.cons 25 .nil)) vN1 (.ca 73 (A2 (.ca 77 (A2 vN0 3)%2147483629) (vN1/0))))),.set 4 (.ca 68 (A3 vN3 (.ca 77 (A2 vN0 4)) (.sl .v vN2 (.cons 5 .nil) (.cons 11 .nil)))),.set 5 (.ca 67 (A1 (.sl .v vN0 (.cons 25 .nil) (.cons 45 .nil)))),.set 6 (.ca 76 (A2 (.ca 77 (A2 vN0 3)) 4)),.set 7 (vN6/0%151),.cd (tsE (vN6/1%2) 0) (sL [.set 7 (.bn bSum .v (A1 (.co .v [ψ,ψ] (.many [0,1]) (.it (.sl .v vN5 .no (.cons (vN6/2%5) .nil))) .ys vN0)))]) .nil,.set 8 (.bn bList .v (A1 vN5)),.set 9 (.mk 56 (A3 vN3 vN4 (vN1/3))),.set 10 (.mk 56 (A3 vN3 vN4 (vN1/3))),.set 11 (.ca 25 (A3 vN9 vN8 vN7)),cR0 (.to (.tn (.tr (.ca 24 (A2 xo (.ca 23 (A3 qG vN5 vN7)))))) (.tn (.tr (.ca 11 (A4 vN9 qG vN3 vN2))))) (.k (.bl ξ)),cR0 (.tn (.tr (.ca 1 (A2 vN3 (vN1/3))))) (.b2 oEq .v vN8 vN5),.set 9 (.mk 56 (A3 vN3 vN4 (vN1/3))),.set 10 (.mk 56 (A3 vN3 vN4 (vN1/3))),.set 11 (.ca 0 (A2 vN9 (.sl .v vN8 .no (.cons 4 .nil)))),cR0 (.tn (.tr (.ca 24 (A2 xo (.ca 23 (A3 qG (.sl .v vN5 .no (.cons 4 .nil)) 1000)))))) (.k (.bl ξ)),.rt (.an (.ca 11 (A4 vN9 qG vN3 vN2)) (.b2 oEq .v vN8 vN5))]⟩
def t80:=d79::t79
def rn(ρ:Nat->Nat):CV->CV
 |.ref i=>.ref (ρ i)
 |.g d=>.g d
 |.fn a F=>.fn a F
 |.own b t=>.own b t
abbrev rnP{κ:Type}(ρ:Nat->Nat)(l:η (κ×CV)):η (κ×CV):=l.map fun p=>(p.1,rn ρ p.2)
def rnO(ρ:Nat->Nat):CO->CO
 |.e l=>.e (l.map (rn ρ))
 |.t l=>.t (l.map (rn ρ))
 |.dK l=>.dK (rnP ρ l)
 |.dT l=>.dT (rnP ρ l)
 |.ins c l=>.ins c (l.map (rn ρ))
abbrev rnS(ρ:Nat->Nat)(δ:Sl):Sl:=δ.map (zc9 (rn ρ))
structure Em(ρ:Nat->Nat)(a b:CH):Prop where
 inj:∀i j,ρ i=ρ j->i=j
 get:∀{i o},a[i]?=ς o->b[ρ i]?=ς (rnO ρ o)
 nw:∀k,ρ (a.length+k)=b.length+k
def Kp(ρ:Nat->Nat)(b b':CH):Prop:=∀j,(∀i,ρ i≠j)->b'[j]?=b[j]?
def Go{β:Type}(ρ:Nat->Nat)(b:CH)(y:ζ (β×CH))(x:β)(a':CH):Prop:=∃b',y=ς (x,b')/\Em ρ a' b'/\Kp ρ b b'
def Tr{α:Type}(R:(Nat->Nat)->α->α)(f:FM α):Prop:=∀{ρ δ a x a' b},Em ρ a b->f δ a=ς (x,a')->Go ρ b (f (rnS ρ δ) b) (R ρ x) a'
abbrev rI{α:Type}(_:Nat->Nat)(x:α):α:=x
abbrev rnA(ρ:Nat->Nat)(l:η CV):η CV:=l.map (rn ρ)
def TrD(F:Fd):Prop:=∀{ρ cs a x a' b},Em ρ a b->F cs a=ς (x,a')->Go ρ b (F (rnA ρ cs) b) (rn ρ x) a'
variable{b' a':CH}{i:Nat}{δ:Sl}
section
variable{ρ:Nat->Nat}{a b:CH}{c:CV}{m:Md}{α β:Type}
theorem Kp.refl:Kp ρ b b:=fun _ _=>rfl
theorem Kp.trans{b'':CH}(h:Kp ρ b b')(k:Kp ρ b' b''):Kp ρ b b'':=fun j O=>(k j O).trans (h j O)
theorem Go.bind{y:ζ (α×CH)}{x:α}{a'':CH}{k:α×CH->ζ (β×CH)}{z:β}(h:Go ρ b y x a')(O:∀b',Em ρ a' b'->Go ρ b' (k (x,b')) z a''):Go ρ b (y.bind k) z a'':=by obtain⟨b1,rfl,E,f⟩:=h;obtain⟨b2,h2,W,U⟩:=O b1 E;exact⟨b2,h2,W,f.trans U⟩
theorem Go.here{x:α}(E:Em ρ a b):Go ρ b (ς (x,b)) x a:=⟨b,rfl,E,.refl⟩
theorem Go.map{y:ζ (α×CH)}{x:α}{k:α×CH->β×CH}{z:β}(h:Go ρ b y x a')(O:∀b',k (x,b')=(z,b')):Go ρ b (y.map k) z a':=by obtain⟨b1,rfl,E,f⟩:=h;exact⟨b1,by rw[qb2,O],E,f⟩
theorem b8:rn ρ (.ref i)=.ref (ρ i):=rfl
theorem iz{d:Dt}:rn ρ (.g d)=.g d:=rfl
theorem ee:(rn ρ c).sol=c.sol:=by cases c<;>rfl
theorem Eh:(rn ρ c).kp=c.kp:=by cases c<;>first|rfl|(rename_i b t;cases b<;>rfl)
theorem BY:(rn ρ c).old=c.old:=by cases c<;>first|rfl|(rename_i b t;cases b<;>rfl)
theorem oO:rn ρ (lent c)=lent (rn ρ c):=by cases c<;>rfl
theorem uc:bN (rn ρ c)=bN c:=by cases c<;>rfl
theorem iA:bO (rn ρ c)=bO c:=by cases c<;>rfl
theorem cS:∀l:η CV,dats (l.map (rn ρ))=dats l
 |[]=>rfl
 |c::l=>by have:=cS l;cases c<;>simp[dats,rn,this]
theorem oP:∀l:η CV,gq (l.map (rn ρ))=gq l
 |[]=>rfl
 |c::l=>by
  have:=oP l;cases c with
  |g d=>cases d<;>simp[gq,rn,this]
  |_=>simp[gq,rn]
theorem kG(l:η CV):(l.map (rn ρ)).all CV.sol=l.all CV.sol:=by rw[zf7];exact List.all_congr rfl fun c=>ee
theorem kH(l:η CV):(l.map (rn ρ)).all CV.old=l.all CV.old:=by rw[zf7];exact List.all_congr rfl fun c=>BY
theorem BZ(o:CO):vwO (rnO ρ o)=vwO o:=by
 cases o with
 |e l=>simp only[rnO,vwO,cS]
 |t l=>rfl
 |ins c l=>rfl
 |dK l|dT l=>have h:=cS (ρ:=ρ) (l.map (·.2));rw[qd4]at h;simp only[rnO,vwO,rnP,qd4,qb4];simp only[qb4]at h;rw[h]
theorem Em.vw(E:Em ρ a b){d:Dt}(h:vw a c=ς d):vw b (rn ρ c)=ς d:=by
 cases c with
 |ref i=>obtain⟨o,h1,h2⟩:=bS h;show(b[ρ i]?).bind vwO=ς d;rw[E.get h1,qa0,BZ];exact h2
 |g d=>exact h
 |fn x F=>exact h
 |own x t=>exact h
theorem Em.vws(E:Em ρ a b):∀{l:η CV}{ds:η Dt},vws a l=ς ds->vws b (l.map (rn ρ))=ς ds
 |[],ds,h=>h
 |c::l,ds,h=>by obtain⟨d,h1,h2⟩:=bS h;obtain⟨es,O,rfl⟩:=mS h2;show(L2.vw b (rn ρ c)).bind _=_;rw[E.vw h1,qa0,E.vws O];rfl
theorem Em.push(E:Em ρ a b)(o:CO):Em ρ (a++[o]) (b++[rnO ρ o])/\Kp ρ b (b++[rnO ρ o])/\ρ a.length=b.length:=by
 have U:ρ a.length=b.length:=E.nw 0;refine⟨⟨E.inj,fun {i w} h=>?_,fun k=>?_⟩,fun j Z=>?_,U⟩
 .rcases qj9 i a.length with hi|hi
  .rw[gL hi]at h;have:=E.get h;rw[gL (ao this)];exact this
  .have O:i=a.length:=by have:=ao h;simp at this;lia
   subst O;simp at h;subst h;rw[U];simp
 .have:=E.nw (k+1);simp only[qc5,qi8];rw[show a.length+1+k=a.length+(k+1)by lia,this];lia
 .have W:j≠b.length:=fun e=>Z _ (U.trans e.symm)
  rcases qj9 j b.length with hi|hi
  .rw[gL hi]
  .rw[qh1 (by simp;lia),qh1 hi]
theorem Em.set(E:Em ρ a b){w:CO}(U:a[i]?=ς w)(o:CO):Em ρ (a.set i o) (b.set (ρ i) (rnO ρ o))/\Kp ρ b (b.set (ρ i) (rnO ρ o)):=by
 refine⟨⟨E.inj,fun {j u} h=>?_,fun k=>by simpa using E.nw k⟩,fun j O=>by rw[qt6 (O i)]⟩;by_cases O:i=j
 .subst O;rw[qe5 (ao U)]at h;cases h;rw[qe5 (ao (E.get U))]
 .rw[gN O]at h;rw[gN (fun e=>O (E.inj _ _ e))];exact E.get h
theorem Em.al(E:Em ρ a b){t:T}{x:CV}(h:al a t=ς (x,a')):Go ρ b (al b t) (rn ρ x) a':=by
 have O:∀o:CO,rnO ρ o=o->(CV.ref a.length,a++[o])=(x,a')->Go ρ b (ς (.ref b.length,b++[o])) (rn ρ x) a':=fun o ho e=>by cases e;obtain⟨h1,h2,W⟩:=E.push o;rw[ho]at h1 h2;exact⟨_,by rw[<- W];rfl,h1,h2⟩
 have Z:∀l:η Dt,rnO ρ (.e (l.map .g))=.e (l.map .g):=fun l=>by simp[rnO,rn,qb4]
 unfold L2.al at h ⊢;split at h
 .cases h;exact .here E
 .exact O _ (Z _) (qc9 h)
 .split at h
  .rename_i U;simp only[U,if_true];exact O _ (by simp[rnO,rn,rnP,qb4]) (qc9 h)
  .cases h
 .split at h
  .rename_i U;simp only[U,if_true];exact O _ (by simp[rnO,rn,rnP,qb4]) (qc9 h)
  .cases h
 .cases h
theorem Em.fin(E:Em ρ a b){t:T}{x:CV}(h:fin m a t=ς (x,a')):Go ρ b (fin m b t) (rn ρ x) a':=by
 cases m with
 |v=>obtain⟨d,h1,h2⟩:=mS h;cases h2;exact⟨b,by show t.d.map _=_;rw[h1];rfl,E,.refl⟩
 |o=>exact E.al h
 |w=>
  unfold L2.fin at h ⊢;dsimp only at h ⊢;split at h<;>cases h
  rename_i O;rw[if_pos O];exact .here E
theorem Em.finL(E:Em ρ a b){l:η CV}{x:CV}(h:finL m l a=ς (x,a')):Go ρ b (finL m (rnA ρ l) b) (rn ρ x) a':=by
 unfold L2.finL at h ⊢;rw[cS,kG];split at h
 .exact E.fin h
 .split at h<;>cases h
  rename_i hl;obtain⟨h1,h2,O⟩:=E.push (.e l);rw[if_pos hl];exact⟨_,by rw[<- O];rfl,h1,h2⟩
theorem nC{c:CV}(h:δ[i]?=ς (ς c)):(rnS ρ δ)[i]?=ς (ς (rn ρ c)):=by simp[h]
theorem oQ{κ:Type}[DecidableEq κ]{k:κ}:∀l:η (κ×CV),lkC (rnP ρ l) k=(lkC l k).map (rn ρ)
 |[]=>rfl
 |p::l=>by
  have O:=oQ (k:=k) l;by_cases h:p.1=k
  .simp[lkC,rnP,qy4,h]
  .simp only[lkC,rnP,qa3,qy4,h,decide_false]at O ⊢;exact O
theorem B0{α β:Type}{f:α->β}{l:η α}{i:Int}:atI (l.map f) i=(atI l i).map f:=by unfold atI;simp only[qa4,qa8,Option.map_bind];rfl
theorem B1{o:CO}{d:Dt}:ixO (rnO ρ o) d=(ixO o d).map (rn ρ):=by
 cases o with
 |e l|t l=>simp only[ixO,rnO];cases asI d<;>simp[B0]
 |dK l=>simp only[ixO,rnO];cases cX d<;>simp[oQ]
 |dT l=>simp only[ixO,rnO];cases isK d<;>simp[oQ]
 |ins c l=>rfl
theorem Em.ixV(E:Em ρ a b){d:Dt}{x:CV}(h:ixV a c d=ς x):ixV b (rn ρ c) d=ς (rn ρ x):=by
 cases c with
 |ref i=>obtain⟨o,h1,h2⟩:=bS h;show(b[ρ i]?).bind _=_;rw[E.get h1,qa0,B1,h2];rfl
 |g d'=>unfold L2.ixV at h ⊢;obtain⟨z,h1,h2⟩:=bS h;obtain⟨y,O,rfl⟩:=mS h2;exact h
 |fn z F=>cases h
 |own z t=>unfold L2.ixV at h ⊢;obtain⟨z,h1,h2⟩:=bS h;obtain⟨y,O,rfl⟩:=mS h2;exact h
end
variable{ρ:Nat->Nat}{a b:CH}{src:η (ζ Nat)}{fi:FM (η Dt)}
section
variable{f fa fb fk fe:Fg}{ft fu:FM Bool}{fs:FM (η CV)}{m:Md}{F:Fd}
theorem tr_K{d:Dt}:Tr rn (eK d):=fun E h=>by cases h;exact .here E
theorem tr_V:Tr rn (eV i):=fun {ρ δ a x a' b} E h=>by
 unfold eV at h ⊢;split at h<;>cases h
 rename_i c hc;rw[nC hc];dsimp only;rw[oO];exact .here E
theorem tr_2{g:Dt->Dt->ζ T}(ha:Tr rn fa)(hb:Tr rn fb):Tr rn (e2 m g fa fb):=fun E h=>by
 obtain⟨p,h1,h⟩:=bS h;obtain⟨q,h2,h⟩:=bS h;obtain⟨x,U,h⟩:=bS h;obtain⟨y,h4,h⟩:=bS h;obtain⟨t,W,h⟩:=bS h;refine(ha E h1).bind fun b1 Z=>(hb Z h2).bind fun b2 O=>?_
 dsimp only;rw[O.vw U,qa0,O.vw h4,qa0,W];exact O.fin h
theorem ud(U:Tr rn f):Tr rI (aL f):=fun E h=>by
 obtain⟨p,h1,h⟩:=bS h;obtain⟨x,O,h⟩:=mS h;cases h;refine(U E h1).bind fun b1 W=>?_
 dsimp only;rw[uc,O];exact .here W
theorem B2(W:Tr rn f):Tr rI (cq f):=fun E h=>by
 obtain⟨p,h1,h⟩:=bS h;obtain⟨d,h2,h⟩:=bS h;obtain⟨x,U,h⟩:=mS h;cases h;refine(W E h1).bind fun b1 O=>?_
 dsimp only;rw[O.vw h2,qa0,U];exact .here O
theorem Ei(O:Tr rI ft):Tr rI (tNt ft):=fun E h=>by obtain⟨p,h1,h⟩:=mS h;cases h;exact(O E h1).map fun _=>rfl
theorem Ej(U:Tr rI ft)(hb:Tr rI fu):Tr rI (tAn ft fu):=fun E h=>by
 obtain⟨p,h1,h⟩:=bS h;refine(U E h1).bind fun b1 O=>?_
 dsimp only;split at h
 .rename_i hp;rw[if_pos hp];exact hb O h
 .rename_i hp;rw[if_neg hp];cases h;exact .here O
theorem Ek(U:Tr rI ft)(hb:Tr rI fu):Tr rI (iT ft fu):=fun E h=>by
 obtain⟨p,h1,h⟩:=bS h;refine(U E h1).bind fun b1 O=>?_
 dsimp only;split at h
 .rename_i hp;rw[if_pos hp];cases h;exact .here O
 .rename_i hp;rw[if_neg hp];exact hb O h
theorem El:Tr rI tYs:=fun E h=>by cases h;exact .here E
theorem B3(U:Tr rn fa)(hb:Tr rn fb):Tr rn (eAn fa fb):=fun E h=>by
 obtain⟨p,h1,h⟩:=bS h;obtain⟨x,h2,h⟩:=bS h;refine(U E h1).bind fun b1 O=>?_
 dsimp only;rw[uc,h2,qa0];split at h
 .rename_i hp;rw[if_pos hp];exact hb O h
 .rename_i hp;rw[if_neg hp];cases h;exact .here O
theorem B4(O:Tr rn f):Tr rn (eNt f):=fun E h=>by
 obtain⟨p,h1,h⟩:=bS h;obtain⟨x,h2,h⟩:=bS h;cases h;refine(O E h1).bind fun b1 U=>?_
 dsimp only;rw[uc,h2,qa0];exact .here U
theorem B5(O:Tr rn f):Tr rn (eNg f):=fun E h=>by
 obtain⟨p,h1,h⟩:=bS h;obtain⟨x,h2,h⟩:=bS h;cases h;refine(O E h1).bind fun b1 U=>?_
 dsimp only;rw[iA,h2,qa0];exact .here U
theorem B6(U:Tr rI ft)(W:Tr rn fa)(hb:Tr rn fb):Tr rn (eIf ft fa fb):=fun E h=>by
 obtain⟨p,h1,h⟩:=bS h;refine(U E h1).bind fun b1 O=>?_
 dsimp only;split at h
 .rename_i hp;rw[if_pos hp];exact W O h
 .rename_i hp;rw[if_neg hp];exact hb O h
theorem Eo:Tr rnA aNl:=fun E h=>by cases h;exact .here E
theorem Ep(O:Tr rn f)(hs:Tr rnA fs):Tr rnA (aCn f fs):=fun E h=>by obtain⟨p,h1,h⟩:=bS h;obtain⟨q,h2,h⟩:=mS h;cases h;exact(O E h1).bind fun b1 U=>(hs U h2).map fun _=>rfl
theorem Er(Z:Tr rn fa)(hb:Tr rn fb):Tr rn (eIx fa fb):=fun E h=>by
 obtain⟨p,h1,h⟩:=bS h;obtain⟨q,h2,h⟩:=bS h;obtain⟨d,U,h⟩:=bS h;obtain⟨c,h4,h⟩:=mS h;cases h;refine(Z E h1).bind fun b1 W=>(hb W h2).bind fun b2 O=>?_
 dsimp only;rw[O.vw U,qa0,O.ixV h4];exact .here O
theorem Es{c:Nat}(W:Tr rn fa):Tr rn (eAt c i fa):=fun {ρ _ _ _ _ _} E h=>by
 obtain⟨p,h1,h⟩:=bS h;refine(W E h1).bind fun b1 O=>?_
 split at h<;>first|(cases h;done)|skip
 rename_i j U;split at h<;>first|(cases h;done)|skip
 rename_i Z l hl;split at h<;>first|(cases h;done)|skip
 rename_i hc;obtain⟨x,h2,h⟩:=mS h;cases h;rw[U];simp only[b8,O.get hl,rnO,hc,if_true,qa8,h2,qb2];exact .here O
theorem Et(hs:Tr rnA fs):Tr rn (eLs m fs):=fun E h=>by
 obtain⟨p,h1,h⟩:=bS h;split at h<;>first|(cases h;done)|skip
 rename_i hl;refine(hs E h1).bind fun b1 O=>?_
 dsimp only;rw[if_pos (by simpa using hl)];exact O.finL h
theorem Eu(hs:Tr rnA fs):Tr rn (eTu fs):=fun {ρ _ _ _ _ _} E h=>by
 obtain⟨p,h1,h⟩:=bS h;split at h<;>first|(cases h;done)|skip
 rename_i hl;refine(hs E h1).bind fun b1 O=>?_
 dsimp only;rw[if_pos (by simpa using hl),cS,kG];split at h
 .cases h;exact .here O
 .split at h<;>cases h
  rename_i hs;obtain⟨W,k2,U⟩:=O.push (.t p.1);rw[if_pos hs];exact⟨_,by rw[<- U];rfl,W,k2⟩
theorem zk(O:TrD F)(hs:Tr rnA fs):Tr rn (eCa n F fs):=fun E h=>by
 obtain⟨p,h1,h⟩:=bS h;unfold kCa at h;split at h<;>first|(cases h;done)|skip
 rename_i hl;refine(hs E h1).bind fun b1 U=>?_
 dsimp only;unfold kCa;rw[if_pos ⟨by rw[qa4];exact hl.1,by rw[kH];exact hl.2⟩];exact O U h
theorem Ev{d:Int}(hs:Tr rnA fs):Tr rnA (aDf d fs):=fun E h=>by obtain⟨p,h1,h⟩:=mS h;cases h;exact(hs E h1).map fun _=>by simp[rn]
theorem Ew{c:Nat}(W:TrD F)(ha:Tr rn fa)(hs:Tr rnA fs):Tr rn (eMe c n F fa fs):=fun {ρ _ _ _ _ _} E h=>by
 obtain⟨p,h1,h⟩:=bS h;refine(ha E h1).bind fun b1 O=>?_
 split at h<;>first|(cases h;done)|skip
 rename_i j hj;split at h<;>first|(cases h;done)|skip
 rename_i c' l hl;split at h<;>first|(cases h;done)|skip
 rename_i hc;obtain⟨q,h2,h⟩:=bS h;unfold kCa at h;split at h<;>first|(cases h;done)|skip
 rename_i U;rw[hj];simp only[b8,O.get hl,rnO,hc,if_true];refine(hs O h2).bind fun b2 Z=>?_
 unfold kCa;have e:(CV.ref (ρ j)::rnA ρ q.1)=rnA ρ (.ref j::q.1):=rfl;rw[e,if_pos ⟨by rw[qa4];exact U.1,by rw[kH];exact U.2⟩];exact W Z h
theorem Ex{c:Nat}(hF:TrD F)(hs:Tr rnA fs):Tr rn (eMk c n F fs):=fun {ρ _ _ _ _ _} E h=>by
 obtain⟨p,h1,h⟩:=bS h;obtain⟨q,h2,h⟩:=bS h;unfold kCa at h2;split at h2<;>first|(cases h2;done)|skip
 rename_i Z;split at h<;>first|(cases h;done)|skip
 rename_i hq;split at h<;>cases h
 rename_i hlt;refine(hs E h1).bind fun b1 U=>?_
 obtain⟨k1,k2,W⟩:=U.push (.ins c []);obtain⟨b2,O,E2,f2⟩:=hF k1 h2;rw[hq]at O;refine⟨b2,?_,E2,k2.trans f2⟩;have e:(CV.ref b1.length::rnA ρ p.1)=rnA ρ (.ref p.2.length::p.1):=by rw[<- W];rfl
 dsimp only;unfold kCa;rw[e,if_pos ⟨by rw[qa4];exact Z.1,by rw[kH];exact Z.2⟩];have e2:b1++[CO.ins c []]=b1++[rnO ρ (.ins c [])]:=rfl;rw[e2,O,qa0];have e3:=E2.nw 0;have e4:=U.nw (q.2.length-p.2.length);rw[show p.2.length+(q.2.length-p.2.length)=q.2.length+0 by lia,e3]at e4;have:b1.length<b2.length:=by lia
 simp only[rn];rw[if_pos this,W]
theorem zl{o:ζ Fg}(O:∀f,o=ς f->Tr rn f):Tr rI (fOp o):=fun E h=>by
 cases o with
 |none=>cases h;exact .here E
 |some f=>
  obtain⟨p,h1,h⟩:=bS h;obtain⟨i,h2,h⟩:=mS h;cases h;refine(O f rfl E h1).bind fun b1 U=>?_
  dsimp only;rw[iA,h2];exact .here U
theorem Ey{lo hi:ζ Fg}(ha:Tr rn fa)(hl:∀f,lo=ς f->Tr rn f)(hh:∀f,hi=ς f->Tr rn f):Tr rn (eSl m fa lo hi):=fun E h=>by
 obtain⟨p,h1,h⟩:=bS h;obtain⟨q,h2,h⟩:=bS h;obtain⟨r,U,h⟩:=bS h;obtain⟨d,h4,h⟩:=bS h;obtain⟨t,Z,h⟩:=bS h;refine(ha E h1).bind fun b1 E1=>(zl hl E1 h2).bind fun b2 W=>(zl hh W U).bind fun b3 O=>?_
 dsimp only;rw[O.vw h4,qa0,Z];exact O.fin h
theorem tr_B{g:η Dt->ζ T}(hs:Tr rnA fs):Tr rn (eB m g fs):=fun E h=>by
 obtain⟨p,h1,h⟩:=bS h;obtain⟨ds,h2,h⟩:=bS h;obtain⟨t,U,h⟩:=bS h;refine(hs E h1).bind fun b1 O=>?_
 dsimp only;unfold kB;rw[O.vws h2,qa0,U];exact O.fin h
theorem Ez{c:String}(U:Tr rn f):Tr rn (eIs c f):=fun E h=>by
 obtain⟨p,h1,h⟩:=bS h;obtain⟨d,h2,h⟩:=bS h;cases h;refine(U E h1).bind fun b1 O=>?_
 dsimp only;rw[O.vw h2,qa0];exact .here O
theorem EA{g:Dt->η Dt->ζ T}(ha:Tr rn fa)(hs:Tr rnA fs):Tr rn (eMt m g fa fs):=fun E h=>by
 obtain⟨p,h1,h⟩:=bS h;refine(ha E h1).bind fun b1 Z=>?_
 split at h<;>first|(cases h;done)|skip
 rename_i z W;obtain⟨q,h2,h⟩:=bS h;obtain⟨ds,U,h⟩:=bS h;obtain⟨t,h4,h⟩:=bS h;rw[W];simp only[rn];refine(hs Z h2).bind fun b2 O=>?_
 dsimp only;rw[O.vws U,qa0,h4];exact O.fin h
theorem EB{t:Bool}:Tr rn (eDn m t):=fun E h=>E.fin h
theorem EC{c:CV}(E:Em ρ a b)(h:km a c=θ):km b (rn ρ c)=θ:=by
 unfold km at h ⊢;cases c with
 |ref i=>
  dsimp only[rn]at h ⊢;cases q:a[i]? with
  |none=>rw[q]at h;cases h
  |some o=>rw[E.get q];rw[q]at h;cases o<;>first|rfl|cases h
 |g d=>exact h
 |fn x F=>exact h
 |own x t=>exact h
theorem Em.getV{c z x:CV}{k:Dt}(E:Em ρ a b)(h:getV a c k z=ς x):getV b (rn ρ c) k (rn ρ z)=ς (rn ρ x):=by
 unfold L2.getV at h ⊢;cases c with
 |ref i=>
  dsimp only[rn]at h ⊢;cases q:a[i]? with
  |none=>rw[q]at h;cases h
  |some o=>
   rw[E.get q];rw[q]at h;cases o<;>first|(cases h;done)|skip
   all_goals
    obtain⟨k',h1,rfl⟩:=mS h;simp only[rnO,h1,qb2,oQ];rename_i l;cases lkC l k'<;>rfl
 |g d=>obtain⟨y,h1,h⟩:=bS h;obtain⟨r,h2,rfl⟩:=mS h;dsimp only[rn];cases h1;simp only[L2.vw,qa0,h2,qb2];cases r<;>rfl
 |fn x F=>cases h
 |own w t=>obtain⟨y,h1,h⟩:=bS h;obtain⟨r,h2,rfl⟩:=mS h;dsimp only[rn];have h1:t.d=ς y:=h1;simp only[L2.vw,h1,qa0,h2,qb2];cases r<;>rfl
theorem ED(ha:Tr rn fa)(hk:Tr rn fk)(he:Tr rn fe):Tr rn (eGt fa fk fe):=fun E h=>by
 obtain⟨p,h1,h⟩:=bS h;split at h<;>first|(cases h;done)|skip
 rename_i hd;obtain⟨q,h2,h⟩:=bS h;obtain⟨r,W,h⟩:=bS h;obtain⟨k,h4,h⟩:=bS h;split at h<;>first|(cases h;done)|skip
 rename_i hs;obtain⟨c,h5,h⟩:=mS h;cases h;refine(ha E h1).bind fun b1 U=>?_
 dsimp only;rw[if_pos (EC U hd)];refine(hk U h2).bind fun b2 Z=>(he Z W).bind fun b3 O=>?_
 dsimp only;rw[O.vw h4,qa0,ee,if_pos hs,O.getV h5];exact .here O
theorem Em.itm{c:CV}{l:η (η Key×Dt)}(E:Em ρ a b)(h:nr a c=ς l):nr b (rn ρ c)=ς l:=by
 unfold nr at h ⊢;cases c with
 |ref i=>
  dsimp only[rn]at h ⊢;cases q:a[i]? with
  |none=>rw[q]at h;cases h
  |some o=>
   rw[E.get q];rw[q]at h;cases o<;>first|(cases h;done)|skip
   rename_i w;have e:rnP ρ w=w.map fun p=>(p.1,rn ρ p.2):=rfl
   have O:(rnP ρ w).map (·.2)=(w.map (·.2)).map (rn ρ):=by simp[qb4]
   have e2:(rnP ρ w).map (·.1)=w.map (·.1):=by simp[qb4]
   simp only[rnO,O,e2,cS];exact h
 |g d=>exact h
 |fn x F=>exact h
 |own w t=>cases t<;>exact h
theorem EE(U:Tr rn fa):Tr rn (eIl m fa):=fun E h=>by
 obtain⟨p,h1,h⟩:=bS h;obtain⟨l,h2,h⟩:=bS h;refine(U E h1).bind fun b1 O=>?_
 dsimp only;rw[O.itm h2,qa0];exact O.fin h
theorem Em.lst{l:η CV}(E:Em ρ a b)(h:eQ a i=ς l):eQ b (ρ i)=ς (rnA ρ l)/\a[i]?=ς (.e l):=by
 unfold eQ at h ⊢;split at h<;>cases h
 rename_i q;rw[E.get q];exact⟨rfl,q⟩
theorem fZ{α β:Type}(f:α->β):∀(l:η α)(i:Nat),(l.map f).eraseIdx i=(l.eraseIdx i).map f
 |[],_=>rfl
 |_::_,0=>rfl
 |x::l,i+1=>by simp only[qa3,List.eraseIdx_cons_succ,fZ f l i]
theorem B7(ha:Tr rn fa)(he:Tr rn fe):Tr rn (qB fa fe):=fun {ρ _ _ _ _ _} E h=>by
 obtain⟨p,h1,h⟩:=bS h;obtain⟨q,h2,h⟩:=bS h;split at h<;>first|(cases h;done)|skip
 rename_i i hi;obtain⟨l0,W,h⟩:=bS h;obtain⟨l,h4,h⟩:=bS h;obtain⟨j,Z,h⟩:=bS h;split at h<;>first|(cases h;done)|skip
 rename_i hj;obtain⟨c,h6,h⟩:=mS h;cases h;refine(ha E h1).bind fun b1 U=>(he U h2).bind fun b2 O=>?_
 obtain⟨k1,k2⟩:=O.set (O.lst h4).2 (.e (l.eraseIdx j.toNat));rw[hi];simp only[b8,(U.lst W).1,(O.lst h4).1,qa0,iA,Z,qa4];rw[if_pos hj];simp only[qa8,h6,qb2];refine⟨_,rfl,?_,?_⟩
 .rw[fZ];exact k1
 .rw[fZ];exact k2
theorem Em.seq{c:CV}{l:η CV}(E:Em ρ a b)(h:kx a c=ς l):kx b (rn ρ c)=ς (rnA ρ l):=by
 have O:∀l:η Dt,rnA ρ (l.map .g)=l.map .g:=fun l=>by simp[rn,qb4]
 unfold kx at h ⊢;cases c with
 |ref i=>
  dsimp only[rn]at h ⊢;cases q:a[i]? with
  |none=>rw[q]at h;cases h
  |some o=>rw[E.get q];rw[q]at h;cases o<;>first|(cases h;done)|(cases h;rfl)
 |g d=>cases d<;>first|(cases h;done)|(cases h;rw[O];rfl)
 |fn x F=>cases h
 |own w t=>cases t<;>first|(cases h;done)|(cases h;rw[O];rfl)
theorem Em.pair{c:CV}{p:Key×CV}(E:Em ρ a b)(h:cF a c=ς p):cF b (rn ρ c)=ς (p.1,rn ρ p.2):=by
 cases c with
 |ref i=>
  unfold cF at h ⊢;dsimp only[rn]at h ⊢;split at h<;>first|(cases h;done)|skip
  rename_i k c hc;obtain⟨k',h1,rfl⟩:=mS h;rw[E.get hc];simp only[rnO,qa3,qe0,rn,h1,qb2]
 |g d=>
  unfold cF at h;split at h<;>first|(cases h;done)|skip
  .rename_i k d e;cases e;obtain⟨k',h1,rfl⟩:=mS h;simp only[cF,rn,h1,qb2]
  .rename_i e;cases e
 |fn x F=>cases h
 |own w t=>cases h
theorem Em.pairs(E:Em ρ a b):∀{l:η CV}{ps:η (Key×CV)},bc a l=ς ps->bc b (rnA ρ l)=ς (rnP ρ ps)
 |[],ps,h=>by cases h;rfl
 |c::l,ps,h=>by obtain⟨p,h1,h⟩:=bS h;obtain⟨O,h2,rfl⟩:=mS h;show(cF b (rn ρ c)).bind _=_;rw[E.pair h1,qa0,E.pairs h2];rfl
theorem EF(ha:Tr rn fa):Tr rn (eDc m fa):=fun {ρ _ _ _ _ _} E h=>by
 obtain⟨p,h1,h⟩:=bS h;obtain⟨l,h2,h⟩:=bS h;obtain⟨ps,U,h⟩:=bS h;split at h<;>first|(cases h;done)|skip
 rename_i hn;refine(ha E h1).bind fun b1 O=>?_
 have e1:(rnP ρ ps).map (·.2)=(ps.map (·.2)).map (rn ρ):=by simp[qb4]
 have e2:(rnP ρ ps).map (·.1)=ps.map (·.1):=by simp[qb4]
 dsimp only;rw[O.seq h2,qa0,O.pairs U,qa0,e2,if_pos hn];unfold lJ at h ⊢;rw[e1,e2,cS,kG];split at h
 .exact O.fin h
 .split at h
  rotate_left
  .cases h
  rename_i hl;cases h;obtain⟨W,k2,Z⟩:=O.push (.dK ps);rw[if_pos hl];exact⟨_,by rw[<- Z];rfl,W,k2⟩
theorem EG(U:Tr rn f):Tr rI (iE f):=fun E h=>by
 obtain⟨p,h1,h⟩:=bS h;refine(U E h1).bind fun b1 W=>?_
 split at h<;>first|(cases h;done)|skip
 rename_i d O;obtain⟨l,h2,h⟩:=mS h;cases h;rw[O];simp only[rn,h2,qb2];exact .here W
theorem EH(hs:Tr rnA fs):Tr rI (iR n fs):=fun E h=>by
 obtain⟨p,h1,h⟩:=bS h;obtain⟨is,h2,h⟩:=bS h;obtain⟨l,O,h⟩:=mS h;cases h;refine(hs E h1).bind fun b1 U=>?_
 dsimp only;rw[oP,h2,qa0,O];exact .here U
theorem EI(U:Tr rn f):Tr rI (iN f):=fun E h=>by
 obtain⟨p,h1,h⟩:=bS h;refine(U E h1).bind fun b1 W=>?_
 split at h<;>first|(cases h;done)|skip
 all_goals
  rename_i d O;cases h;rw[O];exact .here W
theorem oR{ρ:Nat->Nat}:∀{is:η Nat}{ds:η Dt}{δ δ':Sl},gu is ds δ=ς δ'->gu is ds (rnS ρ δ)=ς (rnS ρ δ')
 |[],[],δ,δ',h=>by cases h;rfl
 |i::is,d::ds,δ,δ',h=>by have:=oR (ρ:=ρ) (is:=is) (ds:=ds) h;simp only[rnS,qr1,qb2,rn]at this;exact this
 |[],_::_,_,_,h=>by cases h
 |_::_,[],_,_,h=>by cases h
theorem nE{pt:Pt}{d:Dt}{δ':Sl}(h:bnd pt d δ=ς δ'):bnd pt d (rnS ρ δ)=ς (rnS ρ δ'):=by
 cases pt with
 |one i=>cases h;simp only[bnd,rnS,qr1,qb2,rn]
 |many is=>cases d<;>first|(cases h;done)|exact oR h
theorem EJ:gC src (rnS ρ δ)=rnS ρ (gC src δ):=by
 unfold gC rnS;rw[qd4];refine qn2 fun o _=>?_
 cases o with
 |none=>rfl
 |some j=>
  show((zg2 (zc9 (rn ρ)) δ)[j]?.join).map lent=(((δ[j]?).join).map lent).map (rn ρ);rw[qa8];cases q:δ[j]? with
  |none=>rfl
  |some x=>cases x with
   |none=>rfl
   |some c=>show ς (lent (rn ρ c))=ς (rn ρ (lent c));rw[oO]
theorem kJ{pt:Pt}(O:Tr rI ft)(U:Tr rn fe):∀{l:η Dt}{a b:CH}{x:η CV}{a':CH},Em ρ a b->aH (bnd pt) ft fe δ l a=ς (x,a')->Go ρ b (aH (bnd pt) ft fe (rnS ρ δ) l b) (rnA ρ x) a'
 |[],a,b,x,a',E,h=>by cases h;exact .here E
 |d::l,a,b,x,a',E,h=>by
  obtain⟨δ1,h1,h⟩:=bS h;obtain⟨p,h2,h⟩:=bS h;show Go ρ b ((bnd pt d (rnS ρ δ)).bind _) _ _;rw[nE h1,qa0];refine(O E h2).bind fun b1 W=>?_
  dsimp only;split at h
  .rename_i hp;rw[if_pos hp];obtain⟨q,Z,h⟩:=bS h;split at h<;>first|(cases h;done)|skip
   rename_i hs;obtain⟨z,h4,h⟩:=mS h;cases h;refine(U W Z).bind fun b2 E2=>?_
   dsimp only;rw[ee,if_pos hs];exact(kJ O U E2 h4).map fun _=>rfl
  .rename_i hp;rw[if_neg hp];exact kJ O U W h
theorem EK{pt:Pt}(hi:Tr rI fi)(O:Tr rI ft)(U:Tr rn fe):Tr rn (eCo m src fi (bnd pt) ft fe):=fun E h=>by
 obtain⟨p,h1,h⟩:=bS h;obtain⟨q,h2,h⟩:=bS h;split at h<;>first|(cases h;done)|skip
 rename_i hl;refine(hi E h1).bind fun b1 Z=>?_
 dsimp only;rw[EJ];refine(kJ O U Z h2).bind fun b2 W=>?_
 dsimp only;rw[if_pos (by simpa using hl)];exact W.finL h
end
def Og.hp:Og->CH
 |.nx _ ch|.rt _ ch|.bk _ ch|.ct _ ch=>ch
def Og.mv(ρ:Nat->Nat)(b:CH):Og->Og
 |.nx δ _=>.nx (rnS ρ δ) b
 |.rt c _=>.rt (rn ρ c) b
 |.bk δ _=>.bk (rnS ρ δ) b
 |.ct δ _=>.ct (rnS ρ δ) b
def GoS(ρ:Nat->Nat)(b:CH)(y:ζ Og)(o:Og):Prop:=∃b',y=ς (o.mv ρ b')/\Em ρ o.hp b'/\Kp ρ b b'
def TrS(g:Fs):Prop:=∀{ρ δ a o b},Em ρ a b->g δ a=ς o->GoS ρ b (g (rnS ρ δ) b) o
section
variable{ρ:Nat->Nat}{a b:CH}{α:Type}
theorem Go.bindS{y:ζ (α×CH)}{x:α}{k:α×CH->ζ Og}{o:Og}(h:Go ρ b y x a')(O:∀b',Em ρ a' b'->GoS ρ b' (k (x,b')) o):GoS ρ b (y.bind k) o:=by obtain⟨b1,rfl,E,f⟩:=h;obtain⟨b2,h2,W,U⟩:=O b1 E;exact⟨b2,h2,W,f.trans U⟩
theorem GoS.bind{y:ζ Og}{o' o:Og}{k:Og->ζ Og}(h:GoS ρ b y o')(O:∀b',Em ρ o'.hp b'->GoS ρ b' (k (o'.mv ρ b')) o):GoS ρ b (y.bind k) o:=by obtain⟨b1,rfl,E,f⟩:=h;obtain⟨b2,h2,W,U⟩:=O b1 E;exact⟨b2,h2,W,f.trans U⟩
theorem GoS.nx(E:Em ρ a b):GoS ρ b (ς (.nx (rnS ρ δ) b)) (.nx δ a):=⟨b,rfl,E,.refl⟩
theorem GoS.rt{c:CV}(E:Em ρ a b):GoS ρ b (ς (.rt (rn ρ c) b)) (.rt c a):=⟨b,rfl,E,.refl⟩
theorem GoS.put{w o:CO}(E:Em ρ a b)(O:a[i]?=ς w):GoS ρ b (ς (.nx (rnS ρ δ) (b.set (ρ i) (rnO ρ o)))) (.nx δ (a.set i o)):=let ⟨h1,h2⟩:=E.set O o;⟨_,rfl,h1,h2⟩
end
variable{o':CO}
section
variable{f fa fb fk fe:Fg}{ft fu:FM Bool}{fs:FM (η CV)}{m:Md}{F:Fd}{g g1 g2:Fs}{i:Nat}
theorem B8:TrS ar:=fun E h=>by cases h;exact .nx E
theorem B9(h1:TrS g1)(h2:TrS g2):TrS (aj g1 g2):=fun E h=>by
 obtain⟨o,U,h⟩:=bS h;refine(h1 E U).bind fun b1 O=>?_
 cases o with
 |nx δ ch=>exact h2 O h
 |_=>cases h;exact⟨b1,rfl,O,.refl⟩
theorem kK{c:CV}:rnS ρ (δ.set i (ς c))=(rnS ρ δ).set i (ς (rn ρ c)):=by simp only[rnS,qr1,qb2]
theorem EL(U:TrS g):TrS (sFz i g):=fun {ρ δ a o b} E h=>by
 unfold sFz at h ⊢;split at h<;>first|(cases h;done)|skip
 rename_i t O;obtain⟨d,h1,h⟩:=bS h;rw[nC O];simp only[rn,h1,qa0];have:=U E h;rw[kK]at this;exact this
theorem EM(O:Tr rn f):TrS (sDr f):=fun E h=>by obtain⟨p,h1,rfl⟩:=mS h;obtain⟨b1,h2,U,k⟩:=O E h1;exact⟨b1,by unfold sDr;rw[h2];rfl,U,k⟩
theorem EN(U:Tr rn f):TrS (sRt f):=fun E h=>by
 obtain⟨p,h1,h⟩:=bS h;split at h<;>cases h
 rename_i O;refine(U E h1).bindS fun b1 W=>?_
 dsimp only;rw[ee,if_pos O];exact .rt W
theorem EO:TrS sRn:=fun E h=>by cases h;exact⟨_,rfl,E,.refl⟩
theorem EQ(U:Tr rI ft)(h1:TrS g1)(h2:TrS g2):TrS (sIf ft g1 g2):=fun E h=>by
 obtain⟨p,W,h⟩:=bS h;refine(U E W).bindS fun b1 O=>?_
 dsimp only;split at h
 .rename_i hp;rw[if_pos hp];exact h1 O h
 .rename_i hp;rw[if_neg hp];exact h2 O h
theorem Ca(U:Tr rn f):TrS (aO i f):=fun E h=>by
 obtain⟨p,h1,h⟩:=bS h;split at h<;>cases h
 rename_i O;refine(U E h1).bindS fun b1 W=>?_
 dsimp only;rw[Eh,if_pos O,<- kK];exact .nx W
theorem kL{pt:Pt}(W:TrS g):∀{l:η Dt}{δ:Sl}{a b:CH}{o:Og},Em ρ a b->bK (bnd pt) g l δ a=ς o->GoS ρ b (bK (bnd pt) g l (rnS ρ δ) b) o
 |[],δ,a,b,o,E,h=>by cases h;exact .nx E
 |d::l,δ,a,b,o,E,h=>by
  obtain⟨Z,h1,h⟩:=bS h;obtain⟨o1,h2,h⟩:=bS h;show GoS ρ b ((bnd pt d (rnS ρ δ)).bind _) _;rw[nE h1,qa0];refine(W E h2).bind fun b1 U=>?_
  cases o1 with
  |nx O ch2=>exact kL W U h
  |ct O ch2=>exact kL W U h
  |bk O ch2=>cases h;exact .nx U
  |rt c ch2=>cases h;exact .rt U
theorem Cb{pt:Pt}(hi:Tr rI fi)(U:TrS g):TrS (na fi (bnd pt) g):=fun E h=>by obtain⟨p,h1,h⟩:=bS h;exact(hi E h1).bindS fun b1 O=>kL U O h
theorem ue(W:Tr rI ft)(Z:TrS g):∀{n:Nat},TrS (whZ ft g n)
 |0,_,_,_,_,_,_,h=>by cases h
 |n+1,ρ,δ,a,o,b,E,h=>by
  obtain⟨p,h1,h⟩:=bS h;refine(W E h1).bindS fun b1 E1=>?_
  dsimp only;split at h
  .rename_i hp;rw[if_pos hp];obtain⟨o1,h2,h⟩:=bS h;refine(Z E1 h2).bind fun b2 U=>?_
   cases o1 with
   |nx O ch2=>exact ue W Z U h
   |ct O ch2=>exact ue W Z U h
   |bk O ch2=>cases h;exact .nx U
   |rt c ch2=>cases h;exact .rt U
  .rename_i hp;rw[if_neg hp];cases h;exact .nx E1
theorem oS{κ:Type}[DecidableEq κ]{ρ:Nat->Nat}{k:κ}{c:CV}:∀l:η (κ×CV),b6 (rnP ρ l) k (rn ρ c)=rnP ρ (b6 l k c)
 |[]=>rfl
 |p::l=>by
  have O:=oS (ρ:=ρ) (k:=k) (c:=c) l;simp only[b6,rnP,qa3]at O ⊢;split
  .rfl
  .rw[O];rfl
theorem xp{o:CO}{d:Dt}{c:CV}(h:ni o d c=ς o'):ni (rnO ρ o) d (rn ρ c)=ς (rnO ρ o'):=by
 cases o with
 |e l=>obtain⟨j,h1,h⟩:=bS h;obtain⟨n,h2,rfl⟩:=mS h;simp only[ni,rnO,h1,qa0,qa4,h2,qb2,qr1]
 |dK l|dT l=>
  obtain⟨j,h1,h⟩:=bS h;split at h<;>cases h
  rename_i hl;simp only[ni,rnO,h1,qa0,qa4,hl,if_true,oS]
 |t l=>cases h
 |ins c l=>cases h
theorem Cc(ha:Tr rn fa)(hk:Tr rn fk)(he:Tr rn fe):TrS (sPt fa fk fe):=fun {ρ _ _ _ _} E h=>by
 obtain⟨p,h1,h⟩:=bS h;obtain⟨q,h2,h⟩:=bS h;obtain⟨r,W,h⟩:=bS h;split at h<;>first|(cases h;done)|skip
 rename_i j hj;split at h<;>first|(cases h;done)|skip
 rename_i hs;obtain⟨d,h4,h⟩:=bS h;obtain⟨o',h5,rfl⟩:=mS h;obtain⟨o,U,h7⟩:=bS h5;refine(he E h1).bindS fun b1 E1=>(ha E1 h2).bindS fun b2 Z=>(hk Z W).bindS fun b3 O=>?_
 rw[hj];simp only[b8,ee,hs,if_true,O.vw h4,qa0,O.get U,xp h7,qb2];exact .put O U
theorem Cd:b7 (rnS ρ δ) i=b7 δ i:=by
 unfold b7;rw[qa8];cases q:δ[i]? with
 |none=>rfl
 |some x=>cases x with
  |none=>rfl
  |some c=>cases c<;>rfl
theorem oT{c k:Nat}{o:CO}{x:CV}(h:cr c k o x=ς o'):cr c k (rnO ρ o) (rn ρ x)=ς (rnO ρ o'):=by
 cases o<;>first|(cases h;done)|skip
 rename_i W l;unfold cr at h ⊢;simp only[rnO,qa4,ee];simp only at h;split at h<;>first|(cases h;done)|skip
 rename_i hc;rw[if_pos hc];split at h
 .rename_i U;rw[if_pos U];cases h;simp only[qr1,rnO]
 .rename_i U;rw[if_neg U];split at h<;>cases h
  rename_i O;rw[if_pos O];simp only[rnO,qd0,qa3,qe0]
theorem ER{c k:Nat}(ha:Tr rn fa)(he:Tr rn fe):TrS (sFl c k fa fe):=fun {ρ _ _ _ _} E h=>by
 obtain⟨p,h1,h⟩:=bS h;obtain⟨q,h2,h⟩:=bS h;split at h<;>first|(cases h;done)|skip
 rename_i j Z;obtain⟨o',W,rfl⟩:=mS h;obtain⟨o,U,h7⟩:=bS W;refine(he E h1).bindS fun b1 E1=>(ha E1 h2).bindS fun b2 O=>?_
 rw[Z];simp only[b8,O.get U,qa0,oT h7,qb2];exact .put O U
theorem ES{c k:Nat}{op:Int->Int->Int}(ha:Tr rn fa)(he:Tr rn fe):TrS (sFa c k op fa fe):=fun {ρ _ _ _ _} E h=>by
 obtain⟨p,h1,h⟩:=bS h;split at h<;>first|(cases h;done)|skip
 rename_i j hj;split at h<;>first|(cases h;done)|skip
 rename_i c' l hl;split at h<;>first|(cases h;done)|skip
 rename_i hc;obtain⟨x,h2,h⟩:=bS h;obtain⟨n,h3,h⟩:=bS h;obtain⟨q,h4,h⟩:=bS h;obtain⟨n2,h5,h⟩:=bS h;obtain⟨o',Z,rfl⟩:=mS h;obtain⟨o,O,h8⟩:=bS Z;refine(ha E h1).bindS fun b1 W=>?_
 rw[hj];simp only[b8,W.get hl,rnO,hc,if_true,qa8,h2,qb2,qa0,iA,h3];refine(he W h4).bindS fun b2 U=>?_
 have:=oT (ρ:=ρ) h8;rw[iz]at this;simp only[iA,h5,qa0,U.get O,this,qb2];exact .put U O
theorem ET{op:Int->Int->Int}(Z:Tr rn fe):TrS (sAu i op fe):=fun {ρ δ _ _ _} E h=>by
 obtain⟨n,h1,h⟩:=bS h;obtain⟨q,h2,h⟩:=bS h;obtain⟨k,U,rfl⟩:=mS h
 have e:((rnS ρ δ)[i]?.join.bind bO)=ς n:=by
  obtain⟨c,O,k2⟩:=bS h1
  have:δ[i]?=ς (ς c):=by
   cases q:δ[i]? with
   |none=>rw[q]at O;cases O
   |some y=>rw[q]at O;simp at O;rw[O]
  rw[nC this];simp[iA,k2]
 unfold sAu;rw[e,qa0];refine(Z E h2).bindS fun b2 W=>?_
 simp only[iA,U,qb2];have e:(rnS ρ δ).set i (ς (.g (.int (op n k))))=rnS ρ _:=(kK (ρ:=ρ) (c:=.g (.int (op n k)))).symm;rw[e];exact .nx W
theorem EU{pt:Pt}(U:Tr rn fe):TrS (sUn pt fe):=fun {ρ δ _ _ _} E h=>by
 obtain⟨p,h1,h⟩:=bS h;split at h<;>first|(cases h;done)|skip
 rename_i d O;obtain⟨δ',h2,rfl⟩:=mS h;refine(U E h1).bindS fun b2 W=>?_
 rw[O];simp only[iz,nE h2,qb2];exact .nx W
theorem EV(ha:Tr rn fa)(he:Tr rn fe):TrS (sAp fa fe):=fun {ρ δ _ _ _} E h=>by
 obtain⟨p,h1,h⟩:=bS h;obtain⟨q,h2,h⟩:=bS h;split at h<;>first|(cases h;done)|skip
 rename_i j Z;obtain⟨l0,W,h⟩:=bS h;obtain⟨l,h4,h⟩:=bS h;split at h<;>first|(cases h;done)|skip
 rename_i hl;cases h;refine(ha E h1).bindS fun b1 U=>(he U h2).bindS fun b2 O=>?_
 rw[Z];simp only[b8,(U.lst W).1,(O.lst h4).1,qa0,qa4,ee];rw[if_pos hl];have:=GoS.put (δ:=δ) (o:=.e (l++[q.1])) O (O.lst h4).2;simp only[rnO,qd0,qa3,qe0]at this;exact this
theorem Ce(W:Tr rn fe):TrS (sAs i fe):=fun {ρ δ _ _ _} E h=>by
 obtain⟨q,h2,h⟩:=bS h;split at h<;>first|(cases h;done)|skip
 rename_i d l O hl;split at h<;>first|(cases h;done)|skip
 rename_i U;cases h;refine(W E h2).bindS fun b2 Z=>?_
 rw[O];simp only[iz,Cd,hl];rw[if_pos U];have e:(rnS ρ δ).set i (ς (.own θ (.e (l++[d]))))=rnS ρ _:=(kK (ρ:=ρ) (c:=.own θ (.e (l++[d])))).symm;rw[e];exact .nx Z
theorem EW{t:Bool}(ha:Tr rn fa):TrS (sCl t fa):=fun {ρ _ _ _ _} E h=>by
 obtain⟨p,h1,h⟩:=bS h;split at h<;>first|(cases h;done)|skip
 rename_i j hj;obtain⟨o',Z,rfl⟩:=mS h;obtain⟨o,U,W⟩:=bS Z;refine(ha E h1).bindS fun b2 O=>?_
 have e:wY t (rnO ρ o)=ς (rnO ρ o'):=by cases o<;>cases t<;>first|(cases W;done)|(cases W;rfl)
 rw[hj];simp only[b8,O.get U,qa0,e,qb2];exact .put O U
theorem Em.dk{l:η (Key×CV)}(E:Em ρ a b)(h:gv a i=ς l):gv b (ρ i)=ς (rnP ρ l)/\a[i]?=ς (.dK l):=by
 unfold gv at h ⊢;split at h<;>cases h
 rename_i q;rw[E.get q];exact⟨rfl,q⟩
theorem EX(ha:Tr rn fa)(he:Tr rn fe):TrS (sUp fa fe):=fun {ρ δ _ _ _} E h=>by
 obtain⟨p,h1,h⟩:=bS h;obtain⟨q,h2,h⟩:=bS h;split at h<;>first|(cases h;done)|skip
 rename_i i j hi hj;obtain⟨l0,W,h⟩:=bS h;obtain⟨l,h4,h⟩:=bS h;obtain⟨n,Z,h⟩:=bS h;split at h<;>first|(cases h;done)|skip
 rename_i hl;cases h;refine(ha E h1).bindS fun b1 U=>(he U h2).bindS fun b2 O=>?_
 rw[hi,hj];have e:((rnP ρ l++rnP ρ n).map (·.1))=(l++n).map (·.1):=by simp[qb4]
 simp only[b8,(U.dk W).1,(O.dk h4).1,(O.dk Z).1,qa0];rw[if_pos ⟨fun z=>hl.1 (O.inj _ _ z),by rw[e];exact hl.2.1,by simpa using hl.2.2⟩];have:=GoS.put (δ:=δ) (o:=.dK (l++n)) O (O.dk h4).2;simp only[rnO,rnP,qd0]at this;exact this
end
def TrN:En->Prop
 |.fn _ _ F|.fd _ _ _ F|.me _ _ _ F|.mk _ _ F=>TrD F
section
variable{tb:Tb}
theorem bQ:Tr rn nF:=fun _ h=>by cases h
theorem ac{α:Type}{R:(Nat->Nat)->α->α}:Tr R (fun _ _=>ψ):=fun _ h=>by cases h
theorem tr_E(Z:∀e∈tb.f,TrN e):∀e:E,Tr rn (evE tb e)/\Tr rI (evT tb e)/\Tr rnA (evA tb e)/\Tr rI (evI tb e)/\(∀f,evO tb e=ς f->Tr rn f)/\Tr rI (aL (evE tb e)):=by
 have one:∀{e:E},Tr rn (evE tb e)->Tr rI (evT tb e)->Tr rnA (evA tb e)->Tr rI (evI tb e)->(∀f,evO tb e=ς f->Tr rn f)->Tr rn (evE tb e)/\Tr rI (evT tb e)/\Tr rnA (evA tb e)/\Tr rI (evI tb e)/\(∀f,evO tb e=ς f->Tr rn f)/\Tr rI (aL (evE tb e)):=fun h1 h2 h3 h4 h5=>⟨h1,h2,h3,h4,h5,ud h1⟩
 have no:∀f,ς nF=ς f->Tr rn f:=fun f h=>by cases h;exact bQ
 intro e;induction e with
 |k d=>exact one tr_K (@ac _ _) (@ac _ _) (@ac _ _) no
 |v i=>exact one tr_V (@ac _ _) (@ac _ _) (@ac _ _) no
 |g j=>exact one (by unfold evE;split;exact tr_K;exact bQ) (@ac _ _) (@ac _ _) (@ac _ _) no
 |b2 o m x y O W=>exact one (tr_2 O.1 W.1) (@ac _ _) (@ac _ _) (@ac _ _) no
 |nt x O=>exact one (B4 O.1) (@ac _ _) (@ac _ _) (@ac _ _) no
 |ng x O=>exact one (B5 O.1) (@ac _ _) (@ac _ _) (@ac _ _) no
 |an x y O W=>exact one (B3 O.1 W.1) (@ac _ _) (@ac _ _) (@ac _ _) no
 |cd c x y hc O W=>exact one (B6 hc.2.1 O.1 W.1) (@ac _ _) (@ac _ _) (@ac _ _) no
 |tr x O=>refine one bQ ?_ (@ac _ _) (@ac _ _) no;have h0:Tr rI (cq (evE tb x)):=B2 O.1;have h1:Tr rI (aL (evE tb x)):=ud O.1;cases x<;>first|exact @h0|exact @h1
 |tn x O=>exact one bQ (Ei O.2.1) (@ac _ _) (@ac _ _) no
 |ta x y O W=>exact one bQ (Ej O.2.1 W.2.1) (@ac _ _) (@ac _ _) no
 |to x y O W=>exact one bQ (Ek O.2.1 W.2.1) (@ac _ _) (@ac _ _) no
 |bn o m as U=>exact one (tr_B U.2.2.1) (@ac _ _) (@ac _ _) (@ac _ _) no
 |ii c x O=>exact one (Ez O.1) (@ac _ _) (@ac _ _) (@ac _ _) no
 |ms o m x as O U=>exact one (EA O.1 U.2.2.1) (@ac _ _) (@ac _ _) (@ac _ _) no
 |gt x k e O hk he=>exact one (ED O.1 hk.1 he.1) (@ac _ _) (@ac _ _) (@ac _ _) no
 |ca j as U=>
  refine one ?_ (@ac _ _) (@ac _ _) (@ac _ _) no;unfold evE;split
  .rename_i h;exact zk (Z _ (qa5 h)) U.2.2.1
  .rename_i h;exact zk (Z _ (qa5 h)) (Ev U.2.2.1)
  .exact bQ
 |me j o as ho U=>
  refine one ?_ (@ac _ _) (@ac _ _) (@ac _ _) no;unfold evE;split
  .rename_i h;exact Ew (Z _ (qa5 h)) ho.1 U.2.2.1
  .exact bQ
 |mk j as U=>
  refine one ?_ (@ac _ _) (@ac _ _) (@ac _ _) no;unfold evE;split
  .rename_i h;exact Ex (Z _ (qa5 h)) U.2.2.1
  .exact bQ
 |«at» c f o ho=>exact one (Es ho.1) (@ac _ _) (@ac _ _) (@ac _ _) no
 |ix x y O W=>exact one (Er O.1 W.1) (@ac _ _) (@ac _ _) (@ac _ _) no
 |sl m x lo hi O hl hh=>exact one (Ey O.1 hl.2.2.2.2.1 hh.2.2.2.2.1) (@ac _ _) (@ac _ _) (@ac _ _) no
 |no=>exact one bQ (@ac _ _) (@ac _ _) (@ac _ _) (fun f h=>by cases h)
 |ls m as U=>exact one (Et U.2.2.1) (@ac _ _) (@ac _ _) (@ac _ _) no
 |tu as U=>exact one (Eu U.2.2.1) (@ac _ _) (@ac _ _) (@ac _ _) no
 |dn m t=>exact one EB (@ac _ _) (@ac _ _) (@ac _ _) no
 |il m x O=>exact one (EE O.1) (@ac _ _) (@ac _ _) (@ac _ _) no
 |pp x y O W=>exact one (B7 O.1 W.1) (@ac _ _) (@ac _ _) (@ac _ _) no
 |dc m x O=>exact one (EF O.1) (@ac _ _) (@ac _ _) (@ac _ _) no
 |co m src pt it c e hi hc he=>exact one (EK hi.2.2.2.1 hc.2.1 he.1) (@ac _ _) (@ac _ _) (@ac _ _) no
 |ys=>exact one bQ El (@ac _ _) (@ac _ _) no
 |it x O=>exact one bQ (@ac _ _) (@ac _ _) (EG O.1) no
 |rg as U=>exact one bQ (@ac _ _) (@ac _ _) (EH U.2.2.1) no
 |en x O=>exact one bQ (@ac _ _) (@ac _ _) (EI O.1) no
 |nil=>exact one bQ (@ac _ _) Eo (@ac _ _) no
 |cons x as O U=>exact one bQ (@ac _ _) (Ep O.1 U.2.2.1) (@ac _ _) (fun f h=>by cases h;exact O.1)
theorem xt(Z:∀e∈tb.f,TrN e):∀s:S,TrS (evS tb s):=by
 have O:=tr_E Z;intro s;induction s with
 |nil=>exact B8
 |sq s r hs W=>exact B9 hs W
 |fz i r W=>exact EL W
 |set i e=>exact Ca (O e).1
 |un pt e=>exact EU (O e).1
 |put x k e=>exact Cc (O x).1 (O k).1 (O e).1
 |fl c f o e=>exact ER (O o).1 (O e).1
 |fa c f o x e=>exact ES (O x).1 (O e).1
 |au i o e=>exact ET (O e).1
 |dr e=>exact EM (O e).1
 |ap x e=>exact EV (O x).1 (O e).1
 |aps i e=>exact Ce (O e).1
 |cl t x=>exact EW (O x).1
 |up x e=>exact EX (O x).1 (O e).1
 |rt e=>exact EN (O e).1
 |rn=>exact EO
 |cd c x y U hy=>exact EQ (O c).2.1 U hy
 |fo pt it x U=>exact Cb (O it).2.2.2.1 U
 |wh n c x U=>exact ue (O c).2.1 U
end
variable{m:Nat}
theorem oU{g:Fs}(U:TrS g):TrD (cG m g):=fun {ρ cs a x a' b} E h=>by
 unfold cG at h;have e:(cs.map (rn ρ)).map ς++qb1 (m-(cs.map (rn ρ)).length) ψ=rnS ρ (cs.map ς++qb1 (m-cs.length) ψ):=by simp[rnS,qb4]
 split at h<;>cases h
 .rename_i q;obtain⟨b1,h1,O,k⟩:=U E q;exact⟨b1,by unfold cG;rw[e,h1];rfl,O,k⟩
 .rename_i q;obtain⟨b1,h1,O,k⟩:=U E q;exact⟨b1,by unfold cG;rw[e,h1];rfl,O,k⟩
theorem dE{gc:η (Str×Dt)}:∀ds:η Df,∀e∈(bm gc ds).f,TrN e
 |[],e,h=>by cases h
 |d::r,e,h=>by
  have O:=dE (gc:=gc) r;rcases qc4.mp h with rfl|h
  .have:TrD (cG d.m (evS (bm gc r) d.b)):=oU (xt O d.b);unfold Df.en;cases d.kd<;>exact @this
  .exact O e h
theorem aB{gc:η (Str×Dt)}(ds:η Df):TrD (FF gc ds):=by
 cases ds with
 |nil=>exact fun _ h=>by cases h
 |cons d r=>exact oU (xt (dE r) d.b)
def bD(t:η Df):η En:=(bm gc t).f
theorem bDf{t:η Df}:(bm gc t).f=bD t:=rfl
theorem gc0:gc[0]?=ς ((PySem.Str.ofString "WIDE":Str),Dt.int 1099511627776):=rfl
def F0:=FF gc t1
theorem u0:bD t1=d0.en F0::bD t0:=rfl
def F1:=FF gc t2
theorem u1:bD t2=d1.en F1::bD t1:=rfl
def F2:=FF gc t3
theorem u2:bD t3=d2.en F2::bD t2:=rfl
def F3:=FF gc t4
theorem u3:bD t4=d3.en F3::bD t3:=rfl
def F4:=FF gc t5
theorem u4:bD t5=d4.en F4::bD t4:=rfl
def F5:=FF gc t6
theorem u5:bD t6=d5.en F5::bD t5:=rfl
def F6:=FF gc t7
theorem u6:bD t7=d6.en F6::bD t6:=rfl
def F7:=FF gc t8
theorem u7:bD t8=d7.en F7::bD t7:=rfl
def F8:=FF gc t9
theorem u8:bD t9=d8.en F8::bD t8:=rfl
def F9:=FF gc t10
theorem u9:bD t10=d9.en F9::bD t9:=rfl
def F10:=FF gc t11
theorem u10:bD t11=d10.en F10::bD t10:=rfl
def F11:=FF gc t12
theorem u11:bD t12=d11.en F11::bD t11:=rfl
def F12:=FF gc t13
theorem u12:bD t13=d12.en F12::bD t12:=rfl
def F13:=FF gc t14
theorem u13:bD t14=d13.en F13::bD t13:=rfl
def F14:=FF gc t15
theorem u14:bD t15=d14.en F14::bD t14:=rfl
def F15:=FF gc t16
theorem u15:bD t16=d15.en F15::bD t15:=rfl
def F16:=FF gc t17
theorem u16:bD t17=d16.en F16::bD t16:=rfl
def F17:=FF gc t18
theorem u17:bD t18=d17.en F17::bD t17:=rfl
def F18:=FF gc t19
theorem u18:bD t19=d18.en F18::bD t18:=rfl
def F19:=FF gc t20
theorem u19:bD t20=d19.en F19::bD t19:=rfl
def F20:=FF gc t21
theorem u20:bD t21=d20.en F20::bD t20:=rfl
def F21:=FF gc t22
theorem u21:bD t22=d21.en F21::bD t21:=rfl
def F22:=FF gc t23
theorem u22:bD t23=d22.en F22::bD t22:=rfl
def F23:=FF gc t24
theorem u23:bD t24=d23.en F23::bD t23:=rfl
def F24:=FF gc t25
theorem u24:bD t25=d24.en F24::bD t24:=rfl
def F25:=FF gc t26
theorem u25:bD t26=d25.en F25::bD t25:=rfl
def F26:=FF gc t27
theorem u26:bD t27=d26.en F26::bD t26:=rfl
def F27:=FF gc t28
theorem u27:bD t28=d27.en F27::bD t27:=rfl
def F28:=FF gc t29
theorem u28:bD t29=d28.en F28::bD t28:=rfl
def F29:=FF gc t30
theorem u29:bD t30=d29.en F29::bD t29:=rfl
def F30:=FF gc t31
theorem u30:bD t31=d30.en F30::bD t30:=rfl
def F31:=FF gc t32
theorem u31:bD t32=d31.en F31::bD t31:=rfl
def F32:=FF gc t33
theorem u32:bD t33=d32.en F32::bD t32:=rfl
def F33:=FF gc t34
theorem u33:bD t34=d33.en F33::bD t33:=rfl
def F34:=FF gc t35
theorem u34:bD t35=d34.en F34::bD t34:=rfl
def F35:=FF gc t36
theorem u35:bD t36=d35.en F35::bD t35:=rfl
def F36:=FF gc t37
theorem u36:bD t37=d36.en F36::bD t36:=rfl
def F37:=FF gc t38
theorem u37:bD t38=d37.en F37::bD t37:=rfl
def F38:=FF gc t39
theorem u38:bD t39=d38.en F38::bD t38:=rfl
def F39:=FF gc t40
theorem u39:bD t40=d39.en F39::bD t39:=rfl
def F40:=FF gc t41
theorem u40:bD t41=d40.en F40::bD t40:=rfl
def F41:=FF gc t42
theorem u41:bD t42=d41.en F41::bD t41:=rfl
def F42:=FF gc t43
theorem u42:bD t43=d42.en F42::bD t42:=rfl
def F43:=FF gc t44
theorem u43:bD t44=d43.en F43::bD t43:=rfl
def F44:=FF gc t45
theorem u44:bD t45=d44.en F44::bD t44:=rfl
def F45:=FF gc t46
theorem u45:bD t46=d45.en F45::bD t45:=rfl
def F46:=FF gc t47
theorem u46:bD t47=d46.en F46::bD t46:=rfl
def F47:=FF gc t48
theorem u47:bD t48=d47.en F47::bD t47:=rfl
def F48:=FF gc t49
theorem u48:bD t49=d48.en F48::bD t48:=rfl
def F49:=FF gc t50
theorem u49:bD t50=d49.en F49::bD t49:=rfl
def F50:=FF gc t51
theorem u50:bD t51=d50.en F50::bD t50:=rfl
def F51:=FF gc t52
theorem u51:bD t52=d51.en F51::bD t51:=rfl
def F52:=FF gc t53
theorem u52:bD t53=d52.en F52::bD t52:=rfl
def F53:=FF gc t54
theorem u53:bD t54=d53.en F53::bD t53:=rfl
def F54:=FF gc t55
theorem u54:bD t55=d54.en F54::bD t54:=rfl
def F55:=FF gc t56
theorem u55:bD t56=d55.en F55::bD t55:=rfl
def F56:=FF gc t57
theorem u56:bD t57=d56.en F56::bD t56:=rfl
def F57:=FF gc t58
theorem u57:bD t58=d57.en F57::bD t57:=rfl
def F58:=FF gc t59
theorem u58:bD t59=d58.en F58::bD t58:=rfl
def F59:=FF gc t60
theorem u59:bD t60=d59.en F59::bD t59:=rfl
def F60:=FF gc t61
theorem u60:bD t61=d60.en F60::bD t60:=rfl
def F61:=FF gc t62
theorem u61:bD t62=d61.en F61::bD t61:=rfl
def F62:=FF gc t63
theorem u62:bD t63=d62.en F62::bD t62:=rfl
def F63:=FF gc t64
theorem u63:bD t64=d63.en F63::bD t63:=rfl
def F64:=FF gc t65
theorem u64:bD t65=d64.en F64::bD t64:=rfl
def F65:=FF gc t66
theorem u65:bD t66=d65.en F65::bD t65:=rfl
def F66:=FF gc t67
theorem u66:bD t67=d66.en F66::bD t66:=rfl
def F67:=FF gc t68
theorem u67:bD t68=d67.en F67::bD t67:=rfl
def F68:=FF gc t69
theorem u68:bD t69=d68.en F68::bD t68:=rfl
def F69:=FF gc t70
theorem u69:bD t70=d69.en F69::bD t69:=rfl
def F70:=FF gc t71
theorem u70:bD t71=d70.en F70::bD t70:=rfl
def F71:=FF gc t72
theorem u71:bD t72=d71.en F71::bD t71:=rfl
def F72:=FF gc t73
theorem u72:bD t73=d72.en F72::bD t72:=rfl
def F73:=FF gc t74
theorem u73:bD t74=d73.en F73::bD t73:=rfl
def F74:=FF gc t75
theorem u74:bD t75=d74.en F74::bD t74:=rfl
def F75:=FF gc t76
theorem u75:bD t76=d75.en F75::bD t75:=rfl
def F76:=FF gc t77
theorem u76:bD t77=d76.en F76::bD t76:=rfl
def F77:=FF gc t78
theorem u77:bD t78=d77.en F77::bD t77:=rfl
def F78:=FF gc t79
theorem u78:bD t79=d78.en F78::bD t78:=rfl
def F79:=FF gc t80
theorem u79:bD t80=d79.en F79::bD t79:=rfl
local macro_rules | `(tactic| walk_at "q") => `(tactic| (show L2.cG _ (L2.evS (L2.bm _ _) _) = _; simp only [L2.vN0, L2.vN1, L2.vN2, L2.vN3, L2.vN4, L2.vN5, L2.vN6, L2.vN7, L2.vN8, L2.vN9, L2.qG, L2.xo, L2.nB, L2.BX, L2.qH, L2.sL, L2.xLit, L2.xAdd, L2.xSub, L2.xMul, L2.xMod, L2.xDiv, L2.xIx, L2.tsE, L2.tsL, L2.tsN, L2.tsG, L2.eLn, L2.rG1, L2.aT0, L2.mE0, L2.cO0, L2.cR0, L2.sLb, L2.bDf, L2.evS, L2.evE, L2.evO, L2.evT, L2.evA, L2.evI, L2.Df.en, L2.iw, L2.w9, L2.kI, L2.kS, L2.A1, L2.A2, L2.A3, L2.A4, L2.A5, L2.gc0, L2.d0, L2.d1, L2.d2, L2.d3, L2.d4, L2.d5, L2.d6, L2.d7, L2.d8, L2.d9, L2.d10, L2.d11, L2.d12, L2.d13, L2.d14, L2.d15, L2.d16, L2.d17, L2.d18, L2.d19, L2.d20, L2.d21, L2.d22, L2.d23, L2.d24, L2.d25, L2.d26, L2.d27, L2.d28, L2.d29, L2.d30, L2.d31, L2.d32, L2.d33, L2.d34, L2.d35, L2.d36, L2.d37, L2.d38, L2.d39, L2.d40, L2.d41, L2.d42, L2.d43, L2.d44, L2.d45, L2.d46, L2.d47, L2.d48, L2.d49, L2.d50, L2.d51, L2.d52, L2.d53, L2.d54, L2.d55, L2.d56, L2.d57, L2.d58, L2.d59, L2.d60, L2.d61, L2.d62, L2.d63, L2.d64, L2.d65, L2.d66, L2.d67, L2.d68, L2.d69, L2.d70, L2.d71, L2.d72, L2.d73, L2.d74, L2.d75, L2.d76, L2.d77, L2.d78, L2.d79, L2.u0, L2.u1, L2.u2, L2.u3, L2.u4, L2.u5, L2.u6, L2.u7, L2.u8, L2.u9, L2.u10, L2.u11, L2.u12, L2.u13, L2.u14, L2.u15, L2.u16, L2.u17, L2.u18, L2.u19, L2.u20, L2.u21, L2.u22, L2.u23, L2.u24, L2.u25, L2.u26, L2.u27, L2.u28, L2.u29, L2.u30, L2.u31, L2.u32, L2.u33, L2.u34, L2.u35, L2.u36, L2.u37, L2.u38, L2.u39, L2.u40, L2.u41, L2.u42, L2.u43, L2.u44, L2.u45, L2.u46, L2.u47, L2.u48, L2.u49, L2.u50, L2.u51, L2.u52, L2.u53, L2.u54, L2.u55, L2.u56, L2.u57, L2.u58, L2.u59, L2.u60, L2.u61, L2.u62, L2.u63, L2.u64, L2.u65, L2.u66, L2.u67, L2.u68, L2.u69, L2.u70, L2.u71, L2.u72, L2.u73, L2.u74, L2.u75, L2.u76, L2.u77, L2.u78, L2.u79, qd2, qh8]; rfl))
def q0:=(by walk_at "q":F0=_)
def q1:=(by walk_at "q":F1=_)
def q2:=(by walk_at "q":F2=_)
def q3:=(by walk_at "q":F3=_)
def q4:=(by walk_at "q":F4=_)
def q5:=(by walk_at "q":F5=_)
def q6:=(by walk_at "q":F6=_)
def q7:=(by walk_at "q":F7=_)
def q8:=(by walk_at "q":F8=_)
def q9:=(by walk_at "q":F9=_)
def q10:=(by walk_at "q":F10=_)
def q11:=(by walk_at "q":F11=_)
def q12:=(by walk_at "q":F12=_)
def q13:=(by walk_at "q":F13=_)
def q14:=(by walk_at "q":F14=_)
def q16:=(by walk_at "q":F16=_)
def q17:=(by walk_at "q":F17=_)
def q18:=(by walk_at "q":F18=_)
def q19:=(by walk_at "q":F19=_)
def q21:=(by walk_at "q":F21=_)
def q22:=(by walk_at "q":F22=_)
def q25:=(by walk_at "q":F25=_)
def q26:=(by walk_at "q":F26=_)
def q27:=(by walk_at "q":F27=_)
def q30:=(by walk_at "q":F30=_)
def q31:=(by walk_at "q":F31=_)
def q33:=(by walk_at "q":F33=_)
def q34:=(by walk_at "q":F34=_)
def q36:=(by walk_at "q":F36=_)
def q37:=(by walk_at "q":F37=_)
def q38:=(by walk_at "q":F38=_)
def q39:=(by walk_at "q":F39=_)
def q40:=(by walk_at "q":F40=_)
def q41:=(by walk_at "q":F41=_)
def q42:=(by walk_at "q":F42=_)
def q43:=(by walk_at "q":F43=_)
def q44:=(by walk_at "q":F44=_)
def q45:=(by walk_at "q":F45=_)
def q46:=(by walk_at "q":F46=_)
def q47:=(by walk_at "q":F47=_)
def q48:=(by walk_at "q":F48=_)
def q49:=(by walk_at "q":F49=_)
def q50:=(by walk_at "q":F50=_)
def q51:=(by walk_at "q":F51=_)
def q52:=(by walk_at "q":F52=_)
def q53:=(by walk_at "q":F53=_)
def q54:=(by walk_at "q":F54=_)
def q55:=(by walk_at "q":F55=_)
def q56:=(by walk_at "q":F56=_)
def q57:=(by walk_at "q":F57=_)
def q58:=(by walk_at "q":F58=_)
def q59:=(by walk_at "q":F59=_)
def q60:=(by walk_at "q":F60=_)
def q61:=(by walk_at "q":F61=_)
def q62:=(by walk_at "q":F62=_)
def q63:=(by walk_at "q":F63=_)
def q66:=(by walk_at "q":F66=_)
def q67:=(by walk_at "q":F67=_)
def q68:=(by walk_at "q":F68=_)
def q69:=(by walk_at "q":F69=_)
def q70:=(by walk_at "q":F70=_)
def q71:=(by walk_at "q":F71=_)
def q72:=(by walk_at "q":F72=_)
def q73:=(by walk_at "q":F73=_)
def q74:=(by walk_at "q":F74=_)
def q75:=(by walk_at "q":F75=_)
def q76:=(by walk_at "q":F76=_)
def q77:=(by walk_at "q":F77=_)
def q78:=(by walk_at "q":F78=_)
def q79:=(by walk_at "q":F79=_)
def clV(n:Nat):CV->Bool
 |.ref i=>decide (i<n)
 |_=>θ
def clO(n:Nat):CO->Bool
 |.e l=>l.all (clV n)
 |.t l=>l.all (clV n)
 |.dK l=>l.all fun p=>clV n p.2
 |.dT l=>l.all fun p=>clV n p.2
 |.ins _ l=>l.all (clV n)
def Cl(cs:CH):Prop:=cs.all (clO cs.length)=θ
structure At(ρ:Nat->Nat)(cs b:CH):Prop where
 inj:∀i j,i<cs.length->j<cs.length->ρ i=ρ j->i=j
 get:∀{i o},cs[i]?=ς o->b[ρ i]?=ς (rnO ρ o)
def hat(ρ:Nat->Nat)(n m:Nat):Nat->Nat:=fun i=>if i<n then ρ i else m+(i-n)
variable{cs':CH}
section
variable{ρ ρ' σ:Nat->Nat}{a b cs ds:CH}{n:Nat}
theorem uf{c:CV}(h:clV n c=θ)(e:∀i,i<n->ρ i=ρ' i):rn ρ c=rn ρ' c:=by
 cases c with
 |ref i=>simp only[rn,e i (by simpa[clV] using h)]
 |_=>rfl
theorem oV{l:η CV}(h:l.all (clV n)=θ)(e:∀i,i<n->ρ i=ρ' i):l.map (rn ρ)=l.map (rn ρ'):=qn2 fun c hc=>uf (qc0.mp h c hc) e
theorem Cf{o:CO}(h:clO n o=θ)(e:∀i,i<n->ρ i=ρ' i):rnO ρ o=rnO ρ' o:=by
 cases o with
 |e l|t l|ins c l=>simp only[rnO,oV h e]
 |dK l|dT l=>simp only[rnO,rnP];rw[qn2 fun p hp=>by rw[uf (qc0.mp h p hp) e]]
theorem EY{c:CV}:rn ρ (rn σ c)=rn (fun i=>ρ (σ i)) c:=by cases c<;>rfl
theorem oW{o:CO}:rnO ρ (rnO σ o)=rnO (fun i=>ρ (σ i)) o:=by cases o<;>simp only[rnO,rnP,qd4,qb4,EY]
theorem At.lt(h:At ρ cs b)(hi:i<cs.length):ρ i<b.length:=ao (h.get (gQ hi))
theorem At.em(h:At ρ cs b)(hc:Cl cs):Em (hat ρ cs.length b.length) cs b:=by
 have U:∀i,i<cs.length->hat ρ cs.length b.length i=ρ i:=fun i hi=>if_pos hi
 have e2:∀i,cs.length<=i->hat ρ cs.length b.length i=b.length+(i-cs.length):=fun i hi=>if_neg Θ
 refine⟨fun i j e=>?_,fun {i o} hi=>?_,fun k=>by rw[e2 _ Θ];lia⟩
 .rcases qj9 i cs.length with hi|hi<;>rcases qj9 j cs.length with O|O
  .rw[U i hi,U j O]at e;exact h.inj i j hi O e
  .rw[U i hi,e2 j O]at e;have:=h.lt hi;lia
  .rw[e2 i hi,U j O]at e;have:=h.lt O;lia
  .rw[e2 i hi,e2 j O]at e;lia
 .have hl:=ao hi;rw[U i hl,h.get hi,Cf (qc0.mp hc o (qa5 hi)) fun k W=>(U k W).symm]
theorem At.comp(h:Em ρ a b)(k:At σ ds a):At (fun i=>ρ (σ i)) ds b:=⟨fun i j hi O e=>k.inj i j hi O (h.inj _ _ e),fun hi=>by rw[h.get (k.get hi),oW]⟩
structure Fr(ρ:Nat->Nat)(n:Nat)(b b':CH):Prop where
 le:b.length<=b'.length
 kp:∀j,j<b.length->(∀i,i<n->ρ i≠j)->b'[j]?=b[j]?
def Sb(ρ:Nat->Nat)(n:Nat)(b:CH)(ρ':Nat->Nat)(n':Nat):Prop:=∀i,i<n'->(∃k,k<n/\ρ' i=ρ k)∨b.length<=ρ' i
theorem Em.fr(h:At ρ cs b)(hc:Cl cs)(E:Em (hat ρ cs.length b.length) a b')(k:Kp (hat ρ cs.length b.length) b b')(hl:cs.length<=a.length):Fr ρ cs.length b b':=by
 have O:=E.nw 0;have:hat ρ cs.length b.length (a.length+0)=b.length+(a.length-cs.length):=if_neg Θ;refine⟨Θ,fun j U hi=>k j fun i=>?_⟩;unfold hat
 split
 .exact hi i (by assumption)
 .lia
def Rn(F:Fd)(args:η CV)(cs:CH)(d:Dt)(ds:CH):Prop:=∀ ρ b,At ρ cs b->∃ ρ' b',F (rnA ρ args) b=ς (.g d,b')/\At ρ' ds b'/\ρ' 0=ρ 0/\Fr ρ cs.length b b'/\Sb ρ cs.length b ρ' ds.length
theorem At.go{F:Fd}{args:η CV}{x:CV}(U:TrD F)(h:At ρ cs b)(hc:Cl cs)(Z:args.all (clV cs.length)=θ)(W:F args cs=ς (x,cs')):∃b',F (rnA ρ args) b=ς (rn (hat ρ cs.length b.length) x,b')/\Em (hat ρ cs.length b.length) cs' b'/\Kp (hat ρ cs.length b.length) b b':=by
 obtain⟨b',h1,h2,O⟩:=U (h.em hc) W;have e:rnA (hat ρ cs.length b.length) args=rnA ρ args:=oV Z fun i hi=>if_pos hi
 rw[e]at h1;exact⟨b',h1,h2,O⟩
theorem Rn.of{F:Fd}{args:η CV}{d:Dt}(O:TrD F)(hc:Cl cs)(ha:args.all (clV cs.length)=θ)(U:F args cs=ς (.g d,cs'))(hl:cs.length<=cs'.length)(hs:At σ ds cs')(W:σ 0=0)(Z:0<cs.length):Rn F args cs d ds:=fun ρ b h=>by
 obtain⟨b',h1,E,k⟩:=h.go O hc ha U;refine⟨_,b',h1,At.comp E hs,by show hat _ _ _ (σ 0)=_;rw[W];exact if_pos Z,Em.fr h hc E k hl,fun i hi=>?_⟩;show(∃j,j<cs.length/\hat ρ cs.length b.length (σ i)=ρ j)∨_<=hat ρ cs.length b.length (σ i);unfold hat
 split
 .exact .inl ⟨σ i,by assumption,rfl⟩
 .exact .inr Θ
theorem zm{c:CV}:rn (fun i=>i) c=c:=by cases c<;>rfl
theorem ug{o:CO}:rnO (fun i=>i) o=o:=by
 have h1:∀l:η CV,l.map (rn fun i=>i)=l:=fun l=>by
  have:(rn fun i=>i)=id:=funext fun c=>zm
  rw[this,List.map_id]
 cases o<;>simp only[rnO,rnP,h1,zm]<;>simp
theorem At.same:At (fun i=>i) cs cs:=⟨fun _ _ _ _ e=>e,fun h=>by rw[ug];exact h⟩
theorem Rn.here{F:Fd}{args:η CV}{d:Dt}(O:TrD F)(hc:Cl cs)(Z:args.all (clV cs.length)=θ)(W:F args cs=ς (.g d,ds))(hl:cs.length<=ds.length)(U:0<cs.length):Rn F args cs d ds:=.of O hc Z W hl .same rfl U
theorem Fr.at(f:Fr ρ n b b')(h:At σ ds b)(U:∀i j,i<n->j<ds.length->ρ i≠σ j):At σ ds b':=⟨h.inj,fun {j o} O=>by have hl:=ao O;rw[f.kp _ (h.lt hl) fun i hi=>U i j hi hl];exact h.get O⟩
theorem Sb.apart{n':Nat}(s:Sb ρ n b ρ' n')(U:∀i j,i<n->j<m->ρ i≠σ j)(hl:∀j,j<m->σ j<b.length):∀i j,i<n'->j<m->ρ' i≠σ j:=fun i j hi O e=>by
 rcases s i hi with ⟨k,W,h⟩|h
 .exact U k j W O (h.symm.trans e)
 .have:=hl j O;lia
end
theorem ofS{a b:String}:(qa2 a=qa2 b)=(a=b):=by refine propext ⟨fun h=>?_,fun h=>h▸rfl⟩;rw[za5,za5]at h;exact String.toList_inj.mp ((List.map_inj_right fun _ _=>Char.toNat_inj.mp).mp (congrArg (·.cps.toList) h))
structure Fx where
 rows:List Dt
 onw:List Dt
 sk:List Key
 sv:List Dt
 tw:List Dt
 kk:List Key
 kv:List Dt
 inc:List Dt
structure HS where
 x:Fx
 plan:List Dt
 h0:List Dt
 h1:List Dt
 pb0:List Dt
 pb1:List Dt
 pt0:List Dt
 pt1:List Dt
 cnt:Int
 res:Dt
 fst:List (Key×Dt)
 unl:Bool
 dust:Int
abbrev dl(l:η Dt):CO:=.e (l.map .g)
def dp{κ:Type}(l:η (κ×Dt)):η (κ×CV):=l.map fun p=>(p.1,.g p.2)
theorem bP{κ:Type}{l:η (κ×Dt)}:(dp l).map (·.1)=l.map (·.1):=by simp[dp,qb4]
theorem bG{κ:Type}{l:η (κ×Dt)}:dats ((dp l).map (·.2))=ς (l.map (·.2)):=by
 have e:(dp l).map (·.2)=(l.map (·.2)).map .g:=by simp[dp,qb4]
 rw[e,cA]
theorem nG{κ:Type}{l:η (κ×Dt)}:((dp l).map (·.1)).zip (l.map (·.2))=l:=by
 rw[bP];induction l with
 |nil=>rfl
 |cons p l O=>simp only[qa3,qo0,O]
theorem iB{κ:Type}{l:η (κ×Dt)}:(dp l).length=l.length:=by simp[dp]
abbrev I(i:Int):CV:=.g (.int i)
def hO(S:HS)(lv O:CV):CO:=.ins 3 [.g (.t S.x.rows),.g (.e S.x.onw),.g (.dct S.x.sk S.x.sv),.g (.e S.x.tw),.g (.dct S.x.kk S.x.kv),.g (.e S.x.inc),.ref 1,.ref 2,I S.dust,lv,O]
def hb(S:HS)(lv:CV)(rf:η (Key×CV))(tl:CH):CH:=hO S lv (.ref 3)::.ins 2 [.ref 4,.ref 5,.ref 6,.ref 7,I S.cnt,.g S.res]::.ins 0 [.ref 8,.g (.bl S.unl)]::dl S.plan::.dK rf::.e [.g (.t S.h0),.g (.t S.h1)]::.e [.ref 9,.ref 10]::.e [.ref 11,.ref 12]::.dK (dp S.fst)::dl S.pb0::dl S.pb1::dl S.pt0::dl S.pt1::tl
section
variable{S:HS}{lv:CV}{rf:η (Key×CV)}{tl:CH}
theorem xu:(hb S lv rf tl)[0]?=ς (.ins 3 [.g (.t S.x.rows),.g (.e S.x.onw),.g (.dct S.x.sk S.x.sv),.g (.e S.x.tw),.g (.dct S.x.kk S.x.kv),.g (.e S.x.inc),.ref 1,.ref 2,I S.dust,lv,.ref 3]):=rfl
theorem xw:(hb S lv rf tl)[1]?=ς (.ins 2 [.ref 4,.ref 5,.ref 6,.ref 7,I S.cnt,.g S.res]):=rfl
theorem uh:(hb S lv rf tl)[2]?=ς (.ins 0 [.ref 8,.g (.bl S.unl)]):=rfl
theorem xx:(hb S lv rf tl)[3]?=ς (.e (S.plan.map .g)):=rfl
theorem xy:(hb S lv rf tl)[4]?=ς (.dK rf):=rfl
theorem xz:(hb S lv rf tl)[5]?=ς (.e [.g (.t S.h0),.g (.t S.h1)]):=rfl
theorem xA:(hb S lv rf tl)[6]?=ς (.e [.ref 9,.ref 10]):=rfl
theorem xB:(hb S lv rf tl)[7]?=ς (.e [.ref 11,.ref 12]):=rfl
theorem ui:(hb S lv rf tl)[8]?=ς (.dK (dp S.fst)):=rfl
theorem xC:(hb S lv rf tl)[9]?=ς (.e (S.pb0.map .g)):=rfl
theorem oX:(hb S lv rf tl)[10]?=ς (.e (S.pb1.map .g)):=rfl
theorem oY:(hb S lv rf tl)[11]?=ς (.e (S.pt0.map .g)):=rfl
theorem oZ:(hb S lv rf tl)[12]?=ς (.e (S.pt1.map .g)):=rfl
theorem uj{k:Nat}:(hb S lv rf tl)[k+13]?=tl[k]?:=rfl
end
local macro_rules | `(tactic| simp! only [$xs,*] $[$l]?) => `(tactic| simp only [L2.cG, L2.aj, L2.ar, L2.sRt, L2.sRn, L2.sIf, L2.aO, L2.sDr, L2.sFl, L2.sFa, L2.sAu, L2.sPt, L2.sAp, L2.sCl, L2.e2, L2.eIx, L2.eAt, L2.eV, L2.eK, L2.eTu, L2.eLs, L2.eB, L2.kB, L2.eCa, L2.kCa, L2.eMe, L2.eIf, L2.eIs, L2.eGt, L2.eIl, L2.aL, L2.cq, L2.tNt, L2.tAn, L2.iT, L2.aCn, L2.aNl, $xs,*] $[$l]?)
local macro_rules | `(tactic| simp! [$xs,*] $[$l]?) => `(tactic| simp [L2.lent, L2.vw, L2.vwO, L2.cA, L2.ixV, L2.ixO, L2.ixD, L2.az, L2.gIx, L2.asI, L2.atI, L2.ixN, L2.bN, L2.bO, L2.j9, L2.vws, L2.sC, L2.bList, L2.kf, L2.bLen, L2.oAdd, L2.oSub, L2.orO, L2.cW, L2.oo, L2.oEq, L2.oNe, L2.gEq, L2.eqD, L2.oLt, L2.oGt, L2.qd, L2.oIs, L2.oIsN, L2.gIs, L2.fin, L2.T.d, L2.al, L2.dats, PySem.sizeLine_eq, L2.CV.sol, L2.CV.kp, L2.CV.old, L2.cr, L2.ni, L2.cX, L2.eQ, L2.km, L2.getV, L2.dP, L2.iAdd, L2.finL, L2.xu, L2.xw, L2.uh, L2.xx, L2.xy, L2.xz, L2.xA, L2.xB, L2.ui, L2.xC, L2.oX, L2.oY, L2.oZ, L2.ofS, $xs,*] $[$l]?)
local macro_rules | `(tactic| dsimp! [$xs,*] $[$l]?) => `(tactic| simp [L2.lent, L2.vw, L2.vwO, L2.cA, L2.ixV, L2.ixO, L2.asI, L2.bN, L2.bO, L2.j9, L2.vws, L2.sC, L2.bList, L2.kf, L2.bLen, L2.oAdd, L2.oSub, L2.orO, L2.cW, L2.oo, L2.oEq, L2.oNe, L2.gEq, L2.eqD, L2.oLt, L2.oGt, L2.qd, L2.oIs, L2.oIsN, L2.gIs, L2.fin, L2.T.d, L2.al, L2.dats, PySem.sizeLine_eq, L2.CV.sol, L2.CV.kp, L2.CV.old, L2.cr, L2.ni, L2.cX, L2.eQ, L2.km, L2.getV, L2.dP, L2.iAdd, L2.finL, L2.xu, L2.xw, L2.uh, L2.xx, L2.xy, L2.xz, L2.xA, L2.xB, L2.ui, L2.xC, L2.oX, L2.oY, L2.oZ, L2.ofS, $xs,*] $[$l]?)
variable{p:Nat}
section
variable{S:HS}{lv:CV}{rf:η (Key×CV)}{tl:CH}
theorem o0:F24 [.ref 0] (hb S lv rf tl)=ς (.g S.res,hb S lv rf tl):=rfl
theorem iC:F21 [.ref 0] (hb S lv rf tl)=ς (I S.cnt,hb S lv rf tl):=rfl
theorem four{h:η Dt}(e:h.length=4):∃a b c d,h=[a,b,c,d]:=by
 match h,e with
 |[a,b,c,d],_=>exact⟨a,b,c,d,rfl⟩
theorem uk(h:S.h0.length=4):F18 [.ref 1,I 0] (hb S lv rf tl)=ς (.g (.t (S.h0++[.e S.pb0,.e S.pt0])),hb S lv rf tl):=by obtain⟨a,b,c,d,e⟩:=four h;simp! only[q18];simp! [e]
theorem ul(h:S.h1.length=4):F18 [.ref 1,I 1] (hb S lv rf tl)=ς (.g (.t (S.h1++[.e S.pb1,.e S.pt1])),hb S lv rf tl):=by obtain⟨a,b,c,d,e⟩:=four h;simp! only[q18];simp! [e]
def pgD(S:HS):η Dt:=if S.cnt=0 then S.h0++[.e S.pb0,.e S.pt0]else S.h1++[.e S.pb1,.e S.pt1]
theorem kM(O:S.h0.length=4)(h1:S.h1.length=4)(hc:S.cnt=0∨S.cnt=1):F19 [.ref 0,I S.cnt] (hb S lv rf tl)=ς (.g (.t (pgD S)),hb S lv rf tl):=by
 unfold pgD;rcases hc with hc|hc
 .rw[hc,if_pos rfl];simp! only[q19];simp! [uk O]
 .rw[hc,if_neg Ω];simp! only[q19];simp! [ul h1]
theorem gJ(h:S.res=.non):F25 [.ref 0] (hb S lv rf tl)=ς (.g (.bl ξ),hb S lv rf tl):=by simp! only[q25];simp! [o0,h,cw]
theorem gK{i:Int}(h:S.res=.int i):F25 [.ref 0] (hb S lv rf tl)=ς (.g (.bl θ),hb S lv rf tl):=by simp! only[q25];simp! [o0,h,cw]
theorem eY:F28 [.ref 1] (hb S lv rf tl)=ς (I (1-S.cnt),hb S lv rf tl):=rfl
theorem xD{v:Dt}:F35 [.ref 1,.g v] (hb S lv rf tl)=ς (.g .non,hb {S with res:=v} lv rf tl):=rfl
theorem xE:F32 [.ref 1] (hb S lv rf tl)=ς (.g .non,hb {S with cnt:=1-S.cnt} lv rf tl):=rfl
theorem um{n:Str}{k:Nat}{v:Dt}(h1:lkC rf (.inr n)=ς (.ref (k+13)))(h2:tl[k]?=ς (dl l))(hp:p<l.length):F27 [.ref 1,.g (.str n),I p,.g v] (hb S lv rf tl)=ς (.g .non,hb S lv rf (tl.set k (dl (l.set p v)))):=by
 have e:ixN l.length (p:Int)=ς p:=by unfold ixN;simp;lia
 simp! only[q27];simp[lent,vw,ixV,ixO,asI,ni,cX,CV.sol,xu,xw,uh,xx,xy,xz,xA,xB,ui,xC,oX,oY,oZ,uj,h1,h2,e];rw[<- qr1];rfl
theorem Cg(hc:S.cnt=1){n v:Dt}(hl:S.pb0.length<qa9):F30 [.ref 1,.g n,.g v] (hb S lv rf tl)=ς (.g .non,hb {S with pb0:=S.pb0++[.t [n,v]]} lv rf tl):=by rw[qa7]at hl;simp! only[q30];simp! [eY,hc,hl];simp[hb,hO,hc]
theorem Ch(hc:S.cnt=0){n v:Dt}(hl:S.pb1.length<qa9):F30 [.ref 1,.g n,.g v] (hb S lv rf tl)=ς (.g .non,hb {S with pb1:=S.pb1++[.t [n,v]]} lv rf tl):=by rw[qa7]at hl;simp! only[q30];simp! [eY,hc,hl];simp[hb,hO,hc]
theorem Ci(hc:S.cnt=1){n p v:Dt}(hl:S.pt0.length<qa9):F31 [.ref 1,.g n,.g p,.g v] (hb S lv rf tl)=ς (.g .non,hb {S with pt0:=S.pt0++[.t [.t [n,p],v]]} lv rf tl):=by rw[qa7]at hl;simp! only[q31];simp! [eY,hc,hl];simp[hb,hO,hc]
theorem Cj(hc:S.cnt=0){n p v:Dt}(hl:S.pt1.length<qa9):F31 [.ref 1,.g n,.g p,.g v] (hb S lv rf tl)=ς (.g .non,hb {S with pt1:=S.pt1++[.t [.t [n,p],v]]} lv rf tl):=by rw[qa7]at hl;simp! only[q31];simp! [eY,hc,hl];simp[hb,hO,hc]
def hbN(S:HS)(lv:CV)(rf:η (Key×CV))(b0 b1 t0 t1:Nat)(tl:CH):CH:=hO S lv (.ref 3)::.ins 2 [.ref 4,.ref 5,.ref 6,.ref 7,I S.cnt,.g S.res]::.ins 0 [.ref 8,.g (.bl S.unl)]::dl S.plan::.dK rf::.e [.g (.t S.h0),.g (.t S.h1)]::.e [.ref b0,.ref b1]::.e [.ref t0,.ref t1]::.dK (dp S.fst)::dl S.pb0::dl S.pb1::dl S.pt0::dl S.pt1::tl
theorem xF(hc:S.cnt=1){a b c d:Dt}:F29 [.ref 1,.g a,.g b,.g c,.g d] (hb S lv rf tl)=ς (.g .non,hbN {S with h0:=[a,b,c,d]} lv rf (tl.length+13) 10 (tl.length+1+13) 12 (tl++[.e []]++[.e []])):=by
 obtain⟨x,pl,h0,h1,O,U,q0,q1,ct,rs,fs,un,W⟩:=S;cases hc;have e:(tl++[CO.e []]).length=tl.length+1:=by simp
 rw[<- e];rfl
theorem xG(hc:S.cnt=0){a b c d:Dt}:F29 [.ref 1,.g a,.g b,.g c,.g d] (hb S lv rf tl)=ς (.g .non,hbN {S with h1:=[a,b,c,d]} lv rf 9 (tl.length+13) 11 (tl.length+1+13) (tl++[.e []]++[.e []])):=by
 obtain⟨x,pl,O,h1,U,W,q0,q1,ct,rs,fs,un,Z⟩:=S;cases hc;have e:(tl++[CO.e []]).length=tl.length+1:=by simp
 rw[<- e];rfl
end
variable{ds:η Dt}
section
variable{pt:Pt}{ft:FM Bool}{fe:Fg}{δ:Sl}{ch:CH}{α:Type}
theorem b9{f g:α->Dt}:∀{l:η α},(∀x∈l,∃O,bnd pt (f x) δ=ς O/\ft O ch=ς (θ,ch)/\fe O ch=ς (.g (g x),ch))->aH (bnd pt) ft fe δ (l.map f) ch=ς (l.map fun x=>.g (g x),ch)
 |[],_=>rfl
 |x::l,h=>by
  obtain⟨O,h1,h2,U⟩:=h x Ξ;have W:=b9 (l:=l) fun y Z=>h y (by simp[Z])
  simp only[qa3,aH,h1,qa0,h2,if_true,U,CV.sol,W,qb2]
theorem dw{f g:α->Dt}{p:α->Bool}:∀{l:η α},(∀x∈l,∃O,bnd pt (f x) δ=ς O/\ft O ch=ς (p x,ch)/\(p x=θ->fe O ch=ς (.g (g x),ch)))->aH (bnd pt) ft fe δ (l.map f) ch=ς ((l.filter p).map fun x=>.g (g x),ch)
 |[],_=>rfl
 |x::l,h=>by
  obtain⟨O,h1,h2,W⟩:=h x Ξ;have U:=dw (l:=l) fun y Z=>h y (by simp[Z])
  cases hp:p x with
  |true=>simp only[qa3,aH,h1,qa0,h2,hp,if_true,W hp,CV.sol,U,qb2,List.filter_cons_of_pos hp]
  |false=>have:List.filter p (x::l)=List.filter p l:=List.filter_cons_of_neg (by simp[hp]);simp only[qa3,aH,h1,qa0,h2,hp,qg1,if_false,U,this]
theorem o3{f:α->Dt}{P:Dt->Prop}:∀{l:η α},(∀x∈l,∃O d,bnd pt (f x) δ=ς O/\ft O ch=ς (θ,ch)/\fe O ch=ς (.g d,ch)/\P d)->∃ds:η Dt,aH (bnd pt) ft fe δ (l.map f) ch=ς (ds.map .g,ch)/\(∀d∈ds,P d)/\ds.length=l.length
 |[],_=>⟨[],rfl,Ξ,rfl⟩
 |x::l,h=>by
  obtain⟨O,d,h1,h2,U,hp⟩:=h x Ξ;obtain⟨ds,h4,W,Z⟩:=o3 (l:=l) fun y hy=>h y (by simp[hy])
  exact⟨d::ds,by simp only[qa3,aH,h1,qa0,h2,if_true,U,CV.sol,h4,qb2],by simpa using ⟨hp,W⟩,by simp[Z]⟩
theorem dz{β γ:Type}{f:α->Dt}{g:β->Dt}{h:β->γ}{h':α->γ}{Q:β->Prop}:∀{l:η α},(∀x∈l,∃O y,bnd pt (f x) δ=ς O/\ft O ch=ς (θ,ch)/\fe O ch=ς (.g (g y),ch)/\Q y/\h y=h' x)->∃ys:η β,aH (bnd pt) ft fe δ (l.map f) ch=ς ((ys.map g).map .g,ch)/\(∀y∈ys,Q y)/\ys.map h=l.map h'
 |[],_=>⟨[],rfl,Ξ,rfl⟩
 |x::l,W=>by
  obtain⟨O,y,h1,h2,h3,hq,hh⟩:=W x Ξ;obtain⟨ys,h4,h5,Z⟩:=dz (l:=l) fun z U=>W z (by simp[U])
  exact⟨y::ys,by simp only[qa3,aH,h1,qa0,h2,if_true,h3,CV.sol,h4,qb2],fun z U=>by rcases qc4.mp U with rfl|U;exact hq;exact h5 z U,by simp[hh,Z]⟩
theorem uo{m:Md}:finL m (ds.map .g) ch=fin m ch (.e ds):=by unfold finL;rw[cA]
theorem uq{g:α->Dt}{l:η α}:dats (l.map fun x=>.g (g x))=ς (l.map g):=by
 have:(l.map fun x=>CV.g (g x))=(l.map g).map .g:=by simp
 rw[this,cA]
theorem bL{m:Md}{g:α->Dt}{l:η α}:finL m (l.map fun x=>.g (g x)) ch=fin m ch (.e (l.map g)):=by unfold finL;rw[uq]
end
variable{r:η Dt}{δ0:Sl}{fe:Fg}
section
variable{m:Md}{g:Dt->Dt->ζ T}{fa fb f:Fg}{δ δ':Sl}{ch ch1 ch2:CH}{x y c:CV}{dx dy:Dt}{t:T}{g1 g2:Fs}{o:Og}{i n:Nat}
theorem cH(W:fa δ ch=ς (x,ch1))(hb:fb δ ch1=ς (y,ch2))(O:vw ch2 x=ς dx)(U:vw ch2 y=ς dy)(Z:g dx dy=ς t):e2 m g fa fb δ ch=fin m ch2 t:=by unfold e2;rw[W,qa0,hb,qa0];dsimp only;rw[O,qa0,U,qa0,Z];rfl
theorem xH{a b:η Dt}(h:a.length+b.length<=qa9):oAdd.g (.e a) (.e b)=ς (.e (a++b)):=by show orO cW iy _ _=_;unfold orO cW;simp only[h,if_true]
theorem aF(h:f δ ch=ς (c,ch1))(O:c.kp=θ):aO i f δ ch=ς (.nx (δ.set i (ς c)) ch1):=by unfold aO;rw[h,qa0];dsimp only;rw[if_pos O]
theorem ck(h:f δ ch=ς (c,ch1))(O:c.sol=θ):sRt f δ ch=ς (.rt c ch1):=by unfold sRt;rw[h,qa0];dsimp only;rw[if_pos O]
theorem ae(h1:g1 δ ch=ς (.nx δ' ch1))(h2:g2 δ' ch1=ς o):aj g1 g2 δ ch=ς o:=by unfold aj;rw[h1];exact h2
theorem bR(h1:g1 δ ch=ς (.rt c ch1)):aj g1 g2 δ ch=ς (.rt c ch1):=by unfold aj;rw[h1];rfl
theorem Ck{pt:Pt}{g:Fs}{d:Dt}(h1:bnd pt d δ=ς δ')(h2:g δ' ch=ς (.rt c ch1)):bK (bnd pt) g (d::r) δ ch=ς (.rt c ch1):=by show(bnd pt d δ).bind _=_;rw[h1,qa0,h2];rfl
theorem cT{pt:Pt}{g:Fs}{d:Dt}{δ2:Sl}(h1:bnd pt d δ=ς δ')(h2:g δ' ch=ς (.nx δ2 ch1)):bK (bnd pt) g (d::r) δ ch=bK (bnd pt) g r δ2 ch1:=by show(bnd pt d δ).bind _=_;rw[h1,qa0,h2];rfl
theorem bH{pt:Pt}{g:Fs}(h1:fi δ ch=ς (ds,ch1))(h2:bK (bnd pt) g ds δ ch1=ς o):na fi (bnd pt) g δ ch=ς o:=by unfold na;rw[h1];exact h2
theorem rng1{j:Int}(h:eO j=θ):rng 1 [j]=ς (aD 0 j.toNat):=by simp only[rng,h,if_true]
theorem iR_i{fs:FM (η CV)}{j:Int}(h:fs δ ch=ς ([.g (.int j)],ch1))(hb:eO j=θ):iR 1 fs δ ch=ς (aD 0 j.toNat,ch1):=by unfold iR;rw[h];simp only[qa0,gq,qb2,rng1 hb]
theorem dA{fs:FM (η CV)}(h:fs δ ch=ς ([.g (.int j)],ch1))(hb:eO (j:Int)=θ):iR 1 fs δ ch=ς (aD 0 j,ch1):=by have e:=iR_i h hb;rw[qi4]at e;exact e
theorem Cm{g:Dt->η Dt->ζ T}{fs:FM (η CV)}{s:Str}{d:Dt}(U:fa δ ch=ς (.g (.str s),ch))(hs:fs δ ch=ς ([.g d],ch))(O:g (.str s) [d]=ς t):eMt m g fa fs δ ch=fin m ch t:=by unfold eMt;rw[U,qa0];dsimp only;rw[hs,qa0];show(g (.str s) [d]).bind _=_;rw[O];rfl
theorem aS(h:f δ ch=ς (c,ch1)):aCn f aNl δ ch=ς ([c],ch1):=by unfold aCn;rw[h];rfl
theorem ef{pt:Pt}{ft:FM Bool}{es:η Dt}(hi:fi δ ch=ς (ds,ch))(O:gC src δ=δ0)(h:aH (bnd pt) ft fe δ0 ds ch=ς (es.map .g,ch))(hl:es.length<=qa9):eCo .v src fi (bnd pt) ft fe δ ch=ς (.g (.e es),ch):=by unfold eCo;rw[hi,qa0,O];dsimp only;rw[h,qa0];dsimp only;rw[if_pos (by rw[qa4];exact hl)];unfold finL;rw[cA];rfl
theorem aT{cs:η CV}{g:Fs}(h:g (cs.map ς++qb1 (n-cs.length) ψ) ch=ς (.rt c ch1)):cG n g cs ch=ς (c,ch1):=by unfold cG;rw[h]
theorem nH{cs:η CV}{g:Fs}(h:g (cs.map ς++qb1 (n-cs.length) ψ) ch=ς (.nx δ' ch1)):cG n g cs ch=ς (.g .non,ch1):=by unfold cG;rw[h]
end
variable{cs1:CH}
section
variable{F:Fd}{ρ ρ1 ρ2:Nat->Nat}{cs b b1 b2:CH}{args:η CV}{d:Dt}{n n1 n2:Nat}
theorem At.pure(U:TrD F)(h:At ρ cs b)(hc:Cl cs)(ha:args.all (clV cs.length)=θ)(Z:F args cs=ς (.g d,cs)):F (rnA ρ args) b=ς (.g d,b):=by
 obtain⟨b',h1,E,K⟩:=h.go U hc ha Z;have hn:=E.nw 0;have W:hat ρ cs.length b.length (cs.length+0)=b.length+0:=by unfold hat;rw[if_neg Θ];lia
 rw[W]at hn
 have:b'=b:=by
  refine qy5 fun j=>?_
  by_cases O:∃i,hat ρ cs.length b.length i=j
  .obtain⟨i,rfl⟩:=O;rcases qj9 i cs.length with hi|hi
   .rw[E.get (gQ hi),(h.em hc).get (gQ hi)]
   .have:hat ρ cs.length b.length i=b.length+(i-cs.length):=if_neg Θ;rw[this,qh1 Θ,qh1 Θ]
  .exact K j fun i e=>O ⟨i,e⟩
 rw[this]at h1;exact h1
theorem Fr.refl:Fr ρ n b b:=⟨nL _,fun _ _ _=>rfl⟩
theorem Sb.refl:Sb ρ n b ρ n:=fun i hi=>.inl ⟨i,hi,rfl⟩
theorem Fr.trans(f:Fr ρ n b b1)(s:Sb ρ n b ρ1 n1)(g:Fr ρ1 n1 b1 b2):Fr ρ n b b2:=⟨qd1 f.le g.le,fun j O hi=>by
 rw[g.kp j (qc6 O f.le) fun i h e=>?_,f.kp j O hi];rcases s i h with ⟨k,U,q⟩|q
 .exact hi k U (q.symm.trans e)
 .lia⟩
theorem Sb.trans(f:Fr ρ n b b1)(s:Sb ρ n b ρ1 n1)(t:Sb ρ1 n1 b1 ρ2 n2):Sb ρ n b ρ2 n2:=fun i hi=>by
 rcases t i hi with ⟨k,O,q⟩|q
 .rw[q];exact s k O
 .exact .inr (qd1 f.le q)
structure Mv(ρ:Nat->Nat)(cs b:CH)(ρ':Nat->Nat)(cs' b':CH):Prop where
 at_:At ρ' cs' b'
 zero:ρ' 0=ρ 0
 fr:Fr ρ cs.length b b'
 sb:Sb ρ cs.length b ρ' cs'.length
theorem Mv.refl(h:At ρ cs b):Mv ρ cs b ρ cs b:=⟨h,rfl,.refl,.refl⟩
theorem Mv.trans{O:CH}(h:Mv ρ cs b ρ1 cs1 b1)(k:Mv ρ1 cs1 b1 ρ2 O b2):Mv ρ cs b ρ2 O b2:=⟨k.at_,k.zero.trans h.zero,h.fr.trans h.sb k.fr,h.sb.trans h.fr k.sb⟩
theorem Rn.mv(r:Rn F args cs d cs1)(h:At ρ cs b):∃ ρ' b',F (rnA ρ args) b=ς (.g d,b')/\Mv ρ cs b ρ' cs1 b':=let ⟨ρ',b',h1,h2,h3,h4,h5⟩:=r ρ b h;⟨ρ',b',h1,h2,h3,h4,h5⟩
end
section
variable{F:Fd}{ch a a':CH}{args:η CV}{x:CV}
theorem o4:Em (ch.length + ·) a (ch++a.map (rnO (ch.length + ·))):=by refine⟨fun i j h=>Nat.add_left_cancel h,fun {i o} h=>?_,fun k=>by simp;lia⟩;rw[gR Θ,qf8,qa8,h];rfl
theorem xI(E:Em (ch.length + ·) a' b')(K:Kp (ch.length + ·) (ch++a.map (rnO (ch.length + ·))) b'):b'=ch++a'.map (rnO (ch.length + ·)):=by
 have hl:ch.length+(a'.length+0)=b'.length+0:=E.nw 0;refine qy5 fun j=>?_
 rcases qj9 j ch.length with O|O
 .rw[K j fun i e=>by have e:ch.length+i=j:=e;lia,gL O,gL O]
 .obtain⟨i,rfl⟩:=Nat.exists_eq_add_of_le O;rw[gR Θ,qf8,qa8];rcases qj9 i a'.length with hi|hi
  .rw[gQ hi];exact E.get (gQ hi)
  .rw[qh1 hi,qh1 Θ];rfl
theorem TrD.tail(O:TrD F)(h:F args a=ς (x,a')):F (rnA (ch.length + ·) args) (ch++a.map (rnO (ch.length + ·)))=ς (rn (ch.length + ·) x,ch++a'.map (rnO (ch.length + ·))):=by obtain⟨b',h1,E,K⟩:=O o4 h;rw[h1,xI E K]
theorem eZ{c:Nat}{fs:FM (η CV)}(O:TrD F)(hs:fs δ ch=ς (ds.map .g,ch))(U:n=ds.length+1)(h:F (.ref 0::ds.map .g) [.ins c []]=ς (.g .non,a'))(hl:0<a'.length):eMk c n F fs δ ch=ς (.ref ch.length,ch++a'.map (rnO (ch.length + ·))):=by
 have e:=O.tail (ch:=ch) h;have W:rnA (ch.length + ·) (.ref 0::ds.map .g)=.ref ch.length::ds.map .g:=by simp[rn,qb4]
 have e2:ch++[CO.ins c []].map (rnO (ch.length + ·))=ch++[.ins c []]:=rfl;rw[W,e2]at e;unfold eMk kCa;rw[hs,qa0];dsimp only;rw[if_pos ⟨by simp[U],by simp[CV.old]⟩,e,qa0];simp only[rn];rw[if_pos (by simp;lia)]
end
inductive Sm where
 |put (n:Str) (p:Nat) (v:Int)|wake|beg (a b c d:Int)|box (n:Str) (v:Int)|log (n:Str) (p:Nat) (v:Int)|trn
def Sm.d:Sm->Dt
 |.put n p v=>.t [.str "put",.str n,.int p,.int v]
 |.wake=>.t [.str "wake"]
 |.beg a b c d=>.t [.str "begin",.int a,.int b,.int c,.int d]
 |.box n v=>.t [.str "box",.str n,.int v]
 |.log n p v=>.t [.str "log",.str n,.int p,.int v]
 |.trn=>.t [.str "turn"]
abbrev Tn:=(Str×Nat)×Int
def Tn.d(t:Tn):Dt:=.t [.t [.str t.1.1,.int t.1.2],.int t.2]
variable{ts:η Tn}{P:η Dt}{S':HS}
section
variable{S:HS}{lv:CV}{rf:η (Key×CV)}{tl:CH}
theorem lT{ch:CH}{k:Str}(hl:ts.length<=qa9):F16 [.g (.str k),.g (.e (ts.map Tn.d))] ch=ς (.g (.e (ts.map fun t=>.t [.str k,.str t.1.1,.int t.1.2,.int t.2])),ch):=by
 simp only[q16,cG,aj,sRt,eCo,iE,eV]
 have:=b9 (pt:=.many [0,1]) (ft:=tYs) (fe:=eTu (aCn (eV 2) (aCn (eIx (eV 0) (eK (.int 0))) (aCn (eIx (eV 0) (eK (.int 1))) (aCn (eV 1) aNl))))) (δ:=gC [ψ,ψ,ς 0] [ς (.g (.str k)),ς (.g (.e (ts.map Tn.d)))]) (ch:=ch) (f:=Tn.d) (g:=fun t:Tn=>.t [.str k,.str t.1.1,.int t.1.2,.int t.2]) (l:=ts) fun t _=>⟨_,rfl,rfl,by simp! only[gC];simp! []⟩
 simp[lent,itD,this,qa4,hl,bL,fin,T.d,CV.sol]
def eg(ts:η Tn):η Sm:=ts.map fun t=>.put t.1.1 t.1.2 t.2
def ur(ts:η Tn):η Sm:=ts.map fun t=>.log t.1.1 t.1.2 t.2
theorem jF{a b c d e:Dt}(hl:ts.length<qa9):F17 [.g (.t [a,b,c,d,e,.e (ts.map Tn.d)])] ch=ς (.ref ch.length,ch++[dl ((eg ts++[Sm.wake]).map Sm.d)]):=by have O:=hl;rw[qa7]at O;simp! only[q17];simp! [lT (qq6 hl),eg,Sm.d,show ts.length+1<=16777216 by lia,qb4]
section
variable{ch':CH}{n p v a b c d:Dt}
theorem Co(h:F27 [.ref 1,.g n,.g p,.g v] (hb S lv rf tl)=ς (.g .non,ch')):F33 [.ref 1,.g (.t [.str "put",n,p,v])] (hb S lv rf tl)=ς (.g .non,ch'):=by simp! only[q33];simp! [h]
theorem ut(h:F29 [.ref 1,.g a,.g b,.g c,.g d] (hb S lv rf tl)=ς (.g .non,ch')):F33 [.ref 1,.g (.t [.str "begin",a,b,c,d])] (hb S lv rf tl)=ς (.g .non,ch'):=by simp! only[q33];simp! [h]
theorem uu(h:F30 [.ref 1,.g n,.g v] (hb S lv rf tl)=ς (.g .non,ch')):F33 [.ref 1,.g (.t [.str "box",n,v])] (hb S lv rf tl)=ς (.g .non,ch'):=by simp! only[q33];simp! [h]
theorem uv(h:F31 [.ref 1,.g n,.g p,.g v] (hb S lv rf tl)=ς (.g .non,ch')):F33 [.ref 1,.g (.t [.str "log",n,p,v])] (hb S lv rf tl)=ς (.g .non,ch'):=by simp! only[q33];simp! [h]
theorem Cp:F33 [.ref 1,.g (.t [.str "turn"])] (hb S lv rf tl)=ς (.g .non,hb {S with cnt:=1-S.cnt} lv rf tl):=by simp! only[q33];simp! [xE]
theorem eh{k:Str}{q:Dt}(hp:S.plan=.t (.str k::r)::q::P)(Z:(k=qa2 "wake")=False)(hl:S.plan.length<=1000000)(W:F33 [.ref 1,.g (.t (.str k::r))] (hb {S with plan:=q::P} lv rf tl)=ς (.g .non,ch'))(O:ch'[0]?=ς (hO S' lv (.ref 3)))(U:ch'[3]?=ς (dl (q::P))):F34 [.ref 0] (hb S lv rf tl)=ς (.g .non,ch'):=by have e:(hb S lv rf tl).set 3 (.e ((q::P).map .g))=hb {S with plan:=q::P} lv rf tl:=rfl;rw[hp]at hl;simp only[qb8]at hl;simp only[qa3]at e;simp! only[q34,qB];simp! [Z,hp,hl,e,W,O,U,hO,show((P.length:Int)+1=0)=False from eq_false Θ]
theorem nI{k:Str}{a b c d e:CV}{bx:CO}{lg:η (η Key×CV)}(hp:S.plan=[.t (.str k::r)])(W:(k=qa2 "wake")=False)(U:F33 [.ref 1,.g (.t (.str k::r))] (hb {S with plan:=[]} (.ref 13) rf tl)=ς (.g .non,hb S' (.ref 13) rf (.ins 1 [a,b,c,d,.ref 14,e,.ref 15]::bx::.dT lg::ch')))(O:S'.plan=[]):F34 [.ref 0] (hb S (.ref 13) rf tl)=ς (.g .non,hb S' (.ref 13) rf (.ins 1 [a,b,c,d,.ref 14,e,.ref 15]::bx::.dT []::ch')):=by have Z:(hb S (.ref 13) rf tl).set 3 (.e [])=hb {S with plan:=[]} (.ref 13) rf tl:=rfl;simp! only[q34,qB];have t1:(hb S' (.ref 13) rf (.ins 1 [a,b,c,d,.ref 14,e,.ref 15]::bx::.dT lg::ch'))[13]?=ς (.ins 1 [a,b,c,d,.ref 14,e,.ref 15]):=rfl;have t2:(hb S' (.ref 13) rf (.ins 1 [a,b,c,d,.ref 14,e,.ref 15]::bx::.dT lg::ch'))[15]?=ς (.dT lg):=rfl;simp! [W,hp,Z,U,O,t1,t2,wY];rfl
end
abbrev Bx:=Str×Int
def Bx.d(t:Bx):Dt:=.t [.str t.1,.int t.2]
def bxK(l:η Bx):η (Key×Dt):=l.map fun t=>(.inr t.1,.int t.2)
theorem fg{ch:CH}:∀l:η Bx,bc ch (l.map (CV.g ∘ Bx.d))=ς (dp (bxK l))
 |[]=>rfl
 |t::l=>by simp only[qa3,Function.comp_apply,bc,Bx.d,cF,cX,qb2,qa0,fg (ch:=ch) l];rfl
theorem kN{l:η Bx}(O:(l.map (·.1)).Nodup):((bxK l).map (·.1)).Nodup:=by
 have e:(bxK l).map (·.1)=(l.map (·.1)).map ql9:=by simp[bxK]
 rw[e];exact qm8 _ (fun a b h q=>h (zd3 q)) O
theorem uw{l:η (Key×Dt)}(O:(l.map (·.1)).Nodup):lJ .o (dp l) ch=ς (.ref ch.length,ch++[.dK (dp l)]):=by unfold lJ;rw[bG];dsimp only;rw[nG];simp only[fin,al,O,if_true];rfl
theorem xJ{a b c d u:Int}{l:η Bx}{t:Dt}(O:(l.map (·.1)).Nodup):F26 [.ref 0,.g (.t [.int a,.int b,.int c,.int d,.e (l.map Bx.d),t]),I u] [.ins 1 []]=ς (.g .non,[.ins 1 [I a,I b,I c,I d,.ref 1,I u,.ref 2],.dK (dp (bxK l)),.dT []]):=by
 have U:((dp (bxK l)).map (·.1)).Nodup:=by rw[bP];exact kN O
 simp! only[q26,eDc,eDn];simp[lent,vw,ixV,ixD,az,gIx,atI,ixN,asI,CV.sol,cr,kx,fg];rw[if_pos U,uw (kN O)];simp[lent,fin,al,CV.sol]
theorem ei{κ:Type}{l:η (κ×Dt)}:rnP ρ (dp l)=dp l:=by simp[rnP,dp,rn,qb4]
theorem nJ {a b c d:Int} {l:η Bx} {t:Dt} (hp:S.plan=[.t [.str "wake"]]) (hc:S.cnt=0∨S.cnt=1) (h0:S.h0.length=4) (h1:S.h1.length=4) (hg:pgD S=[.int a,.int b,.int c,.int d,.e (l.map Bx.d),t]) (hn:(l.map (·.1)).Nodup) :
  F34 [.ref 0] (hb S lv rf tl)=ς (.g .non,hb {S with plan:=[]} (.ref (tl.length+13)) rf (tl++[.ins 1 [I a,I b,I c,I d,.ref (tl.length+13+1),I S.dust,.ref (tl.length+13+2)],.dK (dp (bxK l)),.dT []])):=by
 have e1:(hb S lv rf tl).set 3 (.e [])=hb {S with plan:=[]} lv rf tl:=rfl;have U:F19 [.ref 0,I S.cnt] (hb {S with plan:=[]} lv rf tl)=ς (.g (.t (pgD S)),hb {S with plan:=[]} lv rf tl):=kM (S:={S with plan:=[]}) h0 h1 hc
 have O:=eZ (F:=F26) (c:=1) (n:=3) (ch:=hb {S with plan:=[]} lv rf tl) (δ:=[ς (.ref 0),ς (.g (.t [.str "wake"]))]) (fs:=aCn (eMe 3 2 F19 (eV 0) (aCn (eMe 3 1 F21 (eV 0) aNl) aNl)) (aCn (eAt 3 8 (eV 0)) aNl)) (ds:=[.t (pgD S),.int S.dust]) (aB _) (by simp! only[];simp! [iC,U]) rfl (by rw[hg];exact xJ hn) Ξ
 have eL:(hb {S with plan:=[]} lv rf tl).length=tl.length+13:=rfl
 have eX:hb {S with plan:=[]} lv rf tl++zg2 (rnO fun x=>tl.length+13+x) [CO.ins 1 [I a,I b,I c,I d,.ref 1,I S.dust,.ref 2],.dK (dp (bxK l)),.dT []]=hb {S with plan:=[]} lv rf (tl++[.ins 1 [I a,I b,I c,I d,.ref (tl.length+13+1),I S.dust,.ref (tl.length+13+2)],.dK (dp (bxK l)),.dT []]):=by simp only[qa3,qe0,rnO,rn,ei];rfl
 rw[eL,eX]at O;generalize Z:tl++[CO.ins 1 [I a,I b,I c,I d,.ref (tl.length+13+1),I S.dust,.ref (tl.length+13+2)],.dK (dp (bxK l)),.dT []]=W at O ⊢;have t1:W[tl.length]?=ς (CO.ins 1 [I a,I b,I c,I d,.ref (tl.length+13+1),I S.dust,.ref (tl.length+13+2)]):=by rw[<- Z];simp
 have t2:W[tl.length+2]?=ς (CO.dT []):=by rw[<- Z,qe1 Θ];simp
 have t3:W.set (tl.length+2) (CO.dT [])=W:=by
  refine qy5 fun j=>?_
  by_cases hj:tl.length+2=j
  .subst hj;rw[qe5 (ao t2),t2]
  .rw[gN hj]
 have e3:(hb {S with plan:=[]} lv rf W).set 0 (.ins 3 [.g (.t S.x.rows),.g (.e S.x.onw),.g (.dct S.x.sk S.x.sv),.g (.e S.x.tw),.g (.dct S.x.kk S.x.kv),.g (.e S.x.inc),.ref 1,.ref 2,I S.dust,.ref (tl.length+13),.ref 3])=hb {S with plan:=[]} (.ref (tl.length+13)) rf W:=rfl;have e4:(hb {S with plan:=[]} (.ref (tl.length+13)) rf W)[tl.length+13+2]?=ς (CO.dT []):=by rw[show tl.length+13+2=tl.length+2+13 by lia,uj,t2]
 have e5:(hb {S with plan:=[]} (.ref (tl.length+13)) rf W).set (tl.length+13+2) (CO.dT [])=hb {S with plan:=[]} (.ref (tl.length+13)) rf W:=by have:(hb {S with plan:=[]} (.ref (tl.length+13)) rf W).set (tl.length+2+13) (CO.dT [])=hb {S with plan:=[]} (.ref (tl.length+13)) rf (W.set (tl.length+2) (CO.dT [])):=rfl;rw[show tl.length+13+2=tl.length+2+13 by lia,this,t3]
 simp! only[q34,qB]at O ⊢;simp! [uj,hp,e1,O,e3,t1,e4,e5,wY]
end
def Vi(d:Dt):Prop:=∃i:Int,d=.int i/\0<=i/\i<1099511627776
structure LS where
 pl:Int
 dn:Int
 he:Int
 sy:Int
 du:Int
 bx:List (Key×Dt)
 lg:List (List Key×Dt)
def lO(l:LS):CO:=.ins 1 [I l.pl,I l.dn,I l.he,I l.sy,.ref 14,I l.du,.ref 15]
abbrev hl(S:HS)(l:LS)(rf:η (Key×CV))(tl:CH):CH:=hb S (.ref 13) rf (lO l::.dK (dp l.bx)::.dT (dp l.lg)::tl)
section
variable{S:HS}{lv:CV}{rf:η (Key×CV)}{tl:CH}{l:LS}{x y z:CO}
theorem ax:(hb S lv rf (lO l::y::z::tl))[13]?=ς (.ins 1 [I l.pl,I l.dn,I l.he,I l.sy,.ref 14,I l.du,.ref 15]):=rfl
theorem jG:(hb S lv rf (x::y::z::tl))[14]?=ς y:=rfl
theorem lU:(hb S lv rf (x::y::z::tl))[15]?=ς z:=rfl
theorem hl_t{k:Nat}:(hb S lv rf (x::y::z::tl))[k+16]?=tl[k]?:=rfl
theorem EZ{o:CO}:(hb S lv rf (x::y::z::tl)).set 15 o=hb S lv rf (x::y::o::tl):=rfl
theorem lV{o:CO}:(hb S lv rf (x::y::z::tl)).set 14 o=hb S lv rf (x::o::z::tl):=rfl
theorem fj{κ:Type}[DecidableEq κ]{k:κ}:∀b:η (κ×Dt),lkC (dp b) k=(ay (b.map (·.1)) (b.map (·.2)) k).map .g
 |[]=>rfl
 |p::b=>by
  have O:=fj (k:=k) b;by_cases h:p.1=k
  .simp[lkC,dp,ay,qy4,h]
  .simp only[lkC,dp,qa3,qy4,h,decide_false,ay,if_false]at O ⊢;exact O
theorem bz{κ:Type}[DecidableEq κ]{k:κ}{d:Dt}:∀b:η (κ×Dt),b6 (dp b) k (.g d)=dp (bY b k d)
 |[]=>rfl
 |p::b=>by
  have O:=bz (k:=k) (d:=d) b;simp only[dp,qa3,b6,bY]at O ⊢;split
  .rfl
  .rw[O];rfl
theorem dF{κ:Type}[DecidableEq κ]{k:κ}{d:Dt}{p:κ×Dt}:∀{b:η (κ×Dt)},p∈bY b k d->p=(k,d)∨p∈b
 |[],h=>by simp[bY]at h;exact .inl h
 |q::b,h=>by
  unfold bY at h;split at h
  .rename_i e;rcases qc4.mp h with rfl|h
   .exact .inl (by rw[e])
   .exact .inr (.tail _ h)
  .rcases qc4.mp h with rfl|h
   .exact .inr (.head _)
   .rcases dF h with h|h
    .exact .inl h
    .exact .inr (.tail _ h)
theorem dG{κ:Type}[DecidableEq κ]{k:κ}{d:Dt}:∀{b:η (κ×Dt)},(bY b k d).length<=b.length+1
 |[]=>by simp[bY]
 |q::b=>by
  unfold bY;split
  .simp
  .have:=dG (k:=k) (d:=d) (b:=b);simp;lia
theorem bo{κ:Type}[DecidableEq κ]{k:κ}{d:Dt}:∀{b:η (κ×Dt)},ay (b.map (·.1)) (b.map (·.2)) k=ς d->(k,d)∈b
 |[],h=>by cases h
 |p::b,h=>by
  simp only[qa3,ay]at h;split at h
  .rename_i e;cases h;rw[<- e];exact .head _
  .exact .tail _ (bo h)
theorem cb(W:Vi (.int l.du))(U:∀p∈l.bx,Vi p.2)(a:Key)(Z:Vi (ak a)∨∃s,a=.inr s):∃v,Vi (.int v)/\F36 [.ref 13,.g (ak a)] (hl S l rf tl)=ς (I v,hl S l rf tl):=by
 cases a with
 |inl i=>
  have:Vi (.int i):=by rcases Z with h|⟨s,h⟩;exact h;cases h
  refine⟨i,this,?_⟩;simp! only[q36];simp! [ak]
 |inr s=>
  have O:∃v,Vi (.int v)/\((ay (l.bx.map (·.1)) (l.bx.map (·.2)) (.inr s)).map .g).getD (I l.du)=I v:=by
   cases q:ay (l.bx.map (·.1)) (l.bx.map (·.2)) (ql9 s)with
   |none=>exact⟨l.du,W,rfl⟩
   |some d=>obtain⟨i,h1,h2⟩:=U _ (bo q);cases h1;exact⟨i,⟨i,rfl,h2⟩,rfl⟩
  obtain⟨v,h1,h2⟩:=O;refine⟨v,h1,?_⟩;simp! only[q36];simp! [ak,ax,jG,fj,h2]
structure Pl(rf:List (Key×CV))(tl:CH)(n:Str)(k:Nat)(L:List Dt):Prop where
 rf:lkC rf (.inr n)=ς (.ref (k+16))
 tl:tl[k]?=ς (.e (L.map .g))
 vi:∀d∈L,Vi d
theorem gM(h:p<n):ixN n (p:Int)=ς p:=by unfold ixN;simp;lia
theorem lW{n:Str}(W:Vi (.int l.du))(U:∀p∈l.bx,Vi p.2)(a:Key)(Z:Vi (ak a)∨∃s,a=.inr s)(hs:ay S.x.sk S.x.sv (.inr n)=ς (.int m))(hm:0<m):∃p:Nat,p<m/\F38 [.ref 0,.g (.str n),.g (ak a)] (hl S l rf tl)=ς (I p,hl S l rf tl):=by
 obtain⟨v,hv,h1⟩:=cb (S:=S) (rf:=rf) (tl:=tl) W U a Z;have O:(0:Int)<m:=by lia
 have h2:=qh9 v (show(m:Int)≠0 by lia);have h3:=qf3 v O;refine⟨(v%m).toNat,Θ,?_⟩;simp! only[q38];simp! [ax,h1,hs,oMod,aA,hm];exact(Int.max_eq_left h2).symm
theorem Cq{n:Str}{k:Nat}{L:η Dt}(h:Pl rf tl n k L)(hp:p<L.length):F42 [.ref 1,.g (.str n),I p] (hl S l rf tl)=ς (.g L[p],hl S l rf tl):=by simp! only[q42];simp[lent,vw,ixV,ixO,asI,cX,CV.sol,xu,xw,uh,xx,xy,xz,xA,xB,ui,xC,oX,oY,oZ,h.rf,hl_t,h.tl,atI,gM hp,hp]
theorem lY{n:Str}{k:Nat}{L:η Dt}(U:∀q∈l.lg,Vi q.2)(h:Pl rf tl n k L)(hp:p<L.length):∃v,Vi (.int v)/\F43 [.ref 0,.g (.str n),I p] (hl S l rf tl)=ς (I v,hl S l rf tl):=by
 cases q:ay (l.lg.map (·.1)) (l.lg.map (·.2)) [ql9 n,qp0 (p:Int)]with
 |some d=>obtain⟨i,h1,h2⟩:=U _ (bo q);cases h1;refine⟨i,⟨i,rfl,h2⟩,?_⟩;simp! only[q43];simp! [ax,lU,oIn,gIn,inD,eU,isK,fj,q,bG,bP]
 |none=>obtain⟨i,h1,h2⟩:=h.vi L[p] (ql2 hp);have O:=Cq (S:=S) (l:=l) h hp;rw[h1]at O;refine⟨i,⟨i,rfl,h2⟩,?_⟩;simp! only[q43];simp! [ax,lU,oIn,gIn,inD,eU,isK,fj,q,bG,bP,O]
theorem xK{n:Str}{k:Nat}{v:Dt}{L:η Dt}(h:Pl rf tl n k L)(hp:p<L.length):F27 [.ref 1,.g (.str n),I p,.g v] (hl S l rf tl)=ς (.g .non,hl S l rf (tl.set k (dl (L.set p v)))):=um (k:=k+3) (l:=L) h.rf (by simpa using h.tl) hp
theorem ux{n:Str}{k:Nat}{v:Dt}{L:η Dt}(ht:∀d∈S.x.tw,∃s,d=.str s)(h:Pl rf tl n k L)(hp:p<L.length)(O:l.lg.length<qa9):F37 [.ref 0,.g (.str n),I p,.g v] (hl S l rf tl)=ς (.g .non,hl S {l with lg:=bY l.lg [.inr n,.inl p] v} rf tl)∨F37 [.ref 0,.g (.str n),I p,.g v] (hl S l rf tl)=ς (.g .non,hl S l rf (tl.set k (dl (L.set p v)))):=by
 have W:S.x.tw.all cz=θ:=qc0.mpr fun d Z=>by obtain⟨s,rfl⟩:=ht d Z;rfl
 have U:=xK (S:=S) (l:=l) (v:=v) h hp;rw[qa7]at O;cases q:S.x.tw.any fun y=>eqF y (.str n)with
 |true=>
  left
  have hi:oIn.g (.str n) (.e S.x.tw)=ς (.f (.bl θ)):=by
   have:inD (.str n) (.e S.x.tw)=ς θ:=by show(if(θ&&S.x.tw.all cz)=θ then ς (S.x.tw.any fun y=>eqF y (.str n))else ψ)=_;rw[W,q];rfl
   show orO (gIn ξ) (eU ξ) _ _=_;unfold orO gIn;rw[this];rfl
  simp! only[q37];simp! [ax,lU,EZ,hi,isK,bz,iB,O];rfl
 |false=>
  right
  have hi:oIn.g (.str n) (.e S.x.tw)=ς (.f (.bl ξ)):=by
   have:inD (.str n) (.e S.x.tw)=ς ξ:=by show(if(θ&&S.x.tw.all cz)=θ then ς (S.x.tw.any fun y=>eqF y (.str n))else ψ)=_;rw[W,q];rfl
   show orO (gIn ξ) (eU ξ) _ _=_;unfold orO gIn;rw[this];rfl
  simp! only[q37];simp! [ax,lU,hi,U]
theorem qI(hi:∀d∈S.x.inc,Vi d)(W:0<=l.he):∃v,Vi (.int v)/\F44 [.ref 0] (hl S l rf tl)=ς (I v,hl S {l with he:=l.he+1} rf tl):=by
 have U:(hl S l rf tl).set 13 (.ins 1 [I l.pl,I l.dn,I (l.he+1),I l.sy,.ref 14,I l.du,.ref 15])=hl S {l with he:=l.he+1} rf tl:=rfl;by_cases h:l.he<S.x.inc.length
 .obtain⟨p,hp⟩:=qf9 W;have O:p<S.x.inc.length:=by lia
  obtain⟨i,h1,h2⟩:=hi S.x.inc[p] (ql2 O);refine⟨i,⟨i,rfl,h2⟩,?_⟩;have Z:ixD (.e S.x.inc) (.int l.he)=ς (.int i):=by rw[hp];simp[ixD,az,gIx,atI,gM O,O,h1]
  simp! only[q44];dsimp! [ax,U,h,Z]
 .refine⟨0,⟨0,rfl,Θ⟩,?_⟩;simp! only[q44];simp! [ax,U,h]
theorem iD{k s:Str}{g r:Fs}(h:δ[i]?=ς (ς (.g (.str k)))):aj (sIf (aL (e2 .v oEq.g (eV i) (eK (.str s)))) g ar) r δ ch=if k=s then aj g r δ ch else r δ ch:=by
 have e:aL (e2 .v oEq.g (eV i) (eK (.str s))) δ ch=ς (decide (k=s),ch):=by simp only[aL,e2,eV,eK,h];rfl
 unfold aj sIf;rw[e];by_cases h:k=s<;>simp[h,ar]
theorem lZ{sg:Str}{a b:Int}(U:Vi (.int b)):∃v,Vi (.int v)/\F41 [.g (.str sg),I a,I b] ch=ς (I v,ch):=by
 have W:∃v:Int,F40 [.g (.str sg),I a,I b] ch=ς (I v,ch):=by
  obtain⟨_,h1,h2,h3⟩:=U;cases h1;have hm:cj a b=θ:=oj Θ Θ;rw[q40];unfold cG;have Z:(([CV.g (.str sg),I a,I b].map ς++qb1 (3-[CV.g (.str sg),I a,I b].length) ψ):Sl)=[ς (.g (.str sg)),ς (I a),ς (I b)]:=rfl;rw[Z];rw[iD (k:=sg) (s:=qa2 "+") rfl];by_cases h:sg=qa2 "+"
  .rw[if_pos h];exact⟨_,rfl⟩
  rw[if_neg h];clear h;rw[iD (k:=sg) (s:=qa2 "-") rfl];by_cases h:sg=qa2 "-"
  .rw[if_pos h];exact⟨_,rfl⟩
  rw[if_neg h];clear h;rw[iD (k:=sg) (s:=qa2 "*") rfl];by_cases h:sg=qa2 "*"
  .rw[if_pos h];refine⟨a*b,?_⟩;simp! only[];simp! [oMul,iS,hm]
  rw[if_neg h];clear h;rw[iD (k:=sg) (s:=qa2 "<") rfl];by_cases h:sg=qa2 "<"
  .rw[if_pos h];by_cases O:a<b
   .refine⟨1,?_⟩;simp! only[];simp! [O]
   .refine⟨0,?_⟩;simp! only[];simp! [O]
  rw[if_neg h];clear h;rw[iD (k:=sg) (s:=qa2 "=") rfl];by_cases h:sg=qa2 "="
  .rw[if_pos h];by_cases O:a=b
   .refine⟨1,?_⟩;simp! only[];simp! [O]
   .refine⟨0,?_⟩;simp! only[];simp! [O]
  rw[if_neg h];clear h;rw[iD (k:=sg) (s:=qa2 "&") rfl];by_cases h:sg=qa2 "&"
  .rw[if_pos h];exact⟨_,rfl⟩
  rw[if_neg h];clear h;rw[iD (k:=sg) (s:=qa2 "|") rfl];by_cases h:sg=qa2 "|"
  .rw[if_pos h];exact⟨_,rfl⟩
  rw[if_neg h];clear h;exact⟨_,rfl⟩
 obtain⟨v,h⟩:=W;refine⟨v%1099511627776,⟨_,rfl,Θ,Θ⟩,?_⟩;simp! only[q41];simp! [h,oMod,aA]
end
variable{y:Str}
theorem Cr(h:x.length+y.length<=qa9):cW (.str x) (.str y)=ς (.f (.str (x++y))):=if_pos h
theorem E4{i:Int}(h:x.length<=qa9):gIxA (.str x) (.int i)=(atI x.cps.toList i).map fun c=>.f (.str ⟨#[c]⟩):=if_pos h
theorem o5(h:n<=1000000):n<=qa9:=qd1 h Ω
theorem nK(cs:η Nat):zg1 "" (cs.map fun c=>(⟨#[c]⟩:Str))=⟨cs.toArray⟩:=by
 have U:("":Str).cps=#[]:=by decide +kernel
 have go:∀(l:η Nat)(O:Array Nat),(l.map fun c=>(⟨#[c]⟩:Str)).foldl (fun O p=>O++("":Str).cps++p.cps) O=O++l.toArray:=by
  intro l;induction l with
  |nil=>intro O;simp
  |cons c l W=>intro O;rw[qa3,qr6,W,U];simp
 unfold zg1 qj1.Str.glued;cases cs with
 |nil=>rfl
 |cons c r=>show(⟨(r.map fun c=>(⟨#[c]⟩:Str)).foldl (fun O p=>O++("":Str).cps++p.cps) (#[c]:Array Nat)⟩:Str)=_;rw[go];simp
theorem kO(cs:η Nat)(h:cs.length<=1000):JoinOk "" (cs.map fun c=>(⟨#[c]⟩:Str))=θ:=by
 unfold JoinOk
 have h1:∀y∈cs.map (fun c=>(⟨#[c]⟩:Str)),y.length<=1:=fun y O=>by obtain⟨c,_,rfl⟩:=qc8.mp O;exact nL _
 rw[StrLaws.joinFits h1 (by rw[qa4,show("":Str).length=0 by decide +kernel];lia)];rfl
theorem ej:∀ts:η Str,dj (ts.map .str)=ς ts
 |[]=>rfl
 |t::r=>by show(dj (r.map .str)).map (t::·)=_;rw[ej r];rfl
def sgD(cs:η Nat):η Dt:=cs.map fun c=>.str ⟨#[c]⟩
theorem uy{cs:η Nat}(h:cs.length<=1000):kh (.str "") [.e (sgD cs)]=ς (.f (.str ⟨cs.toArray⟩)):=by
 have e:sgD cs=(cs.map fun c=>(⟨#[c]⟩:Str)).map .str:=by unfold sgD;rw[qd4];rfl
 show(dj (sgD cs)).bind _=_;rw[e,ej,qa0,if_pos (kO cs h),nK]
theorem Cs{α:Type}{xs:η α}{i:Int}(U:0<=i)(h1:i<xs.length):∃v,atI xs i=ς v/\v∈xs:=by
 obtain⟨n,rfl⟩:=qf9 U;have O:n<xs.length:=by lia
 exact⟨xs[n],v0 (by simp[O]),ql2 O⟩
theorem xL(x:Str):x.length=x.cps.toList.length:=by show x.cps.size=_;simp
theorem xM{i:Int}(hl:x.length<=1000000)(O:0<=i)(h1:i<x.length):∃c,gIxA (.str x) (.int i)=ς (.f (.str ⟨#[c]⟩))/\c∈x.cps.toList:=by obtain⟨c,e,U⟩:=Cs (xs:=x.cps.toList) O (by rw[<- xL];exact h1);refine⟨c,?_,U⟩;rw[E4 (o5 hl),e];rfl
open PySem
theorem vq:(qa2 "copy"=qa2 "store")=False:=ω
theorem zn:(qa2 "copy"=qa2 "lay")=False:=ω
theorem zo:(qa2 "copy"=qa2 "say")=False:=ω
theorem Ct:(qa2 "copy"=qa2 "if")=False:=ω
theorem Cu:(qa2 "copy"=qa2 "go")=False:=ω
theorem zp:(qa2 "copy"=qa2 "end")=False:=ω
theorem Cv:(qa2 "op"=qa2 "copy")=False:=ω
theorem zq:(qa2 "op"=qa2 "store")=False:=ω
theorem C8:(qa2 "op"=qa2 "lay")=False:=ω
theorem C9:(qa2 "op"=qa2 "say")=False:=ω
theorem E5:(qa2 "op"=qa2 "if")=False:=ω
theorem E6:(qa2 "op"=qa2 "go")=False:=ω
theorem Db:(qa2 "op"=qa2 "end")=False:=ω
theorem xN:(qa2 "load"=qa2 "copy")=False:=ω
theorem Cw:(qa2 "load"=qa2 "op")=False:=ω
theorem vt:(qa2 "load"=qa2 "store")=False:=ω
theorem zr:(qa2 "load"=qa2 "lay")=False:=ω
theorem zt:(qa2 "load"=qa2 "say")=False:=ω
theorem Cy:(qa2 "load"=qa2 "if")=False:=ω
theorem Cz:(qa2 "load"=qa2 "go")=False:=ω
theorem zu:(qa2 "load"=qa2 "end")=False:=ω
theorem xO:(qa2 "store"=qa2 "lay")=False:=ω
theorem xP:(qa2 "store"=qa2 "say")=False:=ω
theorem zw:(qa2 "store"=qa2 "if")=False:=ω
theorem zx:(qa2 "store"=qa2 "go")=False:=ω
theorem xQ:(qa2 "store"=qa2 "end")=False:=ω
theorem xR:(qa2 "take"=qa2 "copy")=False:=ω
theorem CA:(qa2 "take"=qa2 "op")=False:=ω
theorem xS:(qa2 "take"=qa2 "load")=False:=ω
theorem vv:(qa2 "take"=qa2 "store")=False:=ω
theorem zy:(qa2 "take"=qa2 "lay")=False:=ω
theorem zz:(qa2 "take"=qa2 "say")=False:=ω
theorem CB:(qa2 "take"=qa2 "if")=False:=ω
theorem CC:(qa2 "take"=qa2 "go")=False:=ω
theorem zA:(qa2 "take"=qa2 "end")=False:=ω
theorem xT:(qa2 "lay"=qa2 "store")=False:=ω
theorem CD:(qa2 "lay"=qa2 "say")=False:=ω
theorem Dc:(qa2 "lay"=qa2 "if")=False:=ω
theorem Dg:(qa2 "lay"=qa2 "go")=False:=ω
theorem CF:(qa2 "lay"=qa2 "end")=False:=ω
theorem xU:(qa2 "hear"=qa2 "copy")=False:=ω
theorem CG:(qa2 "hear"=qa2 "op")=False:=ω
theorem xV:(qa2 "hear"=qa2 "load")=False:=ω
theorem vA:(qa2 "hear"=qa2 "store")=False:=ω
theorem xW:(qa2 "hear"=qa2 "take")=False:=ω
theorem zB:(qa2 "hear"=qa2 "lay")=False:=ω
theorem zC:(qa2 "hear"=qa2 "say")=False:=ω
theorem CI:(qa2 "hear"=qa2 "if")=False:=ω
theorem CJ:(qa2 "hear"=qa2 "go")=False:=ω
theorem zD:(qa2 "hear"=qa2 "end")=False:=ω
theorem xY:(qa2 "say"=qa2 "store")=False:=ω
theorem CK:(qa2 "say"=qa2 "lay")=False:=ω
theorem Dh:(qa2 "say"=qa2 "if")=False:=ω
theorem Di:(qa2 "say"=qa2 "go")=False:=ω
theorem CL:(qa2 "say"=qa2 "end")=False:=ω
theorem zE:(qa2 "if"=qa2 "store")=False:=ω
theorem Dj:(qa2 "if"=qa2 "lay")=False:=ω
theorem Dk:(qa2 "if"=qa2 "say")=False:=ω
theorem E7:(qa2 "if"=qa2 "go")=False:=ω
theorem Dl:(qa2 "if"=qa2 "end")=False:=ω
theorem zF:(qa2 "go"=qa2 "store")=False:=ω
theorem Dm:(qa2 "go"=qa2 "lay")=False:=ω
theorem Dn:(qa2 "go"=qa2 "say")=False:=ω
theorem E8:(qa2 "go"=qa2 "if")=False:=ω
theorem Do:(qa2 "go"=qa2 "end")=False:=ω
theorem Dp:(qa2 "end"=qa2 "if")=False:=ω
theorem Dq:(qa2 "end"=qa2 "go")=False:=ω
inductive Rw where
 |op (x sg:Str) (a b:Key)|load (x n:Str)|store (n:Str) (a:Key)|take (x n:Str) (a:Key)|lay (n:Str) (a b:Key)|copy (x:Str) (a:Key)|hear (x:Str)|say (a:Key)|ife (x:Str) (t:Int)|go (t:Int)|fin (a:Key)
def Rw.d:Rw->Dt
 |.op x O a b=>.t [.str "op",.str x,.str O,ak a,ak b]
 |.load x n=>.t [.str "load",.str x,.str n]
 |.store n a=>.t [.str "store",.str n,ak a]
 |.take x n a=>.t [.str "take",.str x,.str n,ak a]
 |.lay n a b=>.t [.str "lay",.str n,ak a,ak b]
 |.copy x a=>.t [.str "copy",.str x,ak a]
 |.hear x=>.t [.str "hear",.str x]
 |.say a=>.t [.str "say",ak a]
 |.ife x t=>.t [.str "if",.str x,.int t]
 |.go t=>.t [.str "go",.int t]
 |.fin a=>.t [.str "end",ak a]
abbrev Sh:=η (Str×Nat)
def Vp(sh:Sh)(n:Str)(p:Nat):Prop:=∃(k m:Nat),sh[k]?=ς (n,m)/\p<m
def bq(a:Key):Prop:=Vi (ak a)∨∃s,a=.inr s
def CM(x:Fx)(sh:Sh)(n:Str):Prop:=∃(k m:Nat),sh[k]?=ς (n,m)/\0<m/\ay x.sk x.sv (.inr n)=ς (.int m)
def xZ(x:Fx)(sh:Sh):Rw->Prop
 |.op _ _ a b=>bq a/\bq b
 |.load _ n=>Vp sh n 0
 |.store n a=>Vp sh n 0/\bq a
 |.take _ n a=>CM x sh n/\bq a
 |.lay n a b=>CM x sh n/\bq a/\bq b
 |.copy _ a|.say a|.fin a=>bq a
 |.hear _|.ife _ _|.go _=>True
def aa:Nat->Sh->η (Key×CV)
 |_,[]=>[]
 |o,p::r=>(.inr p.1,.ref o)::aa (o+1) r
theorem dH{n:Str}:∀{sh:Sh}{o k:Nat},(sh.map (·.1)).Nodup->sh[k]?=ς (n,m)->lkC (aa o sh) (.inr n)=ς (.ref (k+o))
 |[],o,k,_,h=>by cases h
 |p::r,o,0,W,h=>by cases h;simp[aa,lkC,qy4]
 |p::r,o,k+1,W,h=>by
  have O:=qd6.mp W;have Z:n∈r.map (·.1):=qc8.mpr ⟨_,qa5 h,rfl⟩;have:¬ p.1=n:=fun e=>O.1 (by show p.1∈_;rw[e];exact Z)
  have U:=dH (o:=o+1) O.2 h;simp only[aa,lkC,qy4,ql9.injEq,this,decide_false]at U ⊢;rw[U];simp;lia
structure TlOk(tl:CH)(sh:Sh):Prop where
 len:tl.length=sh.length
 at_:∀{k:Nat}{n:Str}{m:Nat},sh[k]?=ς (n,m)->∃L,tl[k]?=ς (dl L)/\L.length=m/\∀d∈L,Vi d
theorem TlOk.set{tl:CH}{sh:Sh}(h:TlOk tl sh){k:Nat}{n:Str}{L:η Dt}(U:sh[k]?=ς (n,m))(W:L.length=m)(Z:∀d∈L,Vi d):TlOk (tl.set k (dl L)) sh:=by
 refine⟨by rw[qu6];exact h.len,fun {j a b} O=>?_⟩;by_cases e:k=j
 .subst e;rw[U]at O;cases O;exact⟨L,qe5 (by rw[h.len];exact ao U),W,Z⟩
 .rw[gN e];exact h.at_ O
structure LOk(sh:Sh)(N:Nat)(l:LS):Prop where
 he:0<=l.he
 du:Vi (.int l.du)
 bx:∀p∈l.bx,Vi p.2
 bn:l.bx.length<=N
 lg:∀q∈l.lg,(∃(n:Str)(p:Nat),q.1=[.inr n,.inl (p:Int)]/\Vp sh n p)/\Vi q.2
 ln:l.lg.length<=N
structure FOk(N:Nat)(f:List (Key×Dt)):Prop where
 all:∀p∈f,(∃i,p.1=.inl i)/\Vi p.2
 len:f.length<=N
structure XOk(x:Fx)(sh:Sh):Prop where
 nd:(sh.map (·.1)).Nodup
 tw:∀d∈x.tw,∃s,d=.str s
 inc:∀d∈x.inc,Vi d
section
variable{S:HS}{tl:CH}{l:LS}{sh:Sh}{N:Nat}
theorem TlOk.pl(h:TlOk tl sh)(W:(sh.map (·.1)).Nodup){n:Str}(hp:Vp sh n p):∃k L m,Pl (aa 16 sh) tl n k L/\p<L.length/\sh[k]?=ς (n,m)/\L.length=m:=by obtain⟨k,m,h1,h2⟩:=hp;obtain⟨L,O,h4,U⟩:=h.at_ h1;exact⟨k,L,m,⟨dH W h1,O,U⟩,Θ,h1,h4⟩
def zG:Rw->Bool
 |.op _ _ _ _|.load _ _|.take _ _ _|.copy _ _|.hear _=>θ
 |_=>ξ
theorem iF(r:Rw)(hs:zG r=θ)(X:XOk S.x sh)(hr:xZ S.x sh r)(O:LOk sh N l)(ht:TlOk tl sh):∃v h',Vi (.int v)/\0<=h'/\F45 [.ref 0,.g r.d] (hl S l (aa 16 sh) tl)=ς (I v,hl S {l with he:=h'} (aa 16 sh) tl):=by
 have same:hl S {l with he:=l.he} (aa 16 sh) tl=hl S l (aa 16 sh) tl:=rfl;have wa:∀a,bq a->∃v,Vi (.int v)/\F36 [.ref 13,.g (ak a)] (hl S l (aa 16 sh) tl)=ς (I v,hl S l (aa 16 sh) tl):=fun a ha=>cb O.du O.bx a ha
 cases r<;>first|(cases hs;done)|skip
 .rename_i x sg a b;obtain⟨v,hv,h1⟩:=wa a hr.1;obtain⟨w,hw,h2⟩:=wa b hr.2;obtain⟨z,W,Z⟩:=lZ (sg:=sg) (a:=v) (b:=w) (ch:=hl S l (aa 16 sh) tl) hw;refine⟨z,l.he,W,O.he,?_⟩;rw[same];simp! only[q45,Rw.d];simp! [ax,h1,h2,Z]
 .rename_i x n;obtain⟨k,L,m,hp,U,_⟩:=ht.pl X.nd hr;obtain⟨z,W,Z⟩:=lY (S:=S) (l:=l) (fun q hq=>(O.lg q hq).2) hp U;refine⟨z,l.he,W,O.he,?_⟩;rw[same];simp! only[q45,Rw.d];have h3':F43 [.ref 0,.g (.str n),.g (.int 0)] (hl S l (aa 16 sh) tl)=ς (I z,hl S l (aa 16 sh) tl):=Z;simp! [ax,h3']
 .rename_i x n a;obtain⟨⟨k,m,h1,h2,Z⟩,ha⟩:=hr;obtain⟨p,hp,h4⟩:=lW (S:=S) (l:=l) (rf:=aa 16 sh) (tl:=tl) O.du O.bx a ha Z h2;obtain⟨k,L,m,hp,U,_⟩:=ht.pl X.nd ⟨k,m,h1,hp⟩;obtain⟨z,W,h5⟩:=lY (S:=S) (l:=l) (fun q hq=>(O.lg q hq).2) hp U;refine⟨z,l.he,W,O.he,?_⟩;rw[same];simp! only[q45,Rw.d];simp! [ax,h4,h5]
 .rename_i x a;obtain⟨v,hv,h1⟩:=wa a hr;refine⟨v,l.he,hv,O.he,?_⟩;rw[same];simp! only[q45,Rw.d];simp! [ax,h1]
 .obtain⟨v,hv,h1⟩:=qI (S:=S) (l:=l) (rf:=aa 16 sh) (tl:=tl) X.inc O.he;refine⟨v,l.he+1,hv,by have:=O.he;lia,?_⟩;simp! only[q45,Rw.d];simp! [ax,h1]
end
variable{lv:CV}{rf:η (Key×CV)}
section
variable{S:HS}{tl:CH}{l:LS}{sh:Sh}{N:Nat}
theorem x9{i:Int}{v:Dt}(O:FOk N S.fst)(hN:N<qa9)(hv:Vi v):∃f u,FOk (N+1) f/\F39 [.ref 2,I i,.g v] (hb S lv rf tl)=ς (.g .non,hb {S with fst:=f,unl:=u} lv rf tl):=by
 have W:(dp S.fst).length<16777216:=by rw[iB,<- qa7];exact qe4 O.len hN
 have e8:∀f,(hb S lv rf tl).set 8 (.dK (dp f))=hb {S with fst:=f} lv rf tl:=fun _=>rfl
 have Z:∀u,(hb S lv rf tl).set 2 (.ins 0 [.ref 8,.g (.bl u)])=hb {S with unl:=u} lv rf tl:=fun _=>rfl
 cases q:ay (S.fst.map (·.1)) (S.fst.map (·.2)) (qp0 i)with
 |none=>
  refine⟨bY S.fst (.inl i) v,S.unl,⟨fun p hp=>?_,qd1 dG (qn3 O.len)⟩,?_⟩
  .rcases dF hp with rfl|hp
   .exact⟨⟨i,rfl⟩,hv⟩
   .exact O.all p hp
  simp! only[q39];simp! [oNi,gIn,inD,eU,bG,bP,q,W,bz,e8]
 |some d=>
  have F':FOk (N+1) S.fst:=⟨O.all,by have:=O.len;lia⟩;obtain⟨_,a,rfl,ha⟩:=O.all _ (bo q);obtain⟨b,rfl,hb'⟩:=hv;by_cases U:a=b
  .refine⟨S.fst,S.unl,F',?_⟩;simp! only[q39];simp! [oNi,gIn,inD,eU,bG,bP,q,fj,U]
  .refine⟨S.fst,θ,F',?_⟩;simp! only[q39];simp! [oNi,gIn,inD,eU,bG,bP,q,fj,U,Z]
def CN(S:HS)(l:LS)(sh:Sh)(N:Nat)(ch':CH):Prop:=∃f u h y b g O,FOk (N+1) f/\LOk sh (N+1) {l with he:=h,sy:=y,bx:=b,lg:=g}/\TlOk O sh/\ch'=hl {S with fst:=f,unl:=u} {l with he:=h,sy:=y,bx:=b,lg:=g} (aa 16 sh) O
theorem LOk.up(h:LOk sh N l):LOk sh (N+1) l:=⟨h.he,h.du,h.bx,by have:=h.bn;lia,h.lg,by have:=h.ln;lia⟩
theorem FOk.up{f:η (Key×Dt)}(h:FOk N f):FOk (N+1) f:=⟨h.all,by have:=h.len;lia⟩
theorem l4{n:Str}{v:Dt}(hv:Vi v)(X:XOk S.x sh)(hF:FOk N S.fst)(O:LOk sh N l)(Z:TlOk tl sh)(hN:N<qa9)(hp:Vp sh n p):∃ch',F37 [.ref 0,.g (.str n),I p,.g v] (hl S l (aa 16 sh) tl)=ς (.g .non,ch')/\CN S l sh N ch':=by
 obtain⟨k,L,m,hP,U,hk,hLm⟩:=Z.pl X.nd hp;rcases ux (S:=S) (l:=l) (v:=v) X.tw hP U (qe4 O.ln hN)with h|h
 .refine⟨_,h,S.fst,S.unl,l.he,l.sy,l.bx,bY l.lg [.inr n,.inl p] v,tl,hF.up,⟨O.he,O.du,O.bx,qd9 O.bn,fun q hq=>?_,qd1 dG (qn3 O.ln)⟩,Z,rfl⟩;rcases dF hq with rfl|hq
  .exact⟨⟨n,p,rfl,hp⟩,hv⟩
  .exact O.lg q hq
 .refine⟨_,h,S.fst,S.unl,l.he,l.sy,l.bx,l.lg,_,hF.up,O.up,Z.set hk (by rw[qu6];exact hLm) fun d W=>?_,rfl⟩;rcases qp6 W with W|rfl
  .exact hP.vi d W
  .exact hv
theorem CP(r:Rw)(hs:∀a,r≠.fin a)(X:XOk S.x sh)(hr:xZ S.x sh r)(hF:FOk N S.fst)(O:LOk sh N l)(hT:TlOk tl sh)(hN:N<qa9):∃ch',F46 [.ref 0,.g r.d] (hl S l (aa 16 sh) tl)=ς (.g .non,ch')/\CN S l sh N ch':=by
 have wa:∀a,bq a->∃v,Vi (.int v)/\F36 [.ref 13,.g (ak a)] (hl S l (aa 16 sh) tl)=ς (I v,hl S l (aa 16 sh) tl):=fun a ha=>cb O.du O.bx a ha
 have W:∀h,(dp ({l with he:=h}:LS).bx).length<16777216:=fun h=>by rw[iB,<- qa7];exact qe4 O.bn hN
 have U:∀(v h':Int)(x:Str),Vi (.int v)->0<=h'->CN S l sh N (hl S {l with he:=h',bx:=bY l.bx (.inr x) (.int v)} (aa 16 sh) tl):=fun v h' x Z hh=>by
  refine⟨S.fst,S.unl,h',l.sy,bY l.bx (.inr x) (.int v),l.lg,tl,hF.up,⟨hh,O.du,fun p hp=>?_,qd1 dG (qn3 O.bn),O.lg,qd9 O.ln⟩,hT,rfl⟩;rcases dF hp with rfl|hp
  .exact Z
  .exact O.bx p hp
 have e14:∀(h':Int)(b:η (Key×Dt)),(hl S {l with he:=h'} (aa 16 sh) tl).set 14 (.dK (dp b))=hl S {l with he:=h',bx:=b} (aa 16 sh) tl:=fun _ _=>rfl
 cases r with
 |op x sg a b=>obtain⟨v,h',Z,hh,h1⟩:=iF (.op x sg a b) rfl X hr O hT;refine⟨_,?_,U v h' x Z hh⟩;simp only[Rw.d]at h1;simp! only[q46,Rw.d];simp! [ax,jG,h1,W,bz,lV];rfl
 |load x n=>obtain⟨v,h',Z,hh,h1⟩:=iF (.load x n) rfl X hr O hT;refine⟨_,?_,U v h' x Z hh⟩;simp only[Rw.d]at h1;simp! only[q46,Rw.d];simp! [ax,jG,h1,W,bz,lV];rfl
 |take x n a=>obtain⟨v,h',Z,hh,h1⟩:=iF (.take x n a) rfl X hr O hT;refine⟨_,?_,U v h' x Z hh⟩;simp only[Rw.d]at h1;simp! only[q46,Rw.d];simp! [ax,jG,h1,W,bz,lV];rfl
 |copy x a=>obtain⟨v,h',Z,hh,h1⟩:=iF (.copy x a) rfl X hr O hT;refine⟨_,?_,U v h' x Z hh⟩;simp only[Rw.d]at h1;simp! only[q46,Rw.d];simp! [ax,jG,h1,W,bz,lV];rfl
 |hear x=>obtain⟨v,h',Z,hh,h1⟩:=iF (.hear x) rfl X hr O hT;refine⟨_,?_,U v h' x Z hh⟩;simp only[Rw.d]at h1;simp! only[q46,Rw.d];simp! [ax,jG,h1,W,bz,lV];rfl
 |store n a=>obtain⟨v,Z,h1⟩:=wa a hr.2;obtain⟨ch',h2,h3⟩:=l4 Z X hF O hT hN hr.1;have h2':F37 [.ref 0,.g (.str n),.g (.int 0),I v] (hl S l (aa 16 sh) tl)=ς (.g .non,ch'):=h2;refine⟨ch',?_,h3⟩;simp! only[q46,Rw.d];simp! [ax,h1,h2']
 |lay n a b=>obtain⟨⟨k,m,g1,g2,g3⟩,ha,hb'⟩:=hr;obtain⟨p,hp,h4⟩:=lW (S:=S) (l:=l) (rf:=aa 16 sh) (tl:=tl) O.du O.bx a ha g3 g2;obtain⟨v,Z,h1⟩:=wa b hb';obtain⟨ch',h2,h3⟩:=l4 Z X hF O hT hN ⟨k,m,g1,hp⟩;refine⟨ch',?_,h3⟩;simp! only[q46,Rw.d];simp! [ax,h1,h4,h2]
 |say a=>obtain⟨v,Z,h1⟩:=wa a hr;obtain⟨f,u,hf,h2⟩:=x9 (i:=l.sy) hF hN Z (tl:=lO l::.dK (dp l.bx)::.dT (dp l.lg)::tl) (lv:=.ref 13) (rf:=aa 16 sh);refine⟨_,?_,f,u,l.he,l.sy+1,l.bx,l.lg,tl,hf,⟨O.he,O.du,O.bx,qd9 O.bn,O.lg,qd9 O.ln⟩,hT,rfl⟩;simp! only[q46,Rw.d];simp! [ax,h1,h2];rfl
 |ife x t=>refine⟨_,?_,S.fst,S.unl,l.he,l.sy,l.bx,l.lg,tl,hF.up,O.up,hT,rfl⟩;simp! only[q46,Rw.d];simp! [ax]
 |go t=>refine⟨_,?_,S.fst,S.unl,l.he,l.sy,l.bx,l.lg,tl,hF.up,O.up,hT,rfl⟩;simp! only[q46,Rw.d];simp! [ax]
 |fin a=>exact absurd rfl (hs a)
end
def aM(i:Nat):Rw->Dt
 |.go t=>.t [.int t]
 |.ife _ t=>.t [.int t,.int (i+1)]
 |.fin _=>.t []
 |_=>.t [.int (i+1)]
def iG(i:Nat)(r:Rw)(p:Int):Prop:=match r with
 |.go t=>p=t
 |.ife _ t=>p=t∨p=i+1
 |.fin _=>False
 |_=>p=i+1
section
variable{S:HS}{tl:CH}{l:LS}{sh:Sh}{N:Nat}
theorem dI{L:η Dt}{d:Dt}(h:L[i]?=ς d):ixD (.e L) (.int i)=ς d/\ixD (.t L) (.int i)=ς d:=by have hi:=ao h;constructor<;>simp[ixD,az,gIx,atI,gM hi,h]
theorem behind(r:Rw)(hs:∀a,r≠.fin a)(hi:l.pl=i)(Z:S.x.onw[i]?=ς (aM i r))(W:LOk sh N l):∃p,iG i r p/\F47 [.ref 0,.g r.d] (hl S l (aa 16 sh) tl)=ς (I p,hl S l (aa 16 sh) tl):=by
 have O:=(dI Z).1;have zero:∀{a:Dt}{L:η Dt},ixD (.t (a::L)) (.int 0)=ς a:=fun {a L}=>by simp[ixD,az,gIx,atI,ixN]
 have one:∀{a b:Dt}{L:η Dt},ixD (.t (a::b::L)) (.int 1)=ς b:=fun {a b L}=>by simp[ixD,az,gIx,atI,ixN,show(1:Int)<(L.length:Int)+1+1 by lia]
 cases r with
 |ife x t=>
  obtain⟨v,hv,h1⟩:=cb (S:=S) (rf:=aa 16 sh) (tl:=tl) W.du W.bx (.inr x) (.inr ⟨x,rfl⟩);simp only[ak]at h1;by_cases U:v=0
  .refine⟨i+1,.inr rfl,?_⟩;simp only[aM]at O;simp! only[q47,Rw.d];dsimp! [ax,hi,O,zero,one,h1,U]
  .refine⟨t,.inl rfl,?_⟩;simp only[aM]at O;simp! only[q47,Rw.d];dsimp! [ax,hi,O,zero,one,h1,U]
 |go t=>refine⟨t,rfl,?_⟩;simp only[aM]at O;simp! only[q47,Rw.d];dsimp! [ax,hi,O,zero]
 |fin a=>exact absurd rfl (hs a)
 |op x sg a b=>refine⟨i+1,rfl,?_⟩;simp only[aM]at O;simp! only[q47,Rw.d];dsimp! [ax,hi,O,zero]
 |load x n=>refine⟨i+1,rfl,?_⟩;simp only[aM]at O;simp! only[q47,Rw.d];dsimp! [ax,hi,O,zero]
 |store n a=>refine⟨i+1,rfl,?_⟩;simp only[aM]at O;simp! only[q47,Rw.d];dsimp! [ax,hi,O,zero]
 |take x n a=>refine⟨i+1,rfl,?_⟩;simp only[aM]at O;simp! only[q47,Rw.d];dsimp! [ax,hi,O,zero]
 |lay n a b=>refine⟨i+1,rfl,?_⟩;simp only[aM]at O;simp! only[q47,Rw.d];dsimp! [ax,hi,O,zero]
 |copy x a=>refine⟨i+1,rfl,?_⟩;simp only[aM]at O;simp! only[q47,Rw.d];dsimp! [ax,hi,O,zero]
 |hear x=>refine⟨i+1,rfl,?_⟩;simp only[aM]at O;simp! only[q47,Rw.d];dsimp! [ax,hi,O,zero]
 |say a=>refine⟨i+1,rfl,?_⟩;simp only[aM]at O;simp! only[q47,Rw.d];dsimp! [ax,hi,O,zero]
theorem l5{δ:Sl}(w:∀s,∃v,Vi (.int v)/\F36 [.ref 13,.g (.str s)] ch=ς (I v,ch))(U:∃f,ch[13]?=ς (.ins 1 f)):∀bs:η Str,∃ks:η Bx,ks.map (·.1)=bs/\(∀k∈ks,Vi (.int k.2))/\aH (bnd (.one 0)) tYs (eTu (aCn (eK (.str "box")) (aCn (eV 0) (aCn (eMe 1 2 F36 (eV 1) (aCn (eV 0) aNl)) aNl)))) [ψ,ς (.ref 13)] (bs.map .str) ch=ς (ks.map fun k=>.g (Sm.d (.box k.1 k.2)),ch)
 |[]=>⟨[],rfl,Ξ,rfl⟩
 |s::bs=>by obtain⟨v,hv,h1⟩:=w s;obtain⟨f,W⟩:=U;obtain⟨ks,h2,Z,h4⟩:=l5 (δ:=δ) w ⟨f,W⟩ bs;refine⟨(s,v)::ks,by simp[h2],fun k O=>by rcases qc4.mp O with rfl|O;exact hv;exact Z k O,?_⟩;simp! only[qa3,aH,bnd,tYs,qa0,h4];simp! [W,h1,Sm.d];simp only[Sm.d]at h4;exact h4
theorem uz{lg:η (η Key×Dt)}(h:∀q∈lg,(∃(n:Str)(p:Nat),q.1=[.inr n,.inl (p:Int)]/\Vp sh n p)/\Vi q.2):∃ts:η Tn,fY lg=ts.map Tn.d/\ts.length=lg.length/\∀t∈ts,Vp sh t.1.1 t.1.2/\Vi (.int t.2):=by
 induction lg with
 |nil=>exact⟨[],rfl,rfl,Ξ⟩
 |cons q lg Z=>
  obtain⟨ts,h1,h2,O⟩:=Z fun q hq=>h q (.tail _ hq)
  obtain⟨⟨n,p,h4,U⟩,i,W,h7⟩:=h q (.head _);obtain⟨q1,q2⟩:=q;cases h4;cases W;refine⟨((n,p),i)::ts,?_,by simp[h2],by simpa using ⟨⟨U,⟨i,rfl,h7⟩⟩,fun a b c d=>O _ d⟩⟩;simp only[fY,qa3]at h1 ⊢;rw[h1];rfl
def fm(a b c d:Int)(ks:η Bx)(ts:η Tn):η Sm:=Sm.beg a b c d::(ks.map fun k=>.box k.1 k.2)++ur ts++[.trn]++eg ts
theorem ya{bs:η Str}(U:LOk sh N l)(hN:N+bs.length<1000000):∃ks ts,ks.map (·.1)=bs/\(∀k∈ks,Vi (.int k.2))/\(∀t∈ts,Vp sh t.1.1 t.1.2/\Vi (.int t.2))/\ts.length<=N/\F48 [.ref 13,.g (.t (bs.map .str))] (hl S l (aa 16 sh) tl)=ς (.ref (tl.length+16),hl S l (aa 16 sh) (tl++[dl ((fm l.pl l.dn l.he l.sy ks ts).map Sm.d)])):=by
 obtain⟨ks,k1,k2,k3⟩:=l5 (δ:=[]) (ch:=hl S l (aa 16 sh) tl) (fun s=>by have:=cb (S:=S) (rf:=aa 16 sh) (tl:=tl) U.du U.bx (.inr s) (.inr ⟨s,rfl⟩);exact this) ⟨_,ax⟩ bs;obtain⟨ts,t1,t2,t3⟩:=uz U.lg;have W:ts.length<=N:=by rw[t2];exact U.ln
 have hks:ks.length=bs.length:=by rw[<- k1,qa4]
 refine⟨ks,ts,k1,k2,t3,W,?_⟩;have n1:=fun k=>lT (ch:=hl S l (aa 16 sh) tl) (k:=k) (ts:=ts) (by rw[qa7];lia)
 rw[<- t1]at n1;have hz:((dp l.lg).map (·.1)).zip (l.lg.map (·.2))=l.lg:=nG;have g0:gC [ψ,ς 0] [ς (.ref 13),ς (.g (.t (bs.map .str))),ς (.g (.e [Sm.d (.beg l.pl l.dn l.he l.sy)])),ψ,ψ]=[ψ,ς (.ref 13)]:=rfl
 have Z:eCo .v [ψ,ς 0] (iE (eV 1)) (bnd (.one 0)) tYs (eTu (aCn (eK (.str "box")) (aCn (eV 0) (aCn (eMe 1 2 F36 (eV 1) (aCn (eV 0) aNl)) aNl)))) [ς (.ref 13),ς (.g (.t (bs.map .str))),ς (.g (.e [Sm.d (.beg l.pl l.dn l.he l.sy)])),ψ,ψ] (hl S l (aa 16 sh) tl)=ς (.g (.e (ks.map fun k=>Sm.d (.box k.1 k.2))),hl S l (aa 16 sh) tl):=by unfold eCo;rw[g0];have:iE (eV 1) [ς (.ref 13),ς (.g (.t (bs.map .str))),ς (.g (.e [Sm.d (.beg l.pl l.dn l.he l.sy)])),ψ,ψ] (hl S l (aa 16 sh) tl)=ς (bs.map .str,hl S l (aa 16 sh) tl):=rfl;rw[this,qa0,k3,qa0];dsimp only;rw[if_pos (by rw[qa4,qa7];lia),bL];rfl
 let H:=hl S l (aa 16 sh) tl;let B:η Dt:=ks.map fun k=>Sm.d (.box k.1 k.2)
 let G (k:Str):η Dt:=ts.map fun t=>.t [.str k,.str t.1.1,.int t.1.2,.int t.2]
 let δ:Sl:=[ς (.ref 13),ς (.g (.t (bs.map .str))),ς (.g (.e [Sm.d (.beg l.pl l.dn l.he l.sy)])),ς (.g (.e B)),ς (.g (.e (fY l.lg)))];have O:B.length=ks.length:=by simp[B]
 have hG:∀k,(G k).length=ts.length:=fun k=>by simp[G]
 have r1:e2 .v oAdd.g (eV 2) (eV 3) δ H=ς (.g (.e ([Sm.d (.beg l.pl l.dn l.he l.sy)]++B)),H):=cH rfl rfl rfl rfl (xH (by rw[qa7];simp[O];lia));have c1:∀k:Str,eCa 2 F16 (aCn (eK (.str k)) (aCn (eV 4) aNl)) δ H=ς (.g (.e (G k)),H):=fun k=>by simp! only[];simp! [δ,n1,H,G]
 have r2:e2 .v oAdd.g (e2 .v oAdd.g (eV 2) (eV 3)) (eCa 2 F16 (aCn (eK (.str "log")) (aCn (eV 4) aNl))) δ H=ς (.g (.e ([Sm.d (.beg l.pl l.dn l.he l.sy)]++B++G "log")),H):=cH r1 (c1 _) rfl rfl (xH (by rw[qa7];simp[O,hG];lia));have r3:e2 .v oAdd.g (e2 .v oAdd.g (e2 .v oAdd.g (eV 2) (eV 3)) (eCa 2 F16 (aCn (eK (.str "log")) (aCn (eV 4) aNl)))) (eLs .v (aCn (eTu (aCn (eK (.str "turn")) aNl)) aNl)) δ H=ς (.g (.e ([Sm.d (.beg l.pl l.dn l.he l.sy)]++B++G "log"++[Sm.d .trn])),H):=cH r2 rfl rfl rfl (xH (by rw[qa7];simp[O,hG];lia));have r4:e2 .o oAdd.g (e2 .v oAdd.g (e2 .v oAdd.g (e2 .v oAdd.g (eV 2) (eV 3)) (eCa 2 F16 (aCn (eK (.str "log")) (aCn (eV 4) aNl)))) (eLs .v (aCn (eTu (aCn (eK (.str "turn")) aNl)) aNl))) (eCa 2 F16 (aCn (eK (.str "put")) (aCn (eV 4) aNl))) δ H=ς (.ref (tl.length+16),H++[dl ([Sm.d (.beg l.pl l.dn l.he l.sy)]++B++G "log"++[Sm.d .trn]++G "put")]):=cH r3 (c1 _) rfl rfl (xH (by rw[qa7];simp[O,hG];lia));have s1:aO 2 (eLs .v (aCn (eTu (aCn (eK (.str "begin")) (aCn (eAt 1 0 (eV 0)) (aCn (eAt 1 1 (eV 0)) (aCn (eAt 1 2 (eV 0)) (aCn (eAt 1 3 (eV 0)) aNl)))))) aNl)) [ς (.ref 13),ς (.g (.t (bs.map .str))),ψ,ψ,ψ] H=ς (.nx [ς (.ref 13),ς (.g (.t (bs.map .str))),ς (.g (.e [Sm.d (.beg l.pl l.dn l.he l.sy)])),ψ,ψ] H):=rfl;have s2:=aF (i:=3) Z rfl
 have s3:aO 4 (eIl .v (eAt 1 6 (eV 0))) [ς (.ref 13),ς (.g (.t (bs.map .str))),ς (.g (.e [Sm.d (.beg l.pl l.dn l.he l.sy)])),ς (.g (.e B)),ψ] H=ς (.nx δ H):=by simp! only[];simp! [ax,lU,nr,bG,hz,H,δ]
 have hw:(fm l.pl l.dn l.he l.sy ks ts).map Sm.d=[Sm.d (.beg l.pl l.dn l.he l.sy)]++B++G "log"++[Sm.d .trn]++G "put":=by simp[fm,B,G,ur,eg,Sm.d,qb4]
 rw[hw,q48];exact aT (ae s1 (ae s2 (ae s3 (bR (ck r4 rfl)))))
end
def off:ζ LS->Nat
 |none=>13
 |some _=>16
def lvO:ζ LS->CV
 |none=>.g .non
 |some _=>.ref 13
def aq:ζ LS->CH->CH
 |none,tl=>tl
 |some l,tl=>lO l::.dK (dp l.bx)::.dT (dp l.lg)::tl
def hc(sh:Sh)(S:HS)(lo:ζ LS)(tl:CH):CH:=hb S (lvO lo) (aa (off lo) sh) (aq lo tl)
section
variable{S:HS}{lo:ζ LS}{tl:CH}{sh:Sh}{σ:Nat->Nat}{l:LS}
theorem f7:13<=off lo:=by cases lo<;>simp[off]
theorem l6:(aq lo tl).length+13=tl.length+off lo:=by cases lo<;>simp[aq,off]
theorem nM:(hc sh S lo tl).length=tl.length+off lo:=by rw[<- l6];rfl
theorem cV{L:η Dt}:rnO σ (dl L)=dl L:=by simp[rnO,rn,qb4]
theorem TlOk.all(h:TlOk tl sh){o:CO}(W:o∈tl):∃L,o=dl L:=by
 obtain⟨k,U,rfl⟩:=List.mem_iff_getElem.mp W;have O:k<sh.length:=by rw[<- h.len];exact U
 obtain⟨L,h1,_⟩:=h.at_ (k:=k) (n:=sh[k].1) (m:=sh[k].2) (gQ O);rw[gQ U]at h1;exact⟨L,qc9 h1⟩
theorem cI:∀{sh:Sh}{o n:Nat},o+sh.length<=n->(aa o sh).all (fun p=>clV n p.2)=θ
 |[],_,_,_=>rfl
 |p::r,o,n,h=>by simp only[qb8]at h;simp only[aa,qc7,clV,qa1,decide_eq_true_eq];exact⟨Θ,cI Θ⟩
theorem l7{L:η Dt}:(L.map CV.g).all (clV n)=θ:=by simp[clV]
theorem l8{L:η Dt}:clO n (dl L)=θ:=l7
theorem uA{κ:Type}{b:η (κ×Dt)}:(dp b).all (fun p=>clV n p.2)=θ:=by simp[dp,clV]
theorem kP{d:Dt}:clV n (.g d)=θ:=rfl
theorem f8:clV n (.ref i)=decide (i<n):=rfl
theorem uB(h:TlOk tl sh):Cl (hc sh S lo tl):=by
 unfold Cl;rw[nM];have U:=cI (sh:=sh) (o:=off lo) (n:=tl.length+off lo) (by rw[h.len];lia);have O:tl.all (clO (tl.length+off lo))=θ:=qc0.mpr fun o ho=>by obtain⟨L,rfl⟩:=h.all ho;exact l8
 have lt:∀k,k<13->decide (k<tl.length+off lo)=θ:=fun k W=>decide_eq_true (by have:=f7 (lo:=lo);lia)
 cases lo with
 |none=>simp only[hc,hb,hO,aq,lvO,qc7,qo6,clO,kP,f8,l7,uA,U,O,lt,qj7,zc5]
 |some l=>
  have Z:∀k,k<16->decide (k<tl.length+off (ς l))=θ:=fun k W=>decide_eq_true (by show k<tl.length+16;lia)
  simp only[hc,hb,hO,aq,lvO,lO,qc7,qo6,clO,kP,f8,l7,uA,U,O,Z,qj7,zc5]
theorem cc:∀{sh:Sh}{o o':Nat},(∀k,k<sh.length->σ (k+o)=k+o')->rnP σ (aa o sh)=aa o' sh
 |[],_,_,_=>rfl
 |p::r,o,o',h=>by
  have O:=h 0 Ξ;simp only[qw3]at O;have U:=cc (sh:=r) (o:=o+1) (o':=o'+1) fun k W=>by have:=h (k+1) (by simpa using W);rw[show k+(o+1)=k+1+o by lia,this];lia
  simp only[rnP,aa,qa3,rn,O]at U ⊢;rw[U]
theorem kQ(h:TlOk tl sh)(h4:σ 14=14)(W:σ 15=15){o:CO}(O:o∈aq lo tl):rnO σ o=o:=by
 have U:∀o∈tl,rnO σ o=o:=fun o O=>by obtain⟨L,rfl⟩:=h.all O;exact cV
 cases lo with
 |none=>exact U o O
 |some l=>
  simp only[aq,qc4]at O;rcases O with rfl|rfl|rfl|O
  .simp[lO,rnO,rn,h4,W]
  .simp only[rnO,ei]
  .simp only[rnO,ei]
  .exact U o O
theorem jH{T raw:CH}(inj:∀i j,i<T.length+13->j<T.length+13->σ i=σ j->i=j)
 (h0:raw[σ 0]?=ς (rnO σ (hO S' lv (.ref 3)))) (h1:raw[σ 1]?=ς (rnO σ (.ins 2 [.ref 4,.ref 5,.ref 6,.ref 7,I S'.cnt,.g S'.res]))) (h2:raw[σ 2]?=ς (rnO σ (.ins 0 [.ref 8,.g (.bl S'.unl)]))) (Z:raw[σ 3]?=ς (dl S'.plan)) (h4:raw[σ 4]?=ς (rnO σ (.dK rf))) (h5:raw[σ 5]?=ς (.e [.g (.t S'.h0),.g (.t S'.h1)])) (h6:raw[σ 6]?=ς (.e [.ref (σ 9),.ref (σ 10)])) (h7:raw[σ 7]?=ς (.e [.ref (σ 11),.ref (σ 12)])) (h8:raw[σ 8]?=ς (.dK (dp S'.fst))) (h9:raw[σ 9]?=ς (dl S'.pb0)) (U:raw[σ 10]?=ς (dl S'.pb1)) (W:raw[σ 11]?=ς (dl S'.pt0)) (O:raw[σ 12]?=ς (dl S'.pt1))
 (ht:∀i o,T[i]?=ς o->raw[σ (i+13)]?=ς (rnO σ o)):At σ (hb S' lv rf T) raw:=by
 refine⟨fun i j hi hj=>inj i j hi hj,fun {i o} hi=>?_⟩;have e:∀L,rnO σ (dl L)=dl L:=fun L=>cV
 rcases i with _|_|_|_|_|_|_|_|_|_|_|_|_|i
 .cases hi;exact h0
 .cases hi;exact h1
 .cases hi;exact h2
 .cases hi;rw[e];exact Z
 .cases hi;exact h4
 .cases hi;exact h5
 .cases hi;exact h6
 .cases hi;exact h7
 .cases hi;simp only[rnO,ei];exact h8
 .cases hi;rw[e];exact h9
 .cases hi;rw[e];exact U
 .cases hi;rw[e];exact W
 .cases hi;rw[e];exact O
 .exact ht i o hi
def sg2(a b n:Nat):Nat->Nat:=fun i=>if i=a then n else if i=b then n+1 else i
theorem uC{a b:Nat}(O:a<13)(hb:b<13):rn (sg2 a b n) (lvO lo)=lvO lo:=by
 cases lo
 .rfl
 .simp only[lvO,rn,sg2];rw[if_neg Θ,if_neg Θ]
theorem el{a b k:Nat}(U:a<13)(hb:b<13)(O:13<=k):sg2 a b n k=k:=by unfold sg2;rw[if_neg Θ,if_neg Θ]
theorem o6{a b:Nat}(O:a≠b):∀i j,i<n->j<n->sg2 a b n i=sg2 a b n j->i=j:=fun i j hi U e=>by unfold sg2 at e;split at e<;>split at e<;>(try split at e)<;>(try split at e)<;>lia
theorem uD{a b:Nat}(O:a<13)(hb:b<13):rnP (sg2 a b n) (aa (off lo) sh)=aa (off lo) sh:=cc fun k U=>el O hb (by have:=f7 (lo:=lo);lia)
theorem nN(h:TlOk tl sh):At (sg2 9 11 ((aq lo tl).length+13)) (hc sh {S with pb0:=[],pt0:=[]} lo tl) (hbN S (lvO lo) (aa (off lo) sh) ((aq lo tl).length+13) 10 ((aq lo tl).length+1+13) 12 (aq lo tl++[.e []]++[.e []])):=by
 have O:=uC (lo:=lo) (a:=9) (b:=11) (n:=(aq lo tl).length+13) Θ Θ;have hr:=uD (sh:=sh) (lo:=lo) (a:=9) (b:=11) (n:=(aq lo tl).length+13) Θ Θ;have W:=fun o ho=>kQ (σ:=sg2 9 11 ((aq lo tl).length+13)) (lo:=lo) (o:=o) h (el Θ Θ Θ) (el Θ Θ Θ) ho
 have hg:=fun k Z=>el (a:=9) (b:=11) (n:=(aq lo tl).length+13) (k:=k) Θ Θ Z
 unfold hc;generalize aq lo tl=T at*
 have U:∀(k:Nat),(hbN S (lvO lo) (aa (off lo) sh) (T.length+13) 10 (T.length+1+13) 12 (T++[.e []]++[.e []]))[k+13]?=(T++[CO.e []]++[.e []])[k]?:=fun k=>rfl
 refine jH (o6 (a:=9) (b:=11) Ω) ?_ ?_ ?_ ?_ ?_ ?_ ?_ ?_ ?_ ?_ ?_ ?_ ?_ fun i o hi=>?_
 .show ς (hO S (lvO lo) (.ref 3))=_;simp only[hO,rnO,qa3,qe0,b8,iz,O];rfl
 .rfl
 .rfl
 .rfl
 .show ς (CO.dK (aa (off lo) sh))=_;simp only[rnO,hr]
 .rfl
 .rfl
 .simp[sg2];show ς _=_;simp
 .rfl
 .show(hbN S (lvO lo) (aa (off lo) sh) (T.length+13) 10 (T.length+1+13) 12 (T++[.e []]++[.e []]))[T.length+13]?=_;rw[U];simp
 .rfl
 .show(hbN S (lvO lo) (aa (off lo) sh) (T.length+13) 10 (T.length+1+13) 12 (T++[.e []]++[.e []]))[T.length+13+1]?=_;rw[show T.length+13+1=T.length+1+13 by lia,U];simp
 .rfl
 .rw[hg _ Θ,U,W o (qa5 hi),qd8,gL (ao hi)];exact hi
theorem nO(h:TlOk tl sh):At (sg2 10 12 ((aq lo tl).length+13)) (hc sh {S with pb1:=[],pt1:=[]} lo tl) (hbN S (lvO lo) (aa (off lo) sh) 9 ((aq lo tl).length+13) 11 ((aq lo tl).length+1+13) (aq lo tl++[.e []]++[.e []])):=by
 have O:=uC (lo:=lo) (a:=10) (b:=12) (n:=(aq lo tl).length+13) Θ Θ;have hr:=uD (sh:=sh) (lo:=lo) (a:=10) (b:=12) (n:=(aq lo tl).length+13) Θ Θ;have W:=fun o ho=>kQ (σ:=sg2 10 12 ((aq lo tl).length+13)) (lo:=lo) (o:=o) h (el Θ Θ Θ) (el Θ Θ Θ) ho
 have hg:=fun k Z=>el (a:=10) (b:=12) (n:=(aq lo tl).length+13) (k:=k) Θ Θ Z
 unfold hc;generalize aq lo tl=T at*
 have U:∀(k:Nat),(hbN S (lvO lo) (aa (off lo) sh) 9 (T.length+13) 11 (T.length+1+13) (T++[.e []]++[.e []]))[k+13]?=(T++[CO.e []]++[.e []])[k]?:=fun k=>rfl
 refine jH (o6 (a:=10) (b:=12) Ω) ?_ ?_ ?_ ?_ ?_ ?_ ?_ ?_ ?_ ?_ ?_ ?_ ?_ fun i o hi=>?_
 .show ς (hO S (lvO lo) (.ref 3))=_;simp only[hO,rnO,qa3,qe0,b8,iz,O];rfl
 .rfl
 .rfl
 .rfl
 .show ς (CO.dK (aa (off lo) sh))=_;simp only[rnO,hr]
 .rfl
 .rfl
 .simp[sg2];show ς _=_;simp
 .rfl
 .rfl
 .show(hbN S (lvO lo) (aa (off lo) sh) 9 (T.length+13) 11 (T.length+1+13) (T++[.e []]++[.e []]))[T.length+13]?=_;rw[U];simp
 .rfl
 .show(hbN S (lvO lo) (aa (off lo) sh) 9 (T.length+13) 11 (T.length+1+13) (T++[.e []]++[.e []]))[T.length+13+1]?=_;rw[show T.length+13+1=T.length+1+13 by lia,U];simp
 .rw[hg _ Θ,U,W o (qa5 hi),qd8,gL (ao hi)];exact hi
def sgW(n:Nat):Nat->Nat:=fun i=>if i<13 then i else if i<16 then n+(i-13)else i-3
theorem yb(h:TlOk tl sh):At (sgW (tl.length+13)) (hc sh S (ς l) tl) (hb S (.ref (tl.length+13)) (aa 13 sh) (tl++[.ins 1 [I l.pl,I l.dn,I l.he,I l.sy,.ref (tl.length+13+1),I l.du,.ref (tl.length+13+2)],.dK (dp l.bx),.dT (dp l.lg)])):=by
 have W:rnP (sgW (tl.length+13)) (aa 16 sh)=aa 13 sh:=cc fun k Z=>by unfold sgW;rw[if_neg Θ,if_neg Θ];lia
 refine jH (fun i j hi U e=>?_) ?_ rfl rfl rfl ?_ rfl rfl rfl rfl rfl rfl rfl rfl fun i o hi=>?_
 .simp only[aq,qb8]at hi U;unfold sgW at e;split at e<;>split at e<;>(try split at e)<;>(try split at e)<;>lia
 .rfl
 .show ς (CO.dK (aa 13 sh))=_;simp only[rnO];rw[show off (ς l)=16 from rfl,W]
 .have O:∀k,(hb S (.ref (tl.length+13)) (aa 13 sh) (tl++[.ins 1 [I l.pl,I l.dn,I l.he,I l.sy,.ref (tl.length+13+1),I l.du,.ref (tl.length+13+2)],.dK (dp l.bx),.dT (dp l.lg)]))[k+13]?=(tl++[CO.ins 1 [I l.pl,I l.dn,I l.he,I l.sy,.ref (tl.length+13+1),I l.du,.ref (tl.length+13+2)],.dK (dp l.bx),.dT (dp l.lg)])[k]?:=fun _=>rfl
  rcases i with _|_|_|i
  .cases hi;show(hb S _ _ _)[tl.length+13]?=_;rw[O,gR Θ,zg0];rfl
  .cases hi;show(hb S _ _ _)[tl.length+13+1]?=_;rw[show tl.length+13+1=tl.length+1+13 by lia,O,gR Θ,qf8];simp only[rnO,ei];rfl
  .cases hi;show(hb S _ _ _)[tl.length+13+2]?=_;rw[show tl.length+13+2=tl.length+2+13 by lia,O,gR Θ,qf8];simp only[rnO,ei];rfl
  .have hi:tl[i]?=ς o:=hi;have:sgW (tl.length+13) (i+1+1+1+13)=i+13:=by unfold sgW;rw[if_neg Θ,if_neg Θ];lia
   rw[this,O,gL (ao hi),hi];obtain⟨L,rfl⟩:=h.all (qa5 hi);rw[cV]
def sg1(n:Nat):Nat->Nat:=fun i=>if i=3 then n else i
theorem yc(h:TlOk tl sh):At (sg1 (tl.length+16)) (hc sh {S with plan:=P} (ς l) tl) ((hl S l (aa 16 sh) (tl++[dl P])).set 0 (hO S (.ref 13) (.ref (tl.length+16)))):=by
 have W:rnP (sg1 (tl.length+16)) (aa 16 sh)=aa 16 sh:=cc fun k Z=>by unfold sg1;rw[if_neg Θ]
 refine jH (fun i j hi U e=>?_) rfl rfl rfl ?_ ?_ rfl rfl rfl rfl rfl rfl rfl rfl fun i o hi=>?_
 .simp only[aq,qb8]at hi U;unfold sg1 at e;split at e<;>split at e<;>lia
 .show(tl++[dl P])[tl.length]?=_;simp
 .show ς (CO.dK (aa 16 sh))=_;simp only[rnO];rw[show off (ς l)=16 from rfl,W]
 .have O:=kQ (σ:=sg1 (tl.length+16)) (lo:=ς l) (o:=o) h rfl rfl (qa5 hi);rw[O];show((hl S l (aa 16 sh) (tl++[dl P])).set 0 (hO S (.ref 13) (.ref (tl.length+16))))[i+13]?=ς o;show(lO l::CO.dK (dp l.bx)::CO.dT (dp l.lg)::(tl++[dl P]))[i]?=ς o;rcases i with _|_|_|i
  .exact hi
  .exact hi
  .exact hi
  .have hi:tl[i]?=ς o:=hi;show(tl++[dl P])[i]?=ς o;rw[gL (ao hi)];exact hi
def sgF(k n:Nat):Nat->Nat:=fun i=>if i=3 then n else if i<13 then i else i-13+k
theorem yd{d:Int}(h:TlOk tl sh):At (sgF (off lo) ((aq lo tl).length+13)) (hc sh {S with plan:=P,dust:=d} ψ tl) ((hb S (lvO lo) (aa (off lo) sh) (aq lo tl++[dl P])).set 0 (hO {S with dust:=d} (.g .non) (.ref ((aq lo tl).length+13)))):=by
 have Z:=l6 (lo:=lo) (tl:=tl);have ho:=f7 (lo:=lo);have U:rnP (sgF (off lo) ((aq lo tl).length+13)) (aa 13 sh)=aa (off lo) sh:=cc fun k O=>by unfold sgF;rw[if_neg Θ,if_neg Θ];lia
 have O:∀i,i<tl.length->(aq lo tl)[i+off lo-13]?=tl[i]?:=fun i hi=>by
  cases lo
  .show tl[i+13-13]?=_;rw[Nat.add_sub_cancel]
  .show(_::_::_::tl)[i+16-13]?=_;rw[show i+16-13=i+3 by lia];rfl
 generalize aq lo tl=T at*
 refine jH (fun i j hi W e=>?_) rfl rfl rfl ?_ ?_ rfl rfl rfl rfl rfl rfl rfl rfl fun i o hi=>?_
 .simp only[aq]at hi W;unfold sgF at e;split at e<;>split at e<;>(try split at e)<;>(try split at e)<;>lia
 .show(T++[dl P])[T.length]?=_;simp
 .show ς (CO.dK (aa (off lo) sh))=_;simp only[rnO];rw[show off ψ=13 from rfl,U]
 .have hi:tl[i]?=ς o:=hi;have hl:=ao hi;have e:sgF (off lo) (T.length+13) (i+13)=i+off lo-13+13:=by unfold sgF;rw[if_neg Θ,if_neg Θ];lia
  rw[e];show(T++[dl P])[i+off lo-13]?=_;rw[gL Θ,O i hl,hi];obtain⟨L,rfl⟩:=h.all (qa5 hi);rw[cV]
end
def dM(sh:Sh)(R:Nat)(lo:Bool):η Str->η Sm->Prop
 |_,[]=>lo=θ
 |ns,.put n p v::P=>Vp sh n p/\Vi (.int v)/\dM sh R lo ns P
 |_,.wake::P=>P=[]/\lo=ξ
 |_,.beg a _ c _::P=>(∃i:Nat,a=i/\i<R)/\0<=c/\P≠[]/\dM sh R lo [] P
 |ns,.box n v::P=>n∉ns/\Vi (.int v)/\dM sh R lo (ns++[n]) P
 |ns,.log n p v::P=>Vp sh n p/\Vi (.int v)/\dM sh R lo ns P
 |_,.trn::P=>∀ns,dM sh R lo ns P
structure PgOk(R:Nat)(sh:Sh)(N:Nat)(h pb pt:List Dt)(bs:List Bx):Prop where
 hd:∃(i:Nat)(b c d:Int),h=[.int i,.int b,.int c,.int d]/\i<R/\0<=c
 pb:pb=bs.map Bx.d
 nd:(bs.map (·.1)).Nodup
 vi:∀b∈bs,Vi (.int b.2)
 bn:bs.length<=N
 pt:∃ts:List Tn,pt=ts.map Tn.d/\(∀t∈ts,Vp sh t.1.1 t.1.2/\Vi (.int t.2))/\ts.length<=N
def oth(S:HS)(b0 b1:η Bx):η Str:=if S.cnt=0 then b1.map (·.1)else b0.map (·.1)
structure Ok(x:Fx)(R:List Rw)(sh:Sh)(N:Nat)(S:HS)(lo:Option LS)(tl:CH)(P:List Sm)(b0 b1:List Bx):Prop where
 hx:S.x=x
 pl:S.plan=P.map Sm.d
 ok:dM sh R.length lo.isSome (oth S b0 b1) P
 pn:P.length<=2*N+10
 p0:PgOk R.length sh N S.h0 S.pb0 S.pt0 b0
 p1:PgOk R.length sh N S.h1 S.pb1 S.pt1 b1
 ct:S.cnt=0∨S.cnt=1
 rs:S.res=.non∨∃i,S.res=.int i
 ft:FOk N S.fst
 du:Vi (.int S.dust)
 lo:∀l,lo=ς l->LOk sh N l/\∃i:Nat,l.pl=i/\i<R.length
 tl:TlOk tl sh
structure XR(x:Fx)(R:List Rw)(sh:Sh):Prop where
 X:XOk x sh
 rows:x.rows=R.map Rw.d
 onw:∀(i:Nat) r,R[i]?=ς r->x.onw[i]?=ς (aM i r)
 rok:∀r∈R,xZ x sh r
 lead:∀(i:Nat) r p,R[i]?=ς r->iG i r p->∃j:Nat,p=j/\j<R.length
 kv:∀k d,ay x.kk x.kv k=ς d->∃bs:List Str,d=.t (bs.map .str)/\bs.Nodup/\bs.length<=6
section
variable{x:Fx}{R:η Rw}{sh:Sh}{N:Nat}{S:HS}{lo:ζ LS}{tl:CH}{P:η Sm}{b0 b1:η Bx}{h pb pt:η Dt}{bs:η Bx}
theorem PgOk.up(g:PgOk R.length sh N h pb pt bs):PgOk R.length sh (N+1) h pb pt bs:=⟨g.hd,g.pb,g.nd,g.vi,qd9 g.bn,let ⟨ts,h1,h2,h3⟩:=g.pt;⟨ts,h1,h2,qd9 h3⟩⟩
theorem PgOk.len(g:PgOk R.length sh N h pb pt bs):h.length=4:=by obtain⟨i,b,c,d,rfl,_⟩:=g.hd;rfl
theorem PgOk.box(g:PgOk R.length sh N h pb pt bs){n:Str}{v:Int}(U:n∉bs.map (·.1))(W:Vi (.int v)):PgOk R.length sh (N+1) h (pb++[.t [.str n,.int v]]) pt (bs++[(n,v)]):=by
 refine⟨g.hd,by rw[g.pb];simp[Bx.d],?_,fun b hb=>?_,by have:=g.bn;simp;lia,let ⟨ts,h1,h2,h3⟩:=g.pt;⟨ts,h1,h2,qd9 h3⟩⟩
 .rw[qd0,qe2];exact⟨g.nd,Ξ,fun a O b hb e=>U (by simp at hb;rw[<- hb,<- e];exact O)⟩
 .rcases qf5.mp hb with hb|hb
  .exact g.vi b hb
  .simp at hb;subst hb;exact W
theorem PgOk.turn(g:PgOk R.length sh N h pb pt bs){n:Str}{v:Int}(hp:Vp sh n p)(U:Vi (.int v)):PgOk R.length sh (N+1) h pb (pt++[.t [.t [.str n,.int p],.int v]]) bs:=by
 obtain⟨ts,h1,h2,W⟩:=g.pt;refine⟨g.hd,g.pb,g.nd,g.vi,qd9 g.bn,ts++[((n,p),v)],by rw[h1];simp[Tn.d],fun t O=>?_,by simp;lia⟩;rcases qf5.mp O with O|O
 .exact h2 t O
 .simp at O;subst O;exact⟨hp,U⟩
theorem kR{k:Nat}:(aq lo tl)[k+(off lo-13)]?=tl[k]?:=by cases lo<;>rfl
theorem uE{k:Nat}{o:CO}:(aq lo tl).set (k+(off lo-13)) o=aq lo (tl.set k o):=by cases lo<;>rfl
theorem CQ{n:Str}{p:Nat}{v:Int}(hn:(sh.map (·.1)).Nodup)(W:TlOk tl sh)(hp:Vp sh n p)(hv:Vi (.int v)):∃O,TlOk O sh/\F27 [.ref 1,.g (.str n),I p,I v] (hc sh S lo tl)=ς (.g .non,hc sh S lo O):=by
 obtain⟨k,m,h1,h2⟩:=hp;obtain⟨L,Z,h4,h5⟩:=W.at_ h1;refine⟨tl.set k (dl (L.set p (.int v))),W.set h1 (by simp[h4]) fun d U=>?_,?_⟩
 .rcases qp6 U with U|rfl
  .exact h5 d U
  .exact hv
 .have:=um (S:=S) (lv:=lvO lo) (rf:=aa (off lo) sh) (tl:=aq lo tl) (n:=n) (k:=k+(off lo-13)) (p:=p) (v:=.int v) (l:=L) (by rw[dH hn h1];have:=f7 (lo:=lo);congr 2;lia) (by rw[kR];exact Z) Θ;rw[uE]at this;exact this
theorem E9(hn:(sh.map (·.1)).Nodup){s:Sm}(hs:∀a b c d,s≠.beg a b c d)(hw:s≠.wake)(hN:N<1000000)(o:Ok x R sh N S lo tl (s::P) b0 b1):∃S' tl' c0 c1,F33 [.ref 1,.g s.d] (hc sh {S with plan:=P.map Sm.d} lo tl)=ς (.g .non,hc sh S' lo tl')/\Ok x R sh (N+1) S' lo tl' P c0 c1:=by
 have Z:N<qa9:=by rw[qa7];lia
 have U:∀l,lo=ς l->LOk sh (N+1) l/\∃i:Nat,l.pl=i/\i<R.length:=fun l e=>⟨(o.lo l e).1.up,(o.lo l e).2⟩
 have W:P.length<=2*(N+1)+10:=by have:=o.pn;simp at this;lia
 have hp:=o.ok;cases s with
 |put n p v=>obtain⟨tl',h1,h2⟩:=CQ (S:={S with plan:=P.map Sm.d}) (lo:=lo) hn o.tl hp.1 hp.2.1;exact⟨_,tl',b0,b1,Co h2,⟨o.hx,rfl,hp.2.2,W,o.p0.up,o.p1.up,o.ct,o.rs,o.ft.up,o.du,U,h1⟩⟩
 |wake=>exact absurd rfl hw
 |beg a b c d=>exact absurd rfl (hs a b c d)
 |box n v=>
  rcases o.ct with O|O
  .have e:oth S b0 b1=b1.map (·.1):=if_pos O;rw[e]at hp;refine⟨_,tl,b0,b1++[(n,v)],uu (Ch (S:={S with plan:=P.map Sm.d}) O (by show S.pb1.length<_;rw[o.p1.pb,qa4];exact qe4 o.p1.bn Z)),⟨o.hx,rfl,?_,W,o.p0.up,o.p1.box hp.1 hp.2.1,o.ct,o.rs,o.ft.up,o.du,U,o.tl⟩⟩;have:oth {S with plan:=P.map Sm.d,pb1:=S.pb1++[.t [.str n,.int v]]} b0 (b1++[(n,v)])=b1.map (·.1)++[n]:=by unfold oth;rw[if_pos O];simp
   rw[this];exact hp.2.2
  .have e:oth S b0 b1=b0.map (·.1):=if_neg (by rw[O];decide);rw[e]at hp;refine⟨_,tl,b0++[(n,v)],b1,uu (Cg (S:={S with plan:=P.map Sm.d}) O (by show S.pb0.length<_;rw[o.p0.pb,qa4];exact qe4 o.p0.bn Z)),⟨o.hx,rfl,?_,W,o.p0.box hp.1 hp.2.1,o.p1.up,o.ct,o.rs,o.ft.up,o.du,U,o.tl⟩⟩;have:oth {S with plan:=P.map Sm.d,pb0:=S.pb0++[.t [.str n,.int v]]} (b0++[(n,v)]) b1=b0.map (·.1)++[n]:=by unfold oth;rw[if_neg (by rw[O];decide)];simp
   rw[this];exact hp.2.2
 |log n p v=>
  rcases o.ct with O|O
  .obtain⟨ts,h1,_,h3⟩:=o.p1.pt;exact⟨_,tl,b0,b1,uv (Cj (S:={S with plan:=P.map Sm.d}) O (by show S.pt1.length<_;rw[h1,qa4];exact qe4 h3 Z)),⟨o.hx,rfl,hp.2.2,W,o.p0.up,o.p1.turn hp.1 hp.2.1,o.ct,o.rs,o.ft.up,o.du,U,o.tl⟩⟩
  .obtain⟨ts,h1,_,h3⟩:=o.p0.pt;exact⟨_,tl,b0,b1,uv (Ci (S:={S with plan:=P.map Sm.d}) O (by show S.pt0.length<_;rw[h1,qa4];exact qe4 h3 Z)),⟨o.hx,rfl,hp.2.2,W,o.p0.turn hp.1 hp.2.1,o.p1.up,o.ct,o.rs,o.ft.up,o.du,U,o.tl⟩⟩
 |trn=>exact⟨_,tl,b0,b1,Cp,⟨o.hx,rfl,hp _,W,o.p0.up,o.p1.up,by rcases o.ct with h|h<;>simp[h],o.rs,o.ft.up,o.du,U,o.tl⟩⟩
theorem kT{lo:Bool}{r:Nat}:∀{ts:η Tn}{ns:η Str}{Q:η Sm},(∀t∈ts,Vp sh t.1.1 t.1.2/\Vi (.int t.2))->dM sh r lo ns Q->dM sh r lo ns (eg ts++Q)
 |[],_,_,_,h=>h
 |t::ts,ns,Q,h,U=>⟨(h t (.head _)).1,(h t (.head _)).2,kT (fun u O=>h u (.tail _ O)) U⟩
theorem o7{lo:Bool}{r:Nat}:∀{ts:η Tn}{ns:η Str}{Q:η Sm},(∀t∈ts,Vp sh t.1.1 t.1.2/\Vi (.int t.2))->dM sh r lo ns Q->dM sh r lo ns (ur ts++Q)
 |[],_,_,_,h=>h
 |t::ts,ns,Q,h,U=>⟨(h t (.head _)).1,(h t (.head _)).2,o7 (fun u O=>h u (.tail _ O)) U⟩
theorem l9{lo:Bool}{r:Nat}{Q:η Sm}(O:∀ns,dM sh r lo ns Q):∀{ks:η Bx}{ns:η Str},(∀k∈ks,Vi (.int k.2))->(ns++ks.map (·.1)).Nodup->dM sh r lo ns ((ks.map fun k=>.box k.1 k.2)++Q)
 |[],ns,_,_=>O ns
 |k::ks,ns,h,U=>by refine⟨fun Z=>?_,h k (.head _),l9 O (fun u W=>h u (.tail _ W)) (by simpa[qd8] using U)⟩;have:=(qe2.mp U).2.2 k.1 Z k.1 Ξ;exact this rfl
end
def To(x:Fx)(R:η Rw)(sh:Sh)(N:Nat)(F:Fd)(ag:η CV)(cs:CH):Prop:=∃S lo tl P b0 b1 cs' σ,F ag cs=ς (.g .non,cs')/\cs.length<=cs'.length/\At σ (hc sh S lo tl) cs'/\σ 0=0/\Ok x R sh N S lo tl P b0 b1
variable{ag:η CV}
section
variable{x:Fx}{R:η Rw}{sh:Sh}{N:Nat}{S:HS}{lo:ζ LS}{tl:CH}{P:η Sm}{b0 b1:η Bx}
theorem ye{s:Sm}(h:s≠.wake):∃k r,s.d=.t (.str k::r)/\(k=qa2 "wake")=False:=by
 cases s with
 |put n p v=>exact⟨_,_,rfl,(by simp[ofS])⟩
 |wake=>exact absurd rfl h
 |beg a b c d=>exact⟨_,_,rfl,(by simp[ofS])⟩
 |box n v=>exact⟨_,_,rfl,(by simp[ofS])⟩
 |log n p v=>exact⟨_,_,rfl,(by simp[ofS])⟩
 |trn=>exact⟨_,_,rfl,(by simp[ofS])⟩
theorem To.here{F:Fd}{cs:CH}(h:F ag cs=ς (.g .non,hc sh S lo tl))(hl:cs.length<=(hc sh S lo tl).length)(o:Ok x R sh N S lo tl P b0 b1):To x R sh N F ag cs:=⟨S,lo,tl,P,b0,b1,_,_,h,hl,.same,rfl,o⟩
theorem o8{U:ζ LS}{O:CH}(e:off lo=off U)(h:TlOk tl sh)(h':TlOk O sh):(hc sh S lo tl).length<=(hc sh S' U O).length:=by rw[nM,nM,h.len,h'.len,e];exact nL _
theorem uF(X:XR x R sh){s:Sm}(hN:N<400000)(o:Ok x R sh N S lo tl (s::P) b0 b1):To x R sh (N+1) F34 [.ref 0] (hc sh S lo tl):=by
 have hl:S.plan.length<=1000000:=by have:=o.pn;rw[o.pl,qa4];lia
 have h1:=o.ok;by_cases hw:s=.wake
 .subst hw;obtain⟨rfl,U⟩:=h1;obtain rfl:lo=ψ:=by cases lo;rfl;cases U
  have key:∃(i:Nat)(b c d:Int)(bs:η Bx)(t:Dt),pgD S=[.int i,.int b,.int c,.int d,.e (bs.map Bx.d),t]/\(bs.map (·.1)).Nodup/\i<R.length/\0<=c/\(∀b∈bs,Vi (.int b.2))/\bs.length<=N:=by
   unfold pgD;split
   .obtain⟨i,b,c,d,e,g1,g2⟩:=o.p0.hd;exact⟨i,b,c,d,b0,.e S.pt0,by rw[e,o.p0.pb];rfl,o.p0.nd,g1,g2,o.p0.vi,o.p0.bn⟩
   .obtain⟨i,b,c,d,e,g1,g2⟩:=o.p1.hd;exact⟨i,b,c,d,b1,.e S.pt1,by rw[e,o.p1.pb];rfl,o.p1.nd,g1,g2,o.p1.vi,o.p1.bn⟩
  obtain⟨i,b,c,d,bs,t,k1,k2,k3,k4,k5,k6⟩:=key;have hk:=nJ (S:=S) (lv:=.g .non) (rf:=aa 13 sh) (tl:=tl) (by rw[o.pl];rfl) o.ct o.p0.len o.p1.len k1 k2;refine⟨_,ς ⟨i,b,c,d,S.dust,bxK bs,[]⟩,tl,[],b0,b1,_,_,hk,?_,yb (l:=⟨i,b,c,d,S.dust,bxK bs,[]⟩) o.tl,rfl,⟨o.hx,rfl,rfl,qg9 _,o.p0.up,o.p1.up,o.ct,o.rs,o.ft.up,o.du,fun l e=>?_,o.tl⟩⟩
  .simp[hc,hb,aq]
  .cases e;refine⟨⟨k4,o.du,fun p hp=>?_,by simp[bxK];lia,Ξ,Ξ⟩,i,rfl,k3⟩;simp only[bxK,qc8]at hp;obtain⟨q,hq,rfl⟩:=hp;exact k5 q hq
 .obtain⟨k,r,hd,hk⟩:=ye hw;by_cases hb:∃a b c d,s=.beg a b c d
  .obtain⟨a,b,c,d,rfl⟩:=hb;obtain⟨⟨i,rfl,hi⟩,hc0,hne,hP⟩:=h1;obtain⟨q,P',rfl⟩:∃q P',P=q::P':=by cases P with|nil=>exact absurd rfl hne|cons q P'=>exact⟨q,P',rfl⟩
   have U:∀l,lo=ς l->LOk sh (N+1) l/\∃i:Nat,l.pl=i/\i<R.length:=fun l e=>⟨(o.lo l e).1.up,(o.lo l e).2⟩
   have hpn:(q::P').length<=2*(N+1)+10:=by have:=o.pn;simp at this ⊢;lia
   have nw:PgOk R.length sh (N+1) [.int i,.int b,.int c,.int d] [] [] []:=⟨⟨i,b,c,d,rfl,hi,hc0⟩,rfl,Ξ,Ξ,Ξ,[],rfl,Ξ,Ξ⟩;rcases o.ct with O|O
   .have hb1:=xG (S:={S with plan:=(q::P').map Sm.d}) (lv:=lvO lo) (rf:=aa (off lo) sh) (tl:=aq lo tl) O (a:=.int i) (b:=.int b) (c:=.int c) (d:=.int d);have W:=eh (S:=S) (lv:=lvO lo) (rf:=aa (off lo) sh) (tl:=aq lo tl) (S':={S with plan:=(q::P').map Sm.d,h1:=[.int i,.int b,.int c,.int d]}) (q:=q.d) (P:=P'.map Sm.d) (by rw[o.pl];rfl) (by simp[ofS]) hl (ut hb1) rfl rfl;refine⟨{S with plan:=(q::P').map Sm.d,h1:=[.int i,.int b,.int c,.int d],pb1:=[],pt1:=[]},lo,tl,q::P',b0,[],_,_,W,?_,nO (S:={S with plan:=(q::P').map Sm.d,h1:=[.int i,.int b,.int c,.int d]}) o.tl,rfl,⟨o.hx,rfl,?_,hpn,o.p0.up,nw,o.ct,o.rs,o.ft.up,o.du,U,o.tl⟩⟩
    .simp[hc,hb,hbN]
    .have:oth {S with plan:=(q::P').map Sm.d,h1:=[.int i,.int b,.int c,.int d],pb1:=[],pt1:=[]} b0 []=[]:=by unfold oth;rw[if_pos O];rfl
     rw[this];exact hP
   .have hb1:=xF (S:={S with plan:=(q::P').map Sm.d}) (lv:=lvO lo) (rf:=aa (off lo) sh) (tl:=aq lo tl) O (a:=.int i) (b:=.int b) (c:=.int c) (d:=.int d);have W:=eh (S:=S) (lv:=lvO lo) (rf:=aa (off lo) sh) (tl:=aq lo tl) (S':={S with plan:=(q::P').map Sm.d,h0:=[.int i,.int b,.int c,.int d]}) (q:=q.d) (P:=P'.map Sm.d) (by rw[o.pl];rfl) (by simp[ofS]) hl (ut hb1) rfl rfl;refine⟨{S with plan:=(q::P').map Sm.d,h0:=[.int i,.int b,.int c,.int d],pb0:=[],pt0:=[]},lo,tl,q::P',[],b1,_,_,W,?_,nN (S:={S with plan:=(q::P').map Sm.d,h0:=[.int i,.int b,.int c,.int d]}) o.tl,rfl,⟨o.hx,rfl,?_,hpn,nw,o.p1.up,o.ct,o.rs,o.ft.up,o.du,U,o.tl⟩⟩
    .simp[hc,hb,hbN]
    .have:oth {S with plan:=(q::P').map Sm.d,h0:=[.int i,.int b,.int c,.int d],pb0:=[],pt0:=[]} [] b1=[]:=by unfold oth;rw[if_neg (by show ¬ S.cnt=0;rw[O];decide)];rfl
     rw[this];exact hP
  .have hb':∀a b c d,s≠.beg a b c d:=fun a b c d e=>hb ⟨a,b,c,d,e⟩
   obtain⟨S',Z,c0,c1,h2,o'⟩:=E9 X.X.nd hb' hw Θ o;rw[hd]at h2;cases P with
   |cons q P'=>have W:=eh (S:=S) (lv:=lvO lo) (rf:=aa (off lo) sh) (tl:=aq lo tl) (S':=S') (ch':=hc sh S' lo Z) (q:=q.d) (P:=P'.map Sm.d) (by rw[o.pl,qa3,hd];rfl) hk hl h2 rfl (by show ς (dl S'.plan)=_;rw[o'.pl];rfl);exact .here W (o8 rfl o.tl o'.tl) o'
   |nil=>have hi:lo.isSome=θ:=o'.ok;obtain⟨l,rfl⟩:=qd5.mp hi;have W:=nI (S:=S) (rf:=aa 16 sh) (tl:=aq (ς l) tl) (S':=S') (bx:=.dK (dp l.bx)) (lg:=dp l.lg) (ch':=Z) (by rw[o.pl,qa3,hd];rfl) hk h2 o'.pl;refine .here (S:=S') (lo:=ς {l with lg:=[]}) (tl:=Z) W (o8 rfl o.tl o'.tl) ⟨o'.hx,o'.pl,o'.ok,o'.pn,o'.p0,o'.p1,o'.ct,o'.rs,o'.ft,o'.du,fun m e=>?_,o'.tl⟩;cases e;have:=o'.lo l rfl;exact⟨⟨this.1.he,this.1.du,this.1.bx,this.1.bn,Ξ,Ξ⟩,this.2⟩
theorem CS{l:LS}(X:XR x R sh)(hN:N<400000)(o:Ok x R sh N S (ς l) tl [] b0 b1):To x R sh (N+1) F49 [.ref 0] (hc sh S (ς l) tl):=by
 obtain⟨hL,i,hi,hlt⟩:=o.lo l rfl;have hr:R[i]?=ς R[i]:=gQ hlt;generalize R[i]=r at hr
 have U:ixD (.t S.x.rows) (.int l.pl)=ς r.d:=by rw[hi,o.hx,X.rows];exact(dI (by rw[qa8,hr];rfl)).2
 have hro:=X.rok r (qa5 hr);have hL1:LOk sh N {l with dn:=l.dn+1}:=⟨hL.he,hL.du,hL.bx,hL.bn,hL.lg,hL.ln⟩;have e13:(hl S l (aa 16 sh) tl).set 13 (.ins 1 [I l.pl,I (l.dn+1),I l.he,I l.sy,.ref 14,I l.du,.ref 15])=hl S {l with dn:=l.dn+1} (aa 16 sh) tl:=rfl;have zero:∀{a:Dt}{L:η Dt},ixD (.t (a::L)) (.int 0)=ς a:=fun {a L}=>by simp[ixD,az,gIx,atI,ixN]
 have one:∀{a b:Dt}{L:η Dt},ixD (.t (a::b::L)) (.int 1)=ς b:=fun {a b L}=>by simp[ixD,az,gIx,atI,ixN,show(1:Int)<(L.length:Int)+1+1 by lia]
 by_cases hf:∃a,r=.fin a
 .obtain⟨a,rfl⟩:=hf;obtain⟨v,hv,h1⟩:=cb (S:=S) (l:={l with dn:=l.dn+1}) (rf:=aa 16 sh) (tl:=tl) hL.du hL.bx a hro;have hg:=xD (S:=S) (lv:=.ref 13) (rf:=aa 16 sh) (tl:=aq (ς {l with dn:=l.dn+1}) tl) (v:=.int v);refine .here (S:={S with res:=.int v}) (lo:=ς {l with dn:=l.dn+1}) (tl:=tl) (P:=[]) (b0:=b0) (b1:=b1) ?_ (o8 rfl o.tl o.tl) ⟨o.hx,o.pl,o.ok,qg9 _,o.p0.up,o.p1.up,o.ct,.inr ⟨v,rfl⟩,o.ft.up,o.du,fun m e=>?_,o.tl⟩
  .simp only[Rw.d]at U;simp only[aq]at hg;show F49 [.ref 0] (hl S l (aa 16 sh) tl)=ς (.g .non,hl {S with res:=.int v} {l with dn:=l.dn+1} (aa 16 sh) tl);simp! only[q49];dsimp! [ax,U,e13,zero,one,h1,hg]
  .cases e;exact⟨hL1.up,i,hi,hlt⟩
 .have hf':∀a,r≠.fin a:=fun a e=>hf ⟨a,e⟩
  have hxr:xZ S.x sh r:=by rw[o.hx];exact hro
  have hXX:XOk S.x sh:=by rw[o.hx];exact X.X
  obtain⟨ch',d1,f,u,hh,yy,bb,gg,tl',F',L',T',rfl⟩:=CP r hf' (S:=S) (l:={l with dn:=l.dn+1}) hXX hxr o.ft hL1 o.tl (by rw[qa7];lia);obtain⟨S1,O⟩:∃S1,S1={S with fst:=f,unl:=u}:=⟨_,rfl⟩;obtain⟨l1,hl1⟩:∃l1:LS,l1={l with dn:=l.dn+1,he:=hh,sy:=yy,bx:=bb,lg:=gg}:=⟨_,rfl⟩;have eq1:hl {S with fst:=f,unl:=u} {{l with dn:=l.dn+1} with he:=hh,sy:=yy,bx:=bb,lg:=gg} (aa 16 sh) tl'=hl S1 l1 (aa 16 sh) tl':=by rw[O,hl1]
  rw[eq1]at d1;have Z:LOk sh (N+1) l1:=by rw[hl1];exact L'
  have hx1:S1.x=x:=by rw[O];exact o.hx
  have hpl:l1.pl=i:=by rw[hl1];exact hi
  obtain⟨p,hp,d2⟩:=behind (S:=S1) (l:=l1) (tl:=tl') r hf' hpl (by rw[hx1];exact X.onw i r hr) Z;obtain⟨j,rfl,hj⟩:=X.lead i r p hr hp;have L2:LOk sh (N+1) {l1 with pl:=j}:=⟨Z.he,Z.du,Z.bx,Z.bn,Z.lg,Z.ln⟩;have e13':(hl S1 l1 (aa 16 sh) tl').set 13 (.ins 1 [I j,I l1.dn,I l1.he,I l1.sy,.ref 14,I l1.du,.ref 15])=hl S1 {l1 with pl:=j} (aa 16 sh) tl':=rfl
  have O1:∀Q W bs1,dM sh R.length θ (oth S1 W bs1) Q->Q.length<=2*(N+1)+10->W=b0->bs1=b1->Ok x R sh (N+1) {S1 with plan:=Q.map Sm.d} (ς {l1 with pl:=j}) tl' Q W bs1:=fun Q W bs1 h1 h2 e0 e1=>by subst e0 e1;refine⟨hx1,rfl,h1,h2,by rw[O];exact o.p0.up,by rw[O];exact o.p1.up,by rw[O];exact o.ct,by rw[O];exact o.rs,by rw[O];exact F',by rw[O];exact o.du,fun m e=>?_,T'⟩;cases e;exact⟨L2,j,rfl,hj⟩
  have hpe:S1.plan=[]:=by rw[O];exact o.pl
  have ne:oEq.g (ixD r.d (.int 0) |>.getD .non) (.str "end")=ς (.f (.bl ξ))/\(ixD r.d (.int 0)).isSome=θ:=by cases r<;>first|exact absurd rfl (hf' _)|(simp only[Rw.d,zero,ql0];exact⟨by simp[oEq,gEq,eqD,ofS],rfl⟩)
  obtain⟨k0,hk0⟩:=qd5.mp ne.2;have ne1:=ne.1;rw[hk0,ql0]at ne1;cases q:ay S1.x.kk S1.x.kv (qp0 (j:Int))with
  |none=>
   have hin:oIn.g (.int j) (.dct S1.x.kk S1.x.kv)=ς (.f (.bl ξ)):=by simp[oIn,orO,gIn,inD,eU,az,cX,q]
   refine .here (S:={S1 with plan:=[]}) (lo:=ς {l1 with pl:=j}) (tl:=tl') (P:=[]) (b0:=b0) (b1:=b1) ?_ (o8 rfl o.tl T') (O1 [] b0 b1 rfl Ξ rfl rfl);have:({S1 with plan:=[]}:HS)=S1:=by rw[<- hpe]
   rw[this];show F49 [.ref 0] (hl S l (aa 16 sh) tl)=ς (.g .non,hl S1 {l1 with pl:=j} (aa 16 sh) tl');simp only[q49,cG,aj,ar,sRt,sRn,sIf,aO,sDr,sFl,sFa,e2,eIx,eAt,eV,eK,eCa,kCa,eMe,aL,aCn,aNl];simp[lent,vw,ixV,bN,bO,fin,T.d,CV.sol,CV.kp,CV.old,cr,iAdd,xu,xw,uh,xx,xy,xz,xA,xB,ui,xC,oX,oY,oZ,ax,U,hk0,ne1,e13,d1,d2,e13',hin]
  |some d=>
   obtain⟨bs,rfl,hnd,h6⟩:=X.kv (.inl j) d (by rw[<- hx1];exact q);have hin:oIn.g (.int j) (.dct S1.x.kk S1.x.kv)=ς (.f (.bl θ)):=by simp[oIn,orO,gIn,inD,eU,az,cX,q]
   have hix:ixD (.dct S1.x.kk S1.x.kv) (.int j)=ς (.t (bs.map .str)):=by simp[ixD,az,cX,q]
   obtain⟨ks,ts,w1,w2,w3,w4,w5⟩:=ya (S:=S1) (l:={l1 with pl:=j}) (tl:=tl') (bs:=bs) L2 Θ
   have hw:dM sh R.length θ (oth S1 b0 b1) (fm j l1.dn l1.he l1.sy ks ts):=by
    have hb':(ks.map (·.1)).Nodup:=by rw[w1];exact hnd
    have hq:∀ns,dM sh R.length θ ns (eg ts):=fun ns=>by have:=kT (sh:=sh) (lo:=true) (r:=R.length) (ns:=ns) (Q:=[]) w3 rfl;rw[qh6]at this;exact this
    have ha:fm j l1.dn l1.he l1.sy ks ts=Sm.beg j l1.dn l1.he l1.sy::((ks.map fun k=>.box k.1 k.2)++(ur ts++(.trn::eg ts))):=by simp[fm]
    rw[ha];exact⟨⟨j,rfl,hj⟩,Z.he,Ξ,l9 (fun ns=>o7 w3 (show dM sh R.length θ ns (.trn::eg ts)from hq)) w2 (by simpa using hb')⟩
   refine⟨_,_,tl',fm j l1.dn l1.he l1.sy ks ts,b0,b1,(hl S1 {l1 with pl:=j} (aa 16 sh) (tl'++[dl ((fm j l1.dn l1.he l1.sy ks ts).map Sm.d)])).set 0 (hO S1 (.ref 13) (.ref (tl'.length+16))),_,?_,?_,yc T',rfl,O1 _ b0 b1 hw ?_ rfl rfl⟩
   .show F49 [.ref 0] (hl S l (aa 16 sh) tl)=_;simp only[q49,cG,aj,ar,sRt,sRn,sIf,aO,sDr,sFl,sFa,e2,eIx,eAt,eV,eK,eCa,kCa,eMe,aL,aCn,aNl];simp[lent,vw,ixV,bN,bO,fin,T.d,CV.sol,CV.kp,CV.old,cr,iAdd,xu,xw,uh,xx,xy,xz,xA,xB,ui,xC,oX,oY,oZ,ax,U,hk0,ne1,e13,d1,d2,e13',hin,hix,w5];rfl
   .have:=o.tl.len;have:=T'.len;simp[hc,hb,aq];lia
   .simp[fm,ur,eg];have:ks.length=bs.length:=by rw[<- w1,qa4]
    lia
theorem yf(X:XR x R sh)(hN:N<400000)(o:Ok x R sh N S lo tl P b0 b1)(hr:S.res=.non):To x R sh (N+1) F50 [.ref 0] (hc sh S lo tl):=by
 have h1:=gJ (S:=S) (lv:=lvO lo) (rf:=aa (off lo) sh) (tl:=aq lo tl) hr;cases P with
 |nil=>have hi:lo.isSome=θ:=o.ok;obtain⟨l,rfl⟩:=qd5.mp hi;obtain⟨S',U,O,P',c0,W,cs',σ,g1,g2,g3,g4,Z⟩:=CS X hN o;refine⟨S',U,O,P',c0,W,cs',σ,?_,g2,g3,g4,Z⟩;have hp:S.plan=[]:=o.pl;unfold hc at g1 ⊢;simp! only[q50];simp! [h1,hp,g1]
 |cons s P=>obtain⟨S',U,O,P',c0,W,cs',σ,g1,g2,g3,g4,Z⟩:=uF X hN o;refine⟨S',U,O,P',c0,W,cs',σ,?_,g2,g3,g4,Z⟩;obtain⟨d,L,hp⟩:∃d L,S.plan=d::L:=⟨_,_,o.pl⟩;unfold hc at g1 ⊢;simp! only[q50];simp! [h1,hp,g1,show(0:Int)<(L.length:Int)+1 by lia]
theorem qJ{i:Int}(O:S.res=.int i):F50 [.ref 0] (hc sh S lo tl)=ς (.g .non,hc sh S lo tl):=by have h1:=gK (S:=S) (lv:=lvO lo) (rf:=aa (off lo) sh) (tl:=aq lo tl) O;unfold hc;simp! only[q50];simp! [h1]
theorem qK{i d:Int}(O:S.res=.int i):F52 [.ref 0,I d] (hc sh S lo tl)=ς (.g .non,hc sh S lo tl):=by have h1:=gK (S:=S) (lv:=lvO lo) (rf:=aa (off lo) sh) (tl:=aq lo tl) O;unfold hc;simp! only[q52];simp! [h1]
theorem yg{d:Int}(hd:Vi (.int d))(hN:N<400000)(o:Ok x R sh N S lo tl P b0 b1)(hr:S.res=.non):To x R sh (N+1) F52 [.ref 0,I d] (hc sh S lo tl):=by
 have h1:=gJ (S:=S) (lv:=lvO lo) (rf:=aa (off lo) sh) (tl:=aq lo tl) hr
 have key:∃(a b c e f:Dt)(ts:η Tn),pgD S=[a,b,c,e,f,.e (ts.map Tn.d)]/\(∀t∈ts,Vp sh t.1.1 t.1.2/\Vi (.int t.2))/\ts.length<=N:=by
  unfold pgD;split
  .obtain⟨i,b,c,d,e,g1,g2⟩:=o.p0.hd;obtain⟨ts,U,k2,Z⟩:=o.p0.pt;exact⟨_,_,_,_,_,ts,by rw[e,U];rfl,k2,Z⟩
  .obtain⟨i,b,c,d,e,g1,g2⟩:=o.p1.hd;obtain⟨ts,U,k2,Z⟩:=o.p1.pt;exact⟨_,_,_,_,_,ts,by rw[e,U];rfl,k2,Z⟩
 obtain⟨a,b,c,e,f,ts,U,k2,Z⟩:=key;have O:=kM (S:={S with dust:=d}) (lv:=.g .non) (rf:=aa (off lo) sh) (tl:=aq lo tl) o.p0.len o.p1.len o.ct;have k1':pgD {S with dust:=d}=[a,b,c,e,f,.e (ts.map Tn.d)]:=U;rw[k1']at O;have W:=jF (ch:=hb {S with dust:=d} (.g .non) (aa (off lo) sh) (aq lo tl)) (a:=a) (b:=b) (c:=c) (d:=e) (e:=f) (ts:=ts) (by rw[qa7];lia);have eL:(hb {S with dust:=d} (.g .non) (aa (off lo) sh) (aq lo tl)).length=(aq lo tl).length+13:=rfl;have eX:hb {S with dust:=d} (.g .non) (aa (off lo) sh) (aq lo tl)++[dl ((eg ts++[Sm.wake]).map Sm.d)]=hb {S with dust:=d} (.g .non) (aa (off lo) sh) (aq lo tl++[dl ((eg ts++[Sm.wake]).map Sm.d)]):=rfl;rw[eL,eX]at W;refine⟨{S with plan:=(eg ts++[Sm.wake]).map Sm.d,dust:=d},ψ,tl,eg ts++[Sm.wake],b0,b1,(hb S (lvO lo) (aa (off lo) sh) (aq lo tl++[dl ((eg ts++[Sm.wake]).map Sm.d)])).set 0 (hO {S with dust:=d} (.g .non) (.ref ((aq lo tl).length+13))),_,?_,?_,yd o.tl,rfl,⟨o.hx,rfl,kT k2 ⟨rfl,rfl⟩,by simp[eg];lia,o.p0.up,o.p1.up,o.ct,o.rs,o.ft.up,hd,fun l e=>(by cases e),o.tl⟩⟩
 .have e0:(hb S (lvO lo) (aa (off lo) sh) (aq lo tl)).set 0 (.ins 3 [.g (.t S.x.rows),.g (.e S.x.onw),.g (.dct S.x.sk S.x.sv),.g (.e S.x.tw),.g (.dct S.x.kk S.x.kv),.g (.e S.x.inc),.ref 1,.ref 2,I S.dust,.g .non,.ref 3])=hb S (.g .non) (aa (off lo) sh) (aq lo tl):=rfl;have e1:(hb S (.g .non) (aa (off lo) sh) (aq lo tl)).set 0 (.ins 3 [.g (.t S.x.rows),.g (.e S.x.onw),.g (.dct S.x.sk S.x.sv),.g (.e S.x.tw),.g (.dct S.x.kk S.x.kv),.g (.e S.x.inc),.ref 1,.ref 2,I d,.g .non,.ref 3])=hb {S with dust:=d} (.g .non) (aa (off lo) sh) (aq lo tl):=rfl;unfold hc;simp! only[q52];simp! [h1,e0,e1,iC,O,W];rfl
 .simp[hc,hb,aq]
end
abbrev St:=HS×ζ LS×CH
def c(sh:Sh)(s:St):CH:=hc sh s.1 s.2.1 s.2.2
abbrev PS:=Nat×St
def G(x:Fx)(R:η Rw)(sh:Sh)(p:PS):Prop:=∃P b0 b1,Ok x R sh p.1 p.2.1 p.2.2.1 p.2.2.2 P b0 b1
section
variable{x:Fx}{R:η Rw}{sh:Sh}{p:PS}{ρ:Nat->Nat}{b:CH}
theorem G.tl(h:G x R sh p):TlOk p.2.2.2 sh:=let ⟨_,_,_,o⟩:=h;o.tl
theorem G.cl(h:G x R sh p):Cl (c sh p.2):=uB h.tl
theorem ma{s:St}:0<(c sh s).length:=by show 0<_+1;lia
theorem To.rn{N:Nat}{F:Fd}(O:TrD F)(Z:G x R sh p)(ha:ag.all (clV (c sh p.2).length)=θ)(t:To x R sh N F ag (c sh p.2)):∃s:St,G x R sh (N,s)/\Rn F ag (c sh p.2) .non (c sh s):=by obtain⟨S,lo,tl,P,b0,b1,cs',σ,h1,h2,U,h4,W⟩:=t;exact⟨(S,lo,tl),⟨P,b0,b1,W⟩,.of O Z.cl ha h1 h2 U h4 ma⟩
open Classical in
def nx(x:Fx)(R:η Rw)(sh:Sh)(p:PS):PS:=if h:p.2.1.res=.non/\∃s,G x R sh (p.1+1,s)/\Rn F50 [.ref 0] (c sh p.2) .non (c sh s)then(p.1+1,h.2.choose)else p
open Classical in
def fl(x:Fx)(R:η Rw)(sh:Sh)(d:Int)(p:PS):PS:=if h:p.2.1.res=.non/\∃s,G x R sh (p.1+1,s)/\Rn F52 [.ref 0,I d] (c sh p.2) .non (c sh s)then(p.1+1,h.2.choose)else p
def rs(p:PS):Bool:=match p.2.1.res with
 |.non=>ξ
 |_=>θ
theorem qL{s:St}:(CV.ref 0::l.map .g).all (clV (c sh s).length)=θ:=by have:=ma (sh:=sh) (s:=s);simp[clV];lia
theorem zH(X:XR x R sh)(W:G x R sh p)(U:p.1<400000):G x R sh (nx x R sh p)/\Rn F50 [.ref 0] (c sh p.2) .non (c sh (nx x R sh p).2)/\p.1<=(nx x R sh p).1/\(nx x R sh p).1<=p.1+1:=by
 obtain⟨P,b0,b1,o⟩:=W;unfold nx;rcases o.rs with O|⟨i,O⟩
 .have h:p.2.1.res=.non/\∃s,G x R sh (p.1+1,s)/\Rn F50 [.ref 0] (c sh p.2) .non (c sh s):=⟨O,(yf X U o O).rn (aB _) ⟨P,b0,b1,o⟩ (qL (l:=[]))⟩;rw[dif_pos h];exact⟨h.2.choose_spec.1,h.2.choose_spec.2,qi3 _,nL _⟩
 .rw[dif_neg fun h=>by rw[O]at h;cases h.1];exact⟨⟨P,b0,b1,o⟩,.here (aB _) (uB o.tl) (qL (l:=[])) (qJ O) (nL _) ma,nL _,qi3 _⟩
theorem zI{d:Int}(U:Vi (.int d))(Z:G x R sh p)(W:p.1<400000):G x R sh (fl x R sh d p)/\Rn F52 [.ref 0,I d] (c sh p.2) .non (c sh (fl x R sh d p).2)/\p.1<=(fl x R sh d p).1/\(fl x R sh d p).1<=p.1+1:=by
 obtain⟨P,b0,b1,o⟩:=Z;unfold fl;rcases o.rs with O|⟨i,O⟩
 .have h:p.2.1.res=.non/\∃s,G x R sh (p.1+1,s)/\Rn F52 [.ref 0,I d] (c sh p.2) .non (c sh s):=⟨O,(yg U W o O).rn (aB _) ⟨P,b0,b1,o⟩ (qL (l:=[.int d]))⟩;rw[dif_pos h];exact⟨h.2.choose_spec.1,h.2.choose_spec.2,qi3 _,nL _⟩
 .rw[dif_neg fun h=>by rw[O]at h;cases h.1];exact⟨⟨P,b0,b1,o⟩,.here (aB _) (uB o.tl) (qL (l:=[.int d])) (qK O) (nL _) ma,nL _,qi3 _⟩
theorem Fa(h:rs p=θ):nx x R sh p=p:=by unfold nx;rw[dif_neg];rintro⟨e,_⟩;unfold rs at h;rw[e]at h;cases h
theorem uG(U:G x R sh p):F25 [.ref 0] (c sh p.2)=ς (.g (.bl (rs p)),c sh p.2):=by
 obtain⟨P,b0,b1,o⟩:=U;unfold rs;rcases o.rs with O|⟨i,O⟩
 .rw[O];exact gJ O
 .rw[O];exact gK O
theorem dJ(h:At ρ (c sh p.2) b):∃l,b[ρ 0]?=ς (.ins 3 l):=⟨_,h.get (i:=0) rfl⟩
theorem jI(O:G x R sh p)(h:At ρ (c sh p.2) b):F25 [.ref (ρ 0)] b=ς (.g (.bl (rs p)),b):=h.pure (args:=[.ref 0]) (aB _) O.cl (qL (l:=[])) (uG O)
def wk(x:Fx)(R:η Rw)(sh:Sh):Nat->PS->Nat×PS
 |0,p=>(0,p)
 |n+1,p=>if rs p then(0,p)else((wk x R sh n (nx x R sh p)).1+1,(wk x R sh n (nx x R sh p)).2)
theorem nP(X:XR x R sh):∀{n f:Nat}{p:PS}{ρ:Nat->Nat}{b:CH}{k m:Int},G x R sh p->p.1+n<400000->At ρ (c sh p.2) b->n<f->m=k+n->∃ ρ' b',whZ (tAn (aL (e2 .v oLt.g (eV 2) (eV 1))) (tNt (cq (eMe 3 1 F25 (eV 0) aNl)))) (aj (sDr (eMe 3 1 F50 (eV 0) aNl)) (aj (sAu 2 iAdd.f (eK (.int 1))) ar)) f [ς (.ref (ρ 0)),ς (I m),ς (I k)] b=ς (.nx [ς (.ref (ρ 0)),ς (I m),ς (I (k+(wk x R sh n p).1))] b')/\Mv ρ (c sh p.2) b ρ' (c sh (wk x R sh n p).2.2) b'/\G x R sh (wk x R sh n p).2/\(wk x R sh n p).2.1<=p.1+n
 |0,f+1,p,ρ,b,k,m,W,hN,h,hf,O=>by
  have O:m=k:=by simpa using O
  subst O;refine⟨ρ,b,?_,.refl h,W,nL _⟩;simp[whZ,tAn,aL,e2,eV,lent,vw,oLt,qd,fin,T.d,bN,wk]
 |n+1,f+1,p,ρ,b,k,m,W,hN,h,hf,O=>by
  obtain⟨l,hl⟩:=dJ h;have hr:=jI W h;have U:k<m:=by lia
  cases q:rs p with
  |true=>
   rw[q]at hr;have hw:wk x R sh (n+1) p=(0,p):=by unfold wk;rw[q];rfl
   rw[hw];refine⟨ρ,b,?_,.refl h,W,Ξ⟩;simp only[whZ];simp! only[];simp! [U,hl,hr]
  |false=>
   rw[q]at hr
   have hw:wk x R sh (n+1) p=((wk x R sh n (nx x R sh p)).1+1,(wk x R sh n (nx x R sh p)).2):=by show(if rs p then _ else _)=_;rw[q];rfl
   obtain⟨g1,g2,g3,g4⟩:=zH X W Θ;obtain⟨ρ1,b1,k1,k2⟩:=g2.mv h;obtain⟨ρ2,b2,Z,j2,j3,j4⟩:=nP X (n:=n) (f:=f) (k:=k+1) (m:=m) g1 Θ k2.at_ Θ (by rw[O];push_cast;lia);rw[hw];refine⟨ρ2,b2,?_,k2.trans j2,j3,by show(wk x R sh n (nx x R sh p)).2.1<=_;lia⟩;have e:k+1+((wk x R sh n (nx x R sh p)).1:Int)=k+(((wk x R sh n (nx x R sh p)).1+1:Nat):Int):=by push_cast;lia
   rw[k2.zero,e]at Z;have k1':F50 [.ref (ρ 0)] b=ς (.g .non,b1):=k1;simp only[whZ];simp only[tAn,aL,e2,tNt,cq,eMe,eV,aNl,kCa,aj,sDr,sAu,eK,ar]at Z ⊢;simp[lent,vw,oLt,qd,fin,T.d,bN,bO,j9,CV.old,U,hl,hr,k1',iAdd]at Z ⊢;exact Z
 |_+1,0,_,_,_,_,_,_,_,_,hf,_=>by lia
 |0,0,_,_,_,_,_,_,_,_,hf,_=>by lia
theorem f9(X:XR x R sh){n:Nat}(W:G x R sh p)(O:p.1+n<400000)(U:n<1100):Rn F51 [.ref 0,I n] (c sh p.2) (.int (wk x R sh n p).1) (c sh (wk x R sh n p).2.2)/\G x R sh (wk x R sh n p).2/\(wk x R sh n p).2.1<=p.1+n:=by obtain⟨ρ0,b0,_,_,Z,h4⟩:=nP X (n:=n) (f:=1100) (k:=0) (m:=n) W O (ρ:=fun i=>i) .same U Θ;refine⟨fun ρ b h=>?_,Z,h4⟩;obtain⟨ρ',b',k1,k2,_,_⟩:=nP X (n:=n) (f:=1100) (k:=0) (m:=n) W O h U Θ;refine⟨ρ',b',?_,k2.at_,k2.zero,k2.fr,k2.sb⟩;rw[q51];refine aT (ae (δ':=[ς (.ref (ρ 0)),ς (I n),ς (I 0)]) rfl (ae k1 (bR (ck ?_ rfl))));simp[eV,lent]
end
abbrev Fl:=Nat×Int
def Fl.d(f:Fl):Dt:=.t [.int f.1,.int f.2]
def dv(x:Fx)(R:η Rw)(sh:Sh):Nat->η Fl->PS->Nat×PS
 |m,[],p=>wk x R sh m p
 |m,f::r,p=>if m<f.1 then wk x R sh m p else((wk x R sh f.1 p).1+(dv x R sh (m-f.1) r (fl x R sh f.2 (wk x R sh f.1 p).2)).1,(dv x R sh (m-f.1) r (fl x R sh f.2 (wk x R sh f.1 p).2)).2)
variable{most q:Nat}{b1:CH}{a7' a0 a3 a4:ζ CV}
section
variable{x:Fx}{R:η Rw}{sh:Sh}
def o9:Fs:=aj (sIf (aL (e2 .v oGt.g (e2 .v oAdd.g (eV 3) (eV 5)) (eV 2))) (aj (sRt (e2 .v oAdd.g (eV 4) (eCa 2 F51 (aCn (eV 0) (aCn (e2 .v oSub.g (eV 2) (eV 3)) aNl))))) ar) ar) (aj (sAu 4 iAdd.f (eCa 2 F51 (aCn (eV 0) (aCn (eV 5) aNl)))) (aj (sAu 3 iAdd.f (eV 5)) (aj (sDr (eMe 3 2 F52 (eV 0) (aCn (eV 6) aNl))) ar)))
def zJ:Fs:=aj (sRt (e2 .v oAdd.g (eV 4) (eCa 2 F51 (aCn (eV 0) (aCn (e2 .v oSub.g (eV 2) (eV 3)) aNl))))) ar
theorem uH(X:XR x R sh)(hm:most<1100)(fs:Dt):∀{r:η Fl}{m:Nat}{p:PS}{ρ:Nat->Nat}{b:CH}{k:Nat}{u v:ζ CV},(∀f∈r,Vi (.int f.2))->G x R sh p->p.1+m+r.length<400000->m<=most->At ρ (c sh p.2) b->∃ ρ' b',aj (fun δ ch=>bK (bnd (.many [5,6])) o9 (r.map Fl.d) δ ch) zJ [ς (.ref (ρ 0)),ς (.g fs),ς (I most),ς (I (most-m:Nat)),ς (I k),u,v] b=ς (.rt (I (k+(dv x R sh m r p).1:Nat)) b')/\Mv ρ (c sh p.2) b ρ' (c sh (dv x R sh m r p).2.2) b'/\G x R sh (dv x R sh m r p).2/\(dv x R sh m r p).2.1<=p.1+m+r.length
 |[],m,p,ρ,b,k,u,v,hd,hG,hN,hmm,h=>by
  obtain⟨g1,g2,g3⟩:=f9 X (n:=m) hG (by simp at hN;lia) Θ;obtain⟨ρ1,b1,k1,k2⟩:=g1.mv h;refine⟨ρ1,b1,?_,k2,g2,by show(wk x R sh m p).2.1<=_;simpa using g3⟩;have e:((most:Int)-((most-m:Nat):Int))=(m:Int):=by lia
  have O:F51 [.ref (ρ 0),.g (.int m)] b=ς (I (wk x R sh m p).1,b1):=k1;simp only[qe0,aj,bK,qa0,zJ];simp! only[];simp! [e,O,dv]
 |f::r,m,p,ρ,b,k,u,v,hd,hG,hN,hmm,h=>by
  obtain⟨n,d⟩:=f;simp only[qb8]at hN;obtain⟨l,hl⟩:=dJ h;by_cases hn:m<n
  .obtain⟨g1,g2,g3⟩:=f9 X (n:=m) hG Θ Θ;obtain⟨ρ1,b1,k1,k2⟩:=g1.mv h;have hw:dv x R sh m ((n,d)::r) p=wk x R sh m p:=if_pos hn;rw[hw];refine⟨ρ1,b1,?_,k2,g2,by simp;lia⟩;have e:((most:Int)-((most-m:Nat):Int))=(m:Int):=by lia
   have O:F51 [.ref (ρ 0),.g (.int m)] b=ς (I (wk x R sh m p).1,b1):=k1;have W:(most:Int)<((most-m:Nat):Int)+(n:Int):=by lia
   simp only[qa3,aj,bK,Fl.d,bnd,gu,o9];simp! only[];simp! [e,O,W]
  .obtain⟨g1,g2,g3⟩:=f9 X (n:=n) hG Θ Θ;obtain⟨ρ1,b1,k1,k2⟩:=g1.mv h;obtain⟨f1,f2,f3,f4⟩:=zI (d:=d) (hd _ (.head _)) g2 Θ;obtain⟨ρ2,b2,j1,j2⟩:=f2.mv k2.at_;have hw:dv x R sh m ((n,d)::r) p=((wk x R sh n p).1+(dv x R sh (m-n) r (fl x R sh d (wk x R sh n p).2)).1,(dv x R sh (m-n) r (fl x R sh d (wk x R sh n p).2)).2):=if_neg hn;obtain⟨ρ3,b3,i1,i2,i3,i4⟩:=uH X hm fs (r:=r) (m:=m-n) (p:=fl x R sh d (wk x R sh n p).2) (ρ:=ρ2) (b:=b2) (k:=k+(wk x R sh n p).1) (u:=ς (I n)) (v:=ς (I d)) (fun f hf=>hd f (.tail _ hf)) f1 Θ Θ j2.at_;rw[hw];refine⟨ρ3,b3,?_,k2.trans (j2.trans i2),i3,by show(dv x R sh (m-n) r (fl x R sh d (wk x R sh n p).2)).2.1<=_;simp only[qb8];lia⟩;have O:F51 [.ref (ρ 0),.g (.int n)] b=ς (I (wk x R sh n p).1,b1):=k1;have j1':F52 [.ref (ρ1 0),.g (.int d)] b1=ς (.g .non,b2):=j1;rw[k2.zero]at j1';rw[j2.zero,k2.zero]at i1;have W:¬ (most:Int)<((most-m:Nat):Int)+(n:Int):=by lia
   have e1:((most-m:Nat):Int)+(n:Int)=((most-(m-n):Nat):Int):=by lia
   obtain⟨l1,Z⟩:=dJ k2.at_;rw[k2.zero]at Z;have e3:k+(wk x R sh n p).1+(dv x R sh (m-n) r (fl x R sh d (wk x R sh n p).2)).1=k+((wk x R sh n p).1+(dv x R sh (m-n) r (fl x R sh d (wk x R sh n p).2)).1):=by lia
   rw[e3]at i1;rw[<- i1];simp only[qa3,aj,bK,Fl.d,bnd,gu]
   have U:o9 [ς (.ref (ρ 0)),ς (.g fs),ς (I most),ς (I (most-m:Nat)),ς (I k),ς (I n),ς (I d)] b=ς (.nx [ς (.ref (ρ 0)),ς (.g fs),ς (I most),ς (I (most-(m-n):Nat)),ς (I (k+(wk x R sh n p).1:Nat)),ς (I n),ς (I d)] b2):=by simp! only[o9];simp! [O,W,Z,j1',e1,show(most<most-(m-n))=False from eq_false Θ]
   simp only[List.set_cons_succ,qw4,qa0];have hb':=U;simp only[I]at hb';simp only[hb',qa0]
theorem uI(X:XR x R sh)(W:most<1100){r:η Fl}{p:PS}(O:∀f∈r,Vi (.int f.2))(hG:G x R sh p)(Z:p.1+most+r.length<400000):Rn F53 [.ref 0,.g (.e (r.map Fl.d)),I most] (c sh p.2) (.int (dv x R sh most r p).1) (c sh (dv x R sh most r p).2.2)/\G x R sh (dv x R sh most r p).2/\(dv x R sh most r p).2.1<=p.1+most+r.length:=by obtain⟨_,_,_,_,h3,h4⟩:=uH X W (.e (r.map Fl.d)) (r:=r) (m:=most) (k:=0) (u:=ψ) (v:=ψ) O hG Z (nL _) (ρ:=fun i=>i) .same;refine⟨fun ρ b h=>?_,h3,h4⟩;obtain⟨ρ',b',U,k2,_,_⟩:=uH X W (.e (r.map Fl.d)) (r:=r) (m:=most) (k:=0) (u:=ψ) (v:=ψ) O hG Z (nL _) h;refine⟨ρ',b',?_,k2.at_,k2.zero,k2.fr,k2.sb⟩;rw[q53];rw[zg0,qw3]at U;refine aT (ae (δ':=[ς (.ref (ρ 0)),ς (.g (.e (r.map Fl.d))),ς (I most),ς (I 0),ψ,ψ,ψ]) rfl (ae (δ':=[ς (.ref (ρ 0)),ς (.g (.e (r.map Fl.d))),ς (I most),ς (I 0),ς (I 0),ψ,ψ]) rfl ?_));exact U
def bh(x:Fx)(R:η Rw)(sh:Sh):Nat->PS->Nat×PS
 |0,p=>(0,p)
 |n+1,p=>((if rs p then 0 else 1)+(bh x R sh n (nx x R sh p)).1,(bh x R sh n (nx x R sh p)).2)
theorem md:∀{n:Nat}{p:PS},bh x R sh n p=wk x R sh n p
 |0,_=>rfl
 |n+1,p=>by
  unfold bh wk;cases q:rs p with
  |true=>
   rw[Fa q,md];cases n with
   |zero=>rfl
   |succ n=>unfold wk;rw[q];rfl
  |false=>rw[md];simp[zb7]
def iH:Fs:=aj (aO 3 (e2 .v oAdd.g (eV 3) (eB .v bInt.g (aCn (eNt (eMe 3 1 F25 (eV 0) aNl)) aNl)))) (aj (sDr (eMe 3 1 F50 (eV 0) aNl)) ar)
theorem pc(X:XR x R sh){a1 a2 a4 a5 a6:ζ CV}:∀{ds:η Dt}{p:PS}{ρ:Nat->Nat}{b:CH}{k:Nat}{a7:ζ CV},G x R sh p->p.1+ds.length<400000->At ρ (c sh p.2) b->∃ ρ' b' a7',bK (bnd (.one 7)) iH ds [ς (.ref (ρ 0)),a1,a2,ς (I k),a4,a5,a6,a7] b=ς (.nx [ς (.ref (ρ 0)),a1,a2,ς (I (k+(bh x R sh ds.length p).1:Nat)),a4,a5,a6,a7'] b')/\Mv ρ (c sh p.2) b ρ' (c sh (bh x R sh ds.length p).2.2) b'/\G x R sh (bh x R sh ds.length p).2/\(bh x R sh ds.length p).2.1<=p.1+ds.length
 |[],p,ρ,b,k,a7,O,hN,h=>⟨ρ,b,a7,rfl,.refl h,O,nL _⟩
 |d::ds,p,ρ,b,k,a7,O,hN,h=>by
  simp only[qb8]at hN;obtain⟨l,hl⟩:=dJ h;have hr:=jI O h;obtain⟨g1,g2,g3,g4⟩:=zH X O Θ;obtain⟨ρ1,b1,k1,k2⟩:=g2.mv h;obtain⟨ρ2,b2,a7',Z,j2,j3,j4⟩:=pc X (a1:=a1) (a2:=a2) (a4:=a4) (a5:=a5) (a6:=a6) (ds:=ds) (k:=k+(if rs p then 0 else 1)) (a7:=ς (.g d)) g1 Θ k2.at_;have hw:bh x R sh (d::ds).length p=((if rs p then 0 else 1)+(bh x R sh ds.length (nx x R sh p)).1,(bh x R sh ds.length (nx x R sh p)).2):=rfl;rw[hw];refine⟨ρ2,b2,a7',?_,k2.trans j2,j3,by show(bh x R sh ds.length (nx x R sh p)).2.1<=_;simp only[qb8];lia⟩;rw[k2.zero]at Z;have e:k+((if rs p then 0 else 1)+(bh x R sh ds.length (nx x R sh p)).1)=k+(if rs p then 0 else 1)+(bh x R sh ds.length (nx x R sh p)).1:=by lia
  rw[e,<- Z];have U:F50 [.ref (ρ 0)] b=ς (.g .non,b1):=k1
  have W:iH [ς (.ref (ρ 0)),a1,a2,ς (I k),a4,a5,a6,ς (.g d)] b=ς (.nx [ς (.ref (ρ 0)),a1,a2,ς (I (k+(if rs p then 0 else 1):Nat)),a4,a5,a6,ς (.g d)] b1):=by simp! only[iH,eNt];cases q:rs p<;>rw[q]at hr<;>simp! [hl,hr,U,bInt,wp]
  simp only[bK,bnd,List.set_cons_succ,qw4,qa0,W]
def mf:Fs:=aj (na (iR 1 (aCn (eB .v bMin.g (aCn (eV 5) (aCn (eV 4) aNl))) aNl)) (bnd (.one 7)) iH) (aj (sIf (aL (e2 .v oGt.g (eV 5) (eV 4))) (aj (sRt (eV 3)) ar) ar) (aj (aO 4 (e2 .v oSub.g (eV 4) (eV 5))) (aj (sDr (eMe 3 2 F52 (eV 0) (aCn (eV 6) aNl))) ar)))
def zK:Fs:=aj (na (iR 1 (aCn (eV 4) aNl)) (bnd (.one 7)) iH) (aj (sRt (eV 3)) ar)
theorem bE:(aD 0 n).length=n:=by simp[aD]
theorem aN(h:n<1100):eO (n:Int)=θ:=by unfold eO;simp;lia
section
variable{a1 a2 a5 a6 a7:ζ CV}{ρ:Nat->Nat}{b:CH}{k m n:Nat}{d:Int}
theorem rg_4(O:m<1100)(h:δ[4]?=ς (ς (I m))):iR 1 (aCn (eV 4) aNl) δ b=ς (aD 0 m,b):=dA (by simp[aCn,eV,aNl,h,lent]) (aN O)
theorem uJ(U:q<1100)(e:(if(m:Int)<(n:Int)then(m:Int)else(n:Int))=(q:Int))(h4:δ[4]?=ς (ς (I m)))(O:δ[5]?=ς (ς (I n))):iR 1 (aCn (eB .v bMin.g (aCn (eV 5) (aCn (eV 4) aNl))) aNl) δ b=ς (aD 0 q,b):=by
 have:eB .v bMin.g (aCn (eV 5) (aCn (eV 4) aNl)) δ b=ς (I q,b):=by simp only[eB,aCn,eV,aNl,h4,O,lent,kB,qa0,qb2,vws,vw];show((sZ [.int n,.int m]).bind _)=_;simp only[sZ,e];rfl
 refine dA ?_ (aN U);show(eB .v bMin.g (aCn (eV 5) (aCn (eV 4) aNl)) δ b).bind _=_;rw[this];rfl
theorem Fb(O:m<1100)(U:m<n)(h:bK (bnd (.one 7)) iH (aD 0 m) [ς (.ref (ρ 0)),a1,a2,ς (I k),ς (I m),ς (I n),ς (I d),a7] b=ς (.nx [ς (.ref (ρ 0)),a1,a2,ς (I q),ς (I m),ς (I n),ς (I d),a7'] b1)):mf [ς (.ref (ρ 0)),a1,a2,ς (I k),ς (I m),ς (I n),ς (I d),a7] b=ς (.rt (I q) b1):=by unfold mf;refine ae (bH (uJ O (by split<;>lia) rfl rfl) h) ?_;clear h;simp! only[];simp! [U]
theorem Fc{b2:CH}{Z:η CV}(hm:n<1100)(W:¬ m<n)(h:bK (bnd (.one 7)) iH (aD 0 n) [ς (.ref (ρ 0)),a1,a2,ς (I k),ς (I m),ς (I n),ς (I d),a7] b=ς (.nx [ς (.ref (ρ 0)),a1,a2,ς (I q),ς (I m),ς (I n),ς (I d),a7'] b1))(hl:b1[ρ 0]?=ς (.ins 3 Z))(O:F52 [.ref (ρ 0),.g (.int d)] b1=ς (.g .non,b2)):mf [ς (.ref (ρ 0)),a1,a2,ς (I k),ς (I m),ς (I n),ς (I d),a7] b=ς (.nx [ς (.ref (ρ 0)),a1,a2,ς (I q),ς (I (m-n:Nat)),ς (I n),ς (I d),a7'] b2):=by
 have U:(m:Int)-(n:Int)=((m-n:Nat):Int):=by lia
 unfold mf;refine ae (bH (uJ hm (by split<;>lia) rfl rfl) h) ?_;clear h;simp! only[];simp! [W,U,hl,O]
theorem uK{f:Fl}:bnd (.many [5,6]) f.d [a0,a1,a2,a3,a4,a5,a6,a7]=ς [a0,a1,a2,a3,a4,ς (I f.1),ς (I f.2),a7]:=rfl
end
theorem CT(X:XR x R sh){a1 a2:ζ CV}(r:η Fl):∀{m:Nat}{p:PS}{ρ:Nat->Nat}{b:CH}{k:Nat}{a5 a6 a7:ζ CV},m<1100->(∀f∈r,Vi (.int f.2))->G x R sh p->p.1+m+r.length<400000->At ρ (c sh p.2) b->∃ ρ' b',aj (fun δ ch=>bK (bnd (.many [5,6])) mf (r.map Fl.d) δ ch) zK [ς (.ref (ρ 0)),a1,a2,ς (I k),ς (I m),a5,a6,a7] b=ς (.rt (I (k+(dv x R sh m r p).1:Nat)) b')/\Mv ρ (c sh p.2) b ρ' (c sh (dv x R sh m r p).2.2) b':=by
 induction r with
 |nil=>intro m p ρ b k a5 a6 a7 hm hd hG hN h;obtain⟨ρ1,b1,a7',O,k2,g2,g3⟩:=pc X (a1:=a1) (a2:=a2) (a4:=ς (I m)) (a5:=a5) (a6:=a6) (ds:=aD 0 m) (k:=k) (a7:=a7) hG (by rw[bE];simp at hN;lia) h;rw[bE,md]at O k2;refine⟨ρ1,b1,?_,k2⟩;refine ae (δ':=[ς (.ref (ρ 0)),a1,a2,ς (I k),ς (I m),a5,a6,a7]) (ch1:=b) (qe0 (f:=Fl.d)▸rfl) ?_;unfold zK;exact ae (bH (rg_4 hm rfl) O) (bR (ck rfl rfl))
 |cons f r ih=>
  intro m p ρ b k a5 a6 a7 hm hd hG hN h;obtain⟨n,d⟩:=f;simp only[qb8]at hN;by_cases Z:m<n
  .have hw:dv x R sh m ((n,d)::r) p=wk x R sh m p:=if_pos Z;obtain⟨ρ1,b1,a7',O,k2,g2,g3⟩:=pc X (a1:=a1) (a2:=a2) (a4:=ς (I m)) (a5:=ς (I n)) (a6:=ς (I d)) (ds:=aD 0 m) (k:=k) (a7:=a7) hG (by rw[bE];lia) h;rw[bE,md]at O k2;rw[hw];exact⟨ρ1,b1,bR (Ck uK (Fb hm Z O)),k2⟩
  .obtain⟨ρ1,b1,a7',O,k2,g2,g3⟩:=pc X (a1:=a1) (a2:=a2) (a4:=ς (I m)) (a5:=ς (I n)) (a6:=ς (I d)) (ds:=aD 0 n) (k:=k) (a7:=a7) hG (by rw[bE];lia) h;rw[bE,md]at O k2 g2 g3;obtain⟨f1,f2,f3,f4⟩:=zI (d:=d) (hd _ (.head _)) g2 Θ;obtain⟨ρ2,b2,j1,j2⟩:=f2.mv k2.at_;have hw:dv x R sh m ((n,d)::r) p=((wk x R sh n p).1+(dv x R sh (m-n) r (fl x R sh d (wk x R sh n p).2)).1,(dv x R sh (m-n) r (fl x R sh d (wk x R sh n p).2)).2):=if_neg Z;obtain⟨ρ3,b3,i1,i2⟩:=ih (m:=m-n) (p:=fl x R sh d (wk x R sh n p).2) (ρ:=ρ2) (b:=b2) (k:=k+(wk x R sh n p).1) (a5:=ς (I n)) (a6:=ς (I d)) (a7:=a7') Θ (fun f hf=>hd f (.tail _ hf)) f1 Θ j2.at_;rw[hw];refine⟨ρ3,b3,?_,k2.trans (j2.trans i2)⟩;have U:F52 [.ref (ρ1 0),.g (.int d)] b1=ς (.g .non,b2):=j1;rw[k2.zero]at U;rw[j2.zero,k2.zero]at i1;obtain⟨l1,W⟩:=dJ k2.at_;rw[k2.zero]at W;have e3:k+(wk x R sh n p).1+(dv x R sh (m-n) r (fl x R sh d (wk x R sh n p).2)).1=k+((wk x R sh n p).1+(dv x R sh (m-n) r (fl x R sh d (wk x R sh n p).2)).1):=by lia
   rw[e3]at i1;rw[<- i1];unfold aj;dsimp only;rw[qa3,cT uK (Fc Θ Z O W U)]
theorem yh(X:XR x R sh)(hm:most<1100){r:η Fl}{p:PS}(U:∀f∈r,Vi (.int f.2))(Z:G x R sh p)(W:p.1+most+r.length<400000):Rn F55 [.ref 0,.g (.e (r.map Fl.d)),I most] (c sh p.2) (.int (dv x R sh most r p).1) (c sh (dv x R sh most r p).2.2):=fun ρ b h=>by obtain⟨ρ',b',O,k2⟩:=CT X (a1:=ς (.g (.e (r.map Fl.d)))) (a2:=ς (I most)) r (m:=most) (k:=0) (a5:=ψ) (a6:=ψ) (a7:=ψ) hm U Z W h;refine⟨ρ',b',?_,k2.at_,k2.zero,k2.fr,k2.sb⟩;rw[q55];rw[qw3]at O;exact aT (ae (δ':=[ς (.ref (ρ 0)),ς (.g (.e (r.map Fl.d))),ς (I most),ς (I 0),ψ,ψ,ψ,ψ]) rfl (ae (δ':=[ς (.ref (ρ 0)),ς (.g (.e (r.map Fl.d))),ς (I most),ς (I 0),ς (I most),ψ,ψ,ψ]) rfl O))
end
def aC:Nat->Dt->Bool
 |_,.non|_,.bl _|_,.int _|_,.str _=>θ
 |k+1,.t l=>l.all (aC k)
 |k+1,.e l=>l.all (aC k)
 |_,_=>ξ
theorem nQ:∀{k:Nat}{d:Dt},aC k d=θ->bW d d=θ/\dh d<=k:=by
 have e:∀{k:Nat}{l:η Dt},(∀d∈l,bW d d=θ/\dh d<=k)->cmpbs l l=θ/\deeps l<=k:=fun {k l}=>by
  induction l with
  |nil=>intro _;exact⟨rfl,qg9 _⟩
  |cons d l O=>
   intro h;have h1:=O fun e W=>h e (.tail _ W)
   have h2:=h d (.head _);exact⟨by simp[cmpbs,h1.1,h2.1],by simp[deeps];lia⟩
 intro k;induction k with
 |zero=>intro d h;cases d<;>first|(cases h;done)|exact⟨rfl,qg9 _⟩
 |succ k O=>
  intro d h;cases d<;>first|(cases h;done)|skip
  case t l=>have:=e fun d U=>O (qc0.mp h d U);exact⟨this.1,by simp[dh];lia⟩
  case e l=>have:=e fun d U=>O (qc0.mp h d U);exact⟨this.1,by simp[dh];lia⟩
  all_goals exact⟨rfl,qg9 _⟩
theorem jJ:peqs l l=θ:=by have:=dg (.e l);simpa[peq] using this
theorem pd{d:Dt}(h:aC 20 d=θ):eqD d d=ς θ:=by
 have:=nQ h;cases d<;>first|(cases h;done)|rfl|skip
 all_goals first
  |(simp[eqD];done)
  |skip
 case t l=>
  have h1:cmpbs l l=θ:=this.1;have h2:deeps l<=59:=by have:deeps l+1<=20:=this.2;lia
  simp[eqD,h1,h2,jJ]
 case e l=>
  have h1:cmpbs l l=θ:=this.1;have h2:deeps l<=59:=by have:deeps l+1<=20:=this.2;lia
  simp[eqD,h1,h2,jJ]
theorem uL{d:Dt}(h:aC 20 d=θ):oNe.g d d=ς (.f (.bl ξ)):=by show gEq θ d d=_;unfold gEq;rw[pd h];rfl
theorem mh{d:Dt}(h:aC 20 d=θ):oEq.g d d=ς (.f (.bl θ)):=by show gEq ξ d d=_;unfold gEq;rw[pd h];rfl
theorem pe:∀{l m:η Nat},l.Nodup->(∀i∈l,i∈m)->l.length<=m.length
 |[],_,_,_=>qg9 _
 |i::l,m,W,h=>by
  have O:=qd6.mp W;have hi:=h i (.head _);have:=pe (m:=m.erase i) O.2 fun j U=>(List.mem_erase_of_ne (fun e=>O.1 (by rw[<- e];exact U))).mpr (h j (.tail _ U))
  rw[List.length_erase_of_mem hi]at this;have:0<m.length:=List.length_pos_of_mem hi;simp;lia
section
variable{x:Fx}{R:η Rw}{sh:Sh}{N:Nat}{S:HS}{lo:ζ LS}{tl:CH}{P:η Sm}{b0 b1:η Bx}
theorem yi(o:Ok x R sh N S lo tl P b0 b1){w:Int}(Z:w=0∨w=1):∃d,aC 20 d=θ/\F19 [.ref 0,I w] (hc sh S lo tl)=ς (.g d,hc sh S lo tl):=by
 have bx:∀bs:η Bx,aC 10 (.e (bs.map Bx.d))=θ:=fun bs=>qc0.mpr fun d U=>by obtain⟨b,_,rfl⟩:=qc8.mp U;rfl
 have tn:∀ts:η Tn,aC 10 (.e (ts.map Tn.d))=θ:=fun bs=>qc0.mpr fun d U=>by obtain⟨b,_,rfl⟩:=qc8.mp U;rfl
 have up:∀l,aC 10 (.e l)=θ->aC 19 (.e l)=θ:=fun l=>by
  have mono:∀{k:Nat}{d:Dt},aC k d=θ->aC (k+1) d=θ:=fun {k}=>by
   induction k with
   |zero=>intro d h;cases d<;>first|(cases h;done)|rfl
   |succ k W=>intro d h;cases d<;>first|(cases h;done)|rfl|exact qc0.mpr fun e he=>W (qc0.mp h e he)
  exact fun h=>mono (mono (mono (mono (mono (mono (mono (mono (mono h))))))))
 rcases Z with rfl|rfl
 .obtain⟨i,b,c,d,e,_⟩:=o.p0.hd;obtain⟨ts,O,_⟩:=o.p0.pt;have:=uk (S:=S) (lv:=lvO lo) (rf:=aa (off lo) sh) (tl:=aq lo tl) o.p0.len;refine⟨.t (S.h0++[.e S.pb0,.e S.pt0]),?_,?_⟩
  rotate_left
  .unfold hc;simp! only[q19];simp! [this]
  .rw[e,o.p0.pb,O];simp only[aC,ql1,qh7,qc7,qo6,qj7,qj6];rw[qa1];exact⟨up _ (bx _),up _ (tn _)⟩
 .obtain⟨i,b,c,d,e,_⟩:=o.p1.hd;obtain⟨ts,O,_⟩:=o.p1.pt;have:=ul (S:=S) (lv:=lvO lo) (rf:=aa (off lo) sh) (tl:=aq lo tl) o.p1.len;refine⟨.t (S.h1++[.e S.pb1,.e S.pt1]),?_,?_⟩
  rotate_left
  .unfold hc;simp! only[q19];simp! [this]
  .rw[e,o.p1.pb,O];simp only[aC,ql1,qh7,qc7,qo6,qj7,qj6];rw[qa1];exact⟨up _ (bx _),up _ (tn _)⟩
theorem yj:F21 [.ref 0] (hc sh S lo tl)=ς (I S.cnt,hc sh S lo tl):=rfl
theorem qM:F24 [.ref 0] (hc sh S lo tl)=ς (.g S.res,hc sh S lo tl):=rfl
theorem yk:F65 [.ref 0] (hc sh S lo tl)=ς (.g (.bl S.unl),hc sh S lo tl):=rfl
theorem yl(Z:(sh.map (·.1)).Nodup)(o:Ok x R sh N S lo tl P b0 b1){n:Str}(hp:Vp sh n 0):∃d,aC 20 d=θ/\F59 [.ref 0,.g (.str n)] (hc sh S lo tl)=ς (.g d,hc sh S lo tl):=by
 obtain⟨k,m,h1,h2⟩:=hp;obtain⟨L,O,h4,U⟩:=o.tl.at_ h1;have W:lkC (aa (off lo) sh) (.inr n)=ς (.ref (k+(off lo-13)+13)):=by rw[dH Z h1];have:=f7 (lo:=lo);congr 2;lia
 have h7:(aq lo tl)[k+(off lo-13)]?=ς (dl L):=by rw[kR];exact O
 obtain⟨d,L',rfl⟩:∃d L',L=d::L':=by cases L with|nil=>simp at h4;lia|cons d L'=>exact⟨d,L',rfl⟩
 obtain⟨i,rfl,_⟩:=U d (.head _)
 have h8:F58 [.ref 1,.g (.str n)] (hb S (lvO lo) (aa (off lo) sh) (aq lo tl))=ς (I i,hb S (lvO lo) (aa (off lo) sh) (aq lo tl)):=by simp! only[q58];simp! [W,uj,h7]
 refine⟨.int i,rfl,?_⟩;unfold hc;simp! only[q59];simp! [h8]
theorem uM(hn:(sh.map (·.1)).Nodup)(o:Ok x R sh N S lo tl P b0 b1){n:Str}(hp:Vp sh n 0):∃d,aC 20 d=θ/\F61 [.ref 0,.g (.str n)] (hc sh S lo tl)=ς (.g d,hc sh S lo tl):=by
 obtain⟨k,m,h1,h2⟩:=hp;obtain⟨L,O,h4,W⟩:=o.tl.at_ h1;have Z:lkC (aa (off lo) sh) (.inr n)=ς (.ref (k+(off lo-13)+13)):=by rw[dH hn h1];have:=f7 (lo:=lo);congr 2;lia
 have h7:(aq lo tl)[k+(off lo-13)]?=ς (dl L):=by rw[kR];exact O
 have h8:F60 [.ref 1,.g (.str n)] (hb S (lvO lo) (aa (off lo) sh) (aq lo tl))=ς (.g (.e L),hb S (lvO lo) (aa (off lo) sh) (aq lo tl)):=by simp! only[q60];simp! [Z,uj,h7]
 refine⟨.e L,qc0.mpr fun d U=>(by obtain⟨i,rfl,_⟩:=W d U;rfl),?_⟩;unfold hc;simp! only[q61];simp! [h8]
theorem gb(o:Ok x R sh N S lo tl P b0 b1):F62 [.ref 0] (hc sh S lo tl)=ς (.g .non,hc sh S lo tl)∨∃l,lo=ς l/\F62 [.ref 0] (hc sh S lo tl)=ς (I l.pl,hc sh S lo tl):=by
 rcases o.rs with U|⟨i,U⟩
 .have h1:=gJ (S:=S) (lv:=lvO lo) (rf:=aa (off lo) sh) (tl:=aq lo tl) U;cases P with
  |nil=>have hi:lo.isSome=θ:=o.ok;obtain⟨l,rfl⟩:=qd5.mp hi;have hp:S.plan=[]:=o.pl;refine .inr ⟨l,rfl,?_⟩;show F62 [.ref 0] (hl S l (aa 16 sh) tl)=ς (I l.pl,hl S l (aa 16 sh) tl);have O:F25 [.ref 0] (hl S l (aa 16 sh) tl)=ς (.g (.bl ξ),hl S l (aa 16 sh) tl):=h1;simp! only[q62];simp! [O,hp,ax]
  |cons s P=>obtain⟨d,L,hp⟩:∃d L,S.plan=d::L:=⟨_,_,o.pl⟩;left;unfold hc;simp! only[q62];simp! [h1,hp,show(0:Int)<(L.length:Int)+1 by lia]
 .have h1:=gK (S:=S) (lv:=lvO lo) (rf:=aa (off lo) sh) (tl:=aq lo tl) U;left;unfold hc;simp! only[q62];simp! [h1]
theorem uN(o:Ok x R sh N S lo tl P b0 b1):∃d,aC 20 d=θ/\F63 [.ref 0] (hc sh S lo tl)=ς (.g d,hc sh S lo tl):=by
 rcases gb o with h|⟨l,rfl,h⟩
 .have O:=kM (S:=S) (lv:=lvO lo) (rf:=aa (off lo) sh) (tl:=aq lo tl) o.p0.len o.p1.len o.ct
  have:∃(i:Int)(a:Dt)(L:η Dt),pgD S=a::.int i::L:=by
   unfold pgD;split
   .obtain⟨i,b,c,d,e,_⟩:=o.p0.hd;exact⟨b,_,_,by rw[e];rfl⟩
   .obtain⟨i,b,c,d,e,_⟩:=o.p1.hd;exact⟨b,_,_,by rw[e];rfl⟩
  obtain⟨i,a,L,e⟩:=this;rw[e]at O;refine⟨.int i,rfl,?_⟩;unfold hc at h ⊢;simp! only[q63];simp! [h,cw,iC,O,show(1:Int)<(L.length:Int)+1+1 by lia]
 .refine⟨.int l.dn,rfl,?_⟩;have h':F62 [.ref 0] (hl S l (aa 16 sh) tl)=ς (I l.pl,hl S l (aa 16 sh) tl):=h;show F63 [.ref 0] (hl S l (aa 16 sh) tl)=ς (I l.dn,hl S l (aa 16 sh) tl);simp! only[q63];simp! [h',cw,ax]
theorem CU(o:Ok x R sh N S lo tl P b0 b1)(n:Str):∃i:Int,F66 [.ref 0,.g (.str n)] (hc sh S lo tl)=ς (I i,hc sh S lo tl):=by
 rcases gb o with h|⟨l,rfl,h⟩
 .refine⟨0,?_⟩;unfold hc at h ⊢;simp! only[q66];simp! [h,cw]
 .obtain⟨O,_⟩:=o.lo l rfl;obtain⟨v,_,h1⟩:=cb (S:=S) (rf:=aa 16 sh) (tl:=tl) O.du O.bx (.inr n) (.inr ⟨n,rfl⟩);simp only[ak]at h1;refine⟨v,?_⟩;have h':F62 [.ref 0] (hl S l (aa 16 sh) tl)=ς (I l.pl,hl S l (aa 16 sh) tl):=h;show F66 [.ref 0,.g (.str n)] (hl S l (aa 16 sh) tl)=ς (I v,hl S l (aa 16 sh) tl);simp! only[q66];simp! [h',cw,ax,h1]
theorem ym(hf:FOk N S.fst)(h2:ch[2]?=ς (.ins 0 [.ref 8,.g (.bl S.unl)]))(h8:ch[8]?=ς (.dK (dp S.fst))):∀{f:Nat}{l:η Dt},(∀d∈l,Vi d)->(∀i,i<l.length->(ay (S.fst.map (·.1)) (S.fst.map (·.2)) (qp0 (i:Int))).isSome=θ)->S.fst.length<l.length+f->S.fst.length<qa9->∃l',(∀d∈l',Vi d)/\whZ (aL (e2 .v oIn.g (eB .v bLen.g (aCn (eV 1) aNl)) (eAt 0 0 (eV 0)))) (aj (sAs 1 (eIx (eAt 0 0 (eV 0)) (eB .v bLen.g (aCn (eV 1) aNl)))) ar) f [ς (.ref 2),ς (.own θ (.e l))] ch=ς (.nx [ς (.ref 2),ς (.own θ (.e l'))] ch):=by
 have O:∀l:η Dt,(∀i,i<l.length->(ay (S.fst.map (·.1)) (S.fst.map (·.2)) (qp0 (i:Int))).isSome=θ)->l.length<=S.fst.length:=fun l h=>by
  have:=pe (l:=qd7 l.length) (m:=S.fst.map fun p=>match p.1 with|.inl i=>i.toNat|.inr _=>0) qn4 fun i hi=>by obtain⟨d,hd⟩:=qd5.mp (h i (qe9.mp hi));exact qc8.mpr ⟨_,bo hd,Ξ⟩
  simpa using this
 intro f;induction f with
 |zero=>intro l _ h hl;have:=O l h;lia
 |succ f ih=>
  intro l hv h hl hz;cases q:ay (S.fst.map (·.1)) (S.fst.map (·.2)) (qp0 (l.length:Int))with
  |none=>
   refine⟨l,hv,?_⟩
   have U:aL (e2 .v oIn.g (eB .v bLen.g (aCn (eV 1) aNl)) (eAt 0 0 (eV 0))) [ς (.ref 2),ς (.own θ (.e l))] ch=ς (ξ,ch):=by simp! only[];simp! [h2,h8,oIn,gIn,inD,eU,bG,bP,q]
   unfold whZ;rw[U,qa0];rfl
  |some d=>
   have hd:=(hf.all _ (bo q)).2
   have U:aL (e2 .v oIn.g (eB .v bLen.g (aCn (eV 1) aNl)) (eAt 0 0 (eV 0))) [ς (.ref 2),ς (.own θ (.e l))] ch=ς (θ,ch):=by simp! only[];simp! [h2,h8,oIn,gIn,inD,eU,bG,bP,q]
   have hll:l.length<qa9:=qe4 (O l h) hz
   have hb':aj (sAs 1 (eIx (eAt 0 0 (eV 0)) (eB .v bLen.g (aCn (eV 1) aNl)))) ar [ς (.ref 2),ς (.own θ (.e l))] ch=ς (.nx [ς (.ref 2),ς (.own θ (.e (l++[d])))] ch):=by rw[qa7]at hll;simp! only[sAs];simp! [h2,h8,fj,q,b7,lG,hll]
   have hl1:(l++[d]).length=l.length+1:=by simp
   obtain⟨l',h3,h4⟩:=ih (l:=l++[d]) (fun e W=>by rcases qf5.mp W with W|W;exact hv e W;simp at W;subst W;exact hd) (fun i hi=>by
    rw[hl1]at hi;rcases qj9 i l.length with Z|Z
    .exact h i Z
    .obtain rfl:i=l.length:=by lia
     rw[q];rfl) (by rw[hl1];lia) hz
   refine⟨l',h3,?_⟩;unfold whZ;rw[U,qa0];show((aj _ ar _ ch).bind _)=_;rw[hb',qa0];exact h4
theorem nR(o:Ok x R sh N S lo tl P b0 b1)(W:N<1100):∃d,aC 20 d=θ/\F57 [.ref 0] (hc sh S lo tl)=ς (.g d,hc sh S lo tl):=by
 obtain⟨l,h1,h2⟩:=ym (S:=S) (ch:=hb S (lvO lo) (aa (off lo) sh) (aq lo tl)) o.ft uh ui (f:=1100) (l:=[]) Ξ Ξ (by have:=o.ft.len;simp;lia) (by have:=o.ft.len;rw[qa7];lia)
 have O:F56 [.ref 2] (hb S (lvO lo) (aa (off lo) sh) (aq lo tl))=ς (.g (.e l),hb S (lvO lo) (aa (off lo) sh) (aq lo tl)):=by rw[q56];refine aT (ae (δ':=[ς (.ref 2),ς (.own θ (.e []))]) rfl (ae h2 ?_));rfl
 refine⟨.e l,qc0.mpr fun d U=>(by obtain⟨i,rfl,_⟩:=h1 d U;rfl),?_⟩;unfold hc;simp! only[q57];simp! [O]
end
abbrev Hd:=Str×Int×Bool
def Hd.d(h:Hd):Dt:=.t [.str h.1,.int h.2.1,.bl h.2.2]
variable{f:FM Bool}{cs ss:η Hd}
section
variable{x:Fx}{R:η Rw}{sh:Sh}{p:PS}{b:CH}
theorem uO{F:Fd}{fs:FM (η CV)}{as:η Dt}{d:Dt}(O:TrD F)(Z:G x R sh p)(h:At ρ (c sh p.2) b)(hδ:δ[i]?=ς (ς (.ref (ρ 0))))(hs:fs δ b=ς (as.map .g,b))(U:n=as.length+1)(W:F (.ref 0::as.map .g) (c sh p.2)=ς (.g d,c sh p.2)):eMe 3 n F (eV i) fs δ b=ς (.g d,b):=by
 obtain⟨l,hl⟩:=dJ h;have:=h.pure O Z.cl (qL (l:=as)) W;have e:rnA ρ (.ref 0::as.map .g)=.ref (ρ 0)::as.map .g:=by simp[rn,qb4]
 rw[e]at this;unfold eMe eV kCa;rw[hδ];simp only[lent,qa0,hl,if_true,hs];rw[if_pos ⟨by simp[U],by simp[CV.old]⟩];exact this
theorem yn{fa fb:Fg}{d:Dt}(O:fa δ b=ς (.g d,b))(hb:fb δ b=ς (.g d,b))(hp:aC 20 d=θ):aL (e2 .v oNe.g fa fb) δ b=ς (ξ,b):=by unfold aL;rw[cH O hb rfl rfl (uL hp)];rfl
theorem ph{g:FM Bool}(h1:f δ b=ς (ξ,b))(h2:g δ b=ς (ξ,b)):iT f g δ b=ς (ξ,b):=by unfold iT;rw[h1,qa0];exact h2
theorem mi{g:Fs}(h1:f δ b=ς (ξ,b)):sIf f g ar δ b=ς (.nx δ b):=by unfold sIf;rw[h1,qa0];rfl
theorem yo{ρ1 ρ2:Nat->Nat}{rw:Dt}{ns:η Str}(X:XR x R sh)(hG:G x R sh p)(hN:p.1<1100)(h1:At ρ1 (c sh p.2) b)(h2:At ρ2 (c sh p.2) b)(hc1:∀h∈cs,Vp sh h.1 0)(hs1:∀h∈ss,Vp sh h.1 0)(hl:ns.length<1000):F67 [.ref (ρ1 0),.ref (ρ2 0),.g (.t [.t (cs.map Hd.d),.t (ss.map Hd.d),rw]),.g (.e (ns.map .str))] b=ς (.g (.bl θ),b):=by
 obtain⟨P,b0,b1,o⟩:=id hG;have one:∀{F:Fd}{n:Nat}{fs:FM (η CV)}{as:η Dt}{d:Dt}{δ:Sl},TrD F->fs δ b=ς (as.map .g,b)->n=as.length+1->F (.ref 0::as.map .g) (c sh p.2)=ς (.g d,c sh p.2)->aC 20 d=θ->δ[0]?=ς (ς (.ref (ρ1 0)))->δ[1]?=ς (ς (.ref (ρ2 0)))->aL (e2 .v oNe.g (eMe 3 n F (eV 0) fs) (eMe 3 n F (eV 1) fs)) δ b=ς (ξ,b):=fun hF hs hn hr hp e0 e1=>yn (uO hF hG h1 e0 hs hn hr) (uO hF hG h2 e1 hs hn hr) hp
 have hcl:∀{as:η Dt},True:=trivial;rw[q67]
 -- the pages
 have l1:∀{ws:η Int}{a4 a5 a6 a7 a8:ζ CV},(∀w∈ws,w=0∨w=1)->∃U,bK (bnd (.one 4)) (aj (sIf (aL (e2 .v oNe.g (eMe 3 2 F19 (eV 0) (aCn (eV 4) aNl)) (eMe 3 2 F19 (eV 1) (aCn (eV 4) aNl)))) (aj (sRt (eK (.bl ξ))) ar) ar) ar) (ws.map .int) [ς (.ref (ρ1 0)),ς (.ref (ρ2 0)),ς (.g (.t [.t (cs.map Hd.d),.t (ss.map Hd.d),rw])),ς (.g (.e (ns.map .str))),a4,a5,a6,a7,a8] b=ς (.nx [ς (.ref (ρ1 0)),ς (.ref (ρ2 0)),ς (.g (.t [.t (cs.map Hd.d),.t (ss.map Hd.d),rw])),ς (.g (.e (ns.map .str))),U,a5,a6,a7,a8] b):=fun {ws}=>by
  induction ws with
  |nil=>intro a4 a5 a6 a7 a8 _;exact⟨a4,rfl⟩
  |cons w ws Z=>
   intro a4 a5 a6 a7 a8 hw;obtain⟨d,hp,hr⟩:=yi o (hw w (.head _));obtain⟨U,h⟩:=Z (a4:=ς (I w)) (a5:=a5) (a6:=a6) (a7:=a7) (a8:=a8) fun v hv=>hw v (.tail _ hv)
   refine⟨U,?_⟩;exact qz1 (cT (δ':=[ς (.ref (ρ1 0)),ς (.ref (ρ2 0)),ς (.g (.t [.t (cs.map Hd.d),.t (ss.map Hd.d),rw])),ς (.g (.e (ns.map .str))),ς (I w),a5,a6,a7,a8]) rfl (ae (mi (one (F:=F19) (as:=[.int w]) (aB _) rfl rfl hr hp rfl rfl)) rfl)) h
 have l2:∀{hs:η Hd}{a4 a5 a6 a7 a8:ζ CV},(∀h∈hs,Vp sh h.1 0)->∃O W a7',bK (bnd (.many [5,6,7])) (aj (sIf (aL (e2 .v oNe.g (eMe 3 2 F59 (eV 0) (aCn (eV 5) aNl)) (eMe 3 2 F59 (eV 1) (aCn (eV 5) aNl)))) (aj (sRt (eK (.bl ξ))) ar) ar) ar) (hs.map Hd.d) [ς (.ref (ρ1 0)),ς (.ref (ρ2 0)),ς (.g (.t [.t (cs.map Hd.d),.t (ss.map Hd.d),rw])),ς (.g (.e (ns.map .str))),a4,a5,a6,a7,a8] b=ς (.nx [ς (.ref (ρ1 0)),ς (.ref (ρ2 0)),ς (.g (.t [.t (cs.map Hd.d),.t (ss.map Hd.d),rw])),ς (.g (.e (ns.map .str))),a4,O,W,a7',a8] b):=fun {hs}=>by
  induction hs with
  |nil=>intro a4 a5 a6 a7 a8 _;exact⟨a5,a6,a7,rfl⟩
  |cons h hs Z=>
   intro a4 a5 a6 a7 a8 hw;obtain⟨d,hp,hr⟩:=yl X.X.nd o (hw h (.head _));obtain⟨O,W,a7',hh⟩:=Z (a4:=a4) (a5:=ς (.g (.str h.1))) (a6:=ς (I h.2.1)) (a7:=ς (.g (.bl h.2.2))) (a8:=a8) fun v hv=>hw v (.tail _ hv)
   refine⟨O,W,a7',?_⟩;exact qz1 (cT (δ':=[ς (.ref (ρ1 0)),ς (.ref (ρ2 0)),ς (.g (.t [.t (cs.map Hd.d),.t (ss.map Hd.d),rw])),ς (.g (.e (ns.map .str))),a4,ς (.g (.str h.1)),ς (I h.2.1),ς (.g (.bl h.2.2)),a8]) rfl (ae (mi (one (F:=F59) (as:=[.str h.1]) (aB _) rfl rfl hr hp rfl rfl)) rfl)) hh
 have l3:∀{hs:η Hd}{a4 a5 a6 a7 a8:ζ CV},(∀h∈hs,Vp sh h.1 0)->∃O a7' a8',bK (bnd (.many [5,8,7])) (aj (sIf (aL (e2 .v oNe.g (eMe 3 2 F61 (eV 0) (aCn (eV 5) aNl)) (eMe 3 2 F61 (eV 1) (aCn (eV 5) aNl)))) (aj (sRt (eK (.bl ξ))) ar) ar) ar) (hs.map Hd.d) [ς (.ref (ρ1 0)),ς (.ref (ρ2 0)),ς (.g (.t [.t (cs.map Hd.d),.t (ss.map Hd.d),rw])),ς (.g (.e (ns.map .str))),a4,a5,a6,a7,a8] b=ς (.nx [ς (.ref (ρ1 0)),ς (.ref (ρ2 0)),ς (.g (.t [.t (cs.map Hd.d),.t (ss.map Hd.d),rw])),ς (.g (.e (ns.map .str))),a4,O,a6,a7',a8'] b):=fun {hs}=>by
  induction hs with
  |nil=>intro a4 a5 a6 a7 a8 _;exact⟨a5,a7,a8,rfl⟩
  |cons h hs Z=>
   intro a4 a5 a6 a7 a8 hw;obtain⟨d,hp,hr⟩:=uM X.X.nd o (hw h (.head _));obtain⟨O,W,a7',hh⟩:=Z (a4:=a4) (a5:=ς (.g (.str h.1))) (a6:=a6) (a7:=ς (.g (.bl h.2.2))) (a8:=ς (I h.2.1)) fun v hv=>hw v (.tail _ hv)
   refine⟨O,W,a7',?_⟩;exact qz1 (cT (δ':=[ς (.ref (ρ1 0)),ς (.ref (ρ2 0)),ς (.g (.t [.t (cs.map Hd.d),.t (ss.map Hd.d),rw])),ς (.g (.e (ns.map .str))),a4,ς (.g (.str h.1)),a6,ς (.g (.bl h.2.2)),ς (I h.2.1)]) rfl (ae (mi (one (F:=F61) (as:=[.str h.1]) (aB _) rfl rfl hr hp rfl rfl)) rfl)) hh
 obtain⟨U,g1⟩:=l1 (ws:=[0,1]) (a4:=ψ) (a5:=ψ) (a6:=ψ) (a7:=ψ) (a8:=ψ) Ξ;obtain⟨c5,c6,c7,g2⟩:=l2 (hs:=cs) (a4:=U) (a5:=ψ) (a6:=ψ) (a7:=ψ) (a8:=ψ) hc1;obtain⟨e5,e7,e8,g3⟩:=l3 (hs:=ss) (a4:=U) (a5:=c5) (a6:=c6) (a7:=c7) (a8:=ψ) hs1;obtain⟨dl',hdl,rl⟩:=nR o hN;obtain⟨dc,hdc,rc⟩:=uN o;have hres:aC 20 p.2.1.res=θ:=by rcases o.rs with h|⟨i,h⟩<;>rw[h]<;>rfl
 have hst:∃d,aC 20 d=θ/\F62 [.ref 0] (c sh p.2)=ς (.g d,c sh p.2):=by
  rcases gb o with h|⟨l,_,h⟩
  .exact⟨_,rfl,h⟩
  .exact⟨_,rfl,h⟩
 obtain⟨ds,hds,rst⟩:=hst
 have key:∀{ns:η Str},∃is:η Int,∀{ρ:Nat->Nat},At ρ (c sh p.2) b->aH (bnd (.one 0)) tYs (eMe 3 2 F66 (eV 1) (aCn (eV 0) aNl)) [ψ,ς (.ref (ρ 0))] (ns.map .str) b=ς (is.map fun i=>.g (.int i),b)/\is.length=ns.length:=fun {ns}=>by
  induction ns with
  |nil=>exact⟨[],fun _=>⟨rfl,rfl⟩⟩
  |cons n ns Z=>obtain⟨is,Z⟩:=Z;obtain⟨i,hi⟩:=CU o n;refine⟨i::is,fun {ρ} h=>⟨?_,by simp[(Z h).2]⟩⟩;have:=uO (i:=1) (δ:=[ς (.g (.str n)),ς (.ref (ρ 0))]) (fs:=aCn (eV 0) aNl) (as:=[.str n]) (n:=2) (F:=F66) (aB _) hG h rfl rfl rfl hi;simp only[qa3,aH,bnd,qw4,qa0,tYs,if_true,this,CV.sol,(Z h).1,qb2]
 obtain⟨is,his⟩:=key (ns:=ns)
 have hco:∀{ρ:Nat->Nat}{k:Nat}{δ:Sl},At ρ (c sh p.2) b->δ[3]?=ς (ς (.g (.e (ns.map .str))))->δ[k]?=ς (ς (.ref (ρ 0)))->eCo .v [ψ,ς k] (iE (eV 3)) (bnd (.one 0)) tYs (eMe 3 2 F66 (eV 1) (aCn (eV 0) aNl)) δ b=ς (.g (.e (is.map .int)),b):=fun {ρ k δ} h h3 hk=>by
  have hg:gC [ψ,ς k] δ=[ψ,ς (.ref (ρ 0))]:=by simp[gC,hk,lent]
  have hi:iE (eV 3) δ b=ς (ns.map .str,b):=by simp[iE,eV,h3,lent,itD]
  unfold eCo;rw[hi,qa0,hg];dsimp only;rw[(his h).1,qa0];dsimp only;rw[if_pos (by rw[qa4,(his h).2,qa7];lia),bL];rfl
 have hil:aC 20 (.e (is.map .int))=θ:=qc0.mpr fun d hd=>by obtain⟨i,_,rfl⟩:=qc8.mp hd;rfl
 refine aT (ae (bH (ds:=[0,1].map .int) rfl g1) (ae (mi (ph (one (F:=F21) (as:=[]) (aB _) rfl rfl yj rfl rfl rfl) (ph (one (F:=F57) (as:=[]) (aB _) rfl rfl rl hdl rfl rfl) (one (F:=F24) (as:=[]) (aB _) rfl rfl qM hres rfl rfl)))) (ae (bH (ds:=cs.map Hd.d) rfl g2) (ae (bH (ds:=ss.map Hd.d) rfl g3) (ae (mi (ph (one (F:=F62) (as:=[]) (aB _) rfl rfl rst hds rfl rfl) (ph (one (F:=F63) (as:=[]) (aB _) rfl rfl rc hdc rfl rfl) (one (F:=F65) (as:=[]) (aB _) rfl rfl yk rfl rfl rfl)))) (bR (ck (c:=.g (.bl θ)) (ch1:=b) ?_ rfl)))))));rw[cH (hco h1 rfl rfl) (hco h2 rfl rfl) rfl rfl (mh hil)];rfl
end
def Sim(g:Fs)(δ:Sl)(A B:CH):Prop:=∃O σ,g δ A=ς (.nx δ O)/\A.length<=O.length/\At σ B O/\σ 0=0
def cl0:Sl->Bool
 |[]=>θ
 |none::l=>cl0 l
 |some (.ref i)::l=>(i==0)&&cl0 l
 |some (.own _ _)::_=>ξ
 |some (.fn _ _)::_=>ξ
 |some (.g _)::l=>cl0 l
theorem iI(O:ρ 0=0):∀{δ:Sl},cl0 δ=θ->rnS ρ δ=δ
 |[],_=>rfl
 |none::l,h=>by simp only[rnS,qa3,Option.map_none];rw[show zg2 (zc9 (rn ρ)) l=l from iI O h]
 |some (.ref i)::l,h=>by simp only[cl0,qa1,beq_iff_eq]at h;obtain⟨rfl,h⟩:=h;simp only[rnS,qa3,qb2,rn,O];rw[show zg2 (zc9 (rn ρ)) l=l from iI O h]
 |some (.g d)::l,h=>by simp only[rnS,qa3,qb2,rn];rw[show zg2 (zc9 (rn ρ)) l=l from iI O h]
 |some (.own _ _)::_,h=>by cases h
 |some (.fn _ _)::_,h=>by cases h
variable{σ:Nat->Nat}
section
variable{g g1 g2:Fs}{δ:Sl}{A B C:CH}
theorem Sim.of{B':CH}(h:g δ A=ς (.nx δ B'))(hl:A.length<=B'.length)(k:At σ B B')(O:σ 0=0):Sim g δ A B:=⟨B',σ,h,hl,k,O⟩
theorem Sim.seq(hT:TrS g2)(W:Cl B)(hn:0<B.length)(hδ:cl0 δ=θ)(h1:Sim g1 δ A B)(h2:Sim g2 δ B C):Sim (aj g1 g2) δ A C:=by
 obtain⟨O,σ,a1,a2,a3,a4⟩:=h1;obtain⟨C',τ,Z,c2,c3,c4⟩:=h2;obtain⟨D,d1,d2,d3⟩:=hT (a3.em W) Z;have U:hat σ B.length O.length 0=0:=by unfold hat;rw[if_pos hn];exact a4
 rw[iI U hδ]at d1;have d1:g2 δ O=ς (.nx (rnS (hat σ B.length O.length) δ) D):=d1;rw[iI U hδ]at d1;refine⟨D,_,ae a1 d1,qd1 a2 (Em.fr a3 W d2 d3 c2).le,At.comp d2 c3,?_⟩;show hat σ B.length O.length (τ 0)=0;rw[c4];exact U
end
def blk:Nat->η (Str×η Dt)->CH
 |_,[]=>[]
 |n,p::r=>.e (p.2.map .g)::.t [.g (.str p.1),.ref n]::blk (n+2) r
def prs:Nat->η (Str×η Dt)->η (Key×CV)
 |_,[]=>[]
 |n,p::r=>(.inr p.1,.ref n)::prs (n+2) r
def rfs:Nat->Nat->η CV
 |_,0=>[]
 |n,k+1=>.ref n::rfs (n+2) k
variable{H:CH}
section
variable{fe:Fg}{α:Type}{f:α->Dt}{nm:α->Str}{vl:α->η Dt}
theorem mj:∀(l:η α)(O:∀a∈l,∀ch,fe [ς (.g (f a))] ch=ς (.ref (ch.length+1),ch++[.e ((vl a).map .g),.t [.g (.str (nm a)),.ref ch.length]])) (ch:CH),aH (bnd (.one 0)) tYs fe [ψ] (l.map f) ch=ς (rfs (ch.length+1) l.length,ch++blk ch.length (l.map fun a=>(nm a,vl a)))
 |[],_,ch=>by simp[aH,rfs,blk]
 |a::l,O,ch=>by have U:=mj l (fun b hb=>O b (.tail _ hb)) (ch++[.e ((vl a).map .g),.t [.g (.str (nm a)),.ref ch.length]]);have hb:bnd (.one 0) (f a) [ψ]=ς [ς (.g (f a))]:=rfl;simp only[qa3,aH,hb,qa0,tYs,if_true,O a (.head _),CV.sol,U,qb2];simp[rfs,blk]
theorem bA:∀{ps:η (Str×η Dt)}{n:Nat},(blk n ps).length=2*ps.length
 |[],_=>rfl
 |p::r,n=>by simp[blk,bA (ps:=r)];lia
theorem iJ:∀{ps:η (Str×η Dt)}{n k:Nat}{p:Str×η Dt},ps[k]?=ς p->(blk n ps)[2*k]?=ς (.e (p.2.map .g))/\(blk n ps)[2*k+1]?=ς (.t [.g (.str p.1),.ref (n+2*k)])
 |[],_,_,_,h=>by simp at h
 |q::r,n,0,p,h=>by cases h;exact⟨rfl,rfl⟩
 |q::r,n,k+1,p,h=>by have:=iJ (n:=n+2) (k:=k) (ps:=r) (p:=p) (by simpa using h);rw[show n+2+2*k=n+2*(k+1)by lia]at this;exact this
theorem jK:∀{ps:η (Str×η Dt)}{n:Nat},(∀k p,ps[k]?=ς p->H[n+2*k+1]?=ς (.t [.g (.str p.1),.ref (n+2*k)]))->bc H (rfs (n+1) ps.length)=ς (prs n ps)
 |[],_,_=>rfl
 |p::r,n,h=>by
  have O:=h 0 p rfl
  have W:=jK (ps:=r) (n:=n+2) fun k q U=>by have:=h (k+1) q (by simpa using U);rw[show n+2*(k+1)=n+2+2*k by lia]at this;exact this
  simp only[qb8,rfs,bc,cF];rw[show n+1+2=n+2+1 by lia,W];simp only[Nat.mul_zero,zf9]at O;simp[O,cX,prs]
theorem kU:∀{ps:η (Str×η Dt)}{n:Nat},(prs n ps).map (·.1)=ps.map fun p=>.inr p.1
 |[],_=>rfl
 |p::r,n=>by simp[prs,kU (ps:=r)]
theorem pi:∀{ps:η (Str×η Dt)}{n:Nat},(prs n ps).length=ps.length
 |[],_=>rfl
 |p::r,n=>by simp[prs,pi (ps:=r)]
theorem pj:∀{ps:η (Str×η Dt)}{n:Nat},((prs n ps).map (·.2)).all CV.sol=θ
 |[],_=>rfl
 |p::r,n=>by simp only[prs,qa3,qc7,CV.sol,qj6];exact pj
theorem pk:∀{k n:Nat},(rfs n k).all CV.sol=θ
 |0,_=>rfl
 |k+1,n=>by simp only[rfs,qc7,CV.sol,qj6];exact pk
theorem pq:∀{k n:Nat},(rfs n k).length=k
 |0,_=>rfl
 |k+1,n=>by simp[rfs,pq (k:=k)]
theorem iK{l:η α}(Z:∀a∈l,∀ch,fe [ς (.g (f a))] ch=ς (.ref (ch.length+1),ch++[.e ((vl a).map .g),.t [.g (.str (nm a)),.ref ch.length]]))(hi:fi δ ch=ς (l.map f,ch))(hg:gC src δ=[ψ])(hl:l≠[])(hz:l.length<=qa9)(hn:(l.map nm).Nodup):eDc .o (eCo .v src fi (bnd (.one 0)) tYs fe) δ ch=ς (.ref (ch.length+2*l.length+1),ch++blk ch.length (l.map fun a=>(nm a,vl a))++[.e (rfs (ch.length+1) l.length)]++[.dK (prs ch.length (l.map fun a=>(nm a,vl a)))]):=by
 obtain⟨a,l',rfl⟩:∃a l',l=a::l':=by cases l with|nil=>exact absurd rfl hl|cons a l'=>exact⟨a,l',rfl⟩
 generalize hL:a::l'=l at*
 have O:eCo .v src fi (bnd (.one 0)) tYs fe δ ch=ς (.ref (ch.length+2*l.length),ch++blk ch.length (l.map fun a=>(nm a,vl a))++[.e (rfs (ch.length+1) l.length)]):=by
  unfold eCo;rw[hi,qa0,hg];dsimp only;rw[mj _ Z,qa0];dsimp only;rw[if_pos (by rw[pq];exact hz)];unfold finL;have hd:dats (rfs (ch.length+1) l.length)=ψ:=by rw[<- hL];rfl
  rw[hd];dsimp only;rw[if_pos pk];simp[bA]
 generalize W:ch++blk ch.length (l.map fun a=>(nm a,vl a))++[.e (rfs (ch.length+1) l.length)]=H at O ⊢;have hHl:H.length=ch.length+2*l.length+1:=by rw[<- W];simp[bA];lia
 have hp:bc H (rfs (ch.length+1) l.length)=ς (prs ch.length (l.map fun a=>(nm a,vl a))):=by
  have:=jK (H:=H) (ps:=l.map fun a=>(nm a,vl a)) (n:=ch.length) fun k p hk=>by have hb:=(iJ (n:=ch.length) hk).2;rw[<- W,qd8,gR Θ,show ch.length+2*k+1-ch.length=2*k+1 by lia,gL (ao hb)];exact hb
  rw[qa4]at this;exact this
 have hs:kx H (.ref (ch.length+2*l.length))=ς (rfs (ch.length+1) l.length):=by
  have:H[ch.length+2*l.length]?=ς (.e (rfs (ch.length+1) l.length)):=by rw[<- W,qe1 (by simp[bA])];simp[bA]
  simp only[kx,this]
 unfold eDc;rw[O,qa0];dsimp only;rw[hs,qa0,hp,qa0]
 have hnd:((prs ch.length (l.map fun a=>(nm a,vl a))).map (·.1)).Nodup:=by
  rw[kU,qd4];have e:(l.map ((fun p:Str×η Dt=>(ql9 p.1:Key)) ∘ fun a=>(nm a,vl a)))=(l.map nm).map ql9:=by simp
  rw[e];exact qm8 _ (fun a b h q=>h (zd3 q)) hn
 rw[if_pos hnd];unfold lJ;have U:dats ((prs ch.length (l.map fun a=>(nm a,vl a))).map (·.2))=ψ:=by rw[<- hL];rfl
 rw[U];dsimp only;rw[if_pos pj,hHl]
end
def shC(cs:η Hd):Sh:=cs.map fun h=>(h.1,1)
def shS(ss:η Hd):Sh:=ss.map fun h=>(h.1,h.2.1.toNat)
def tlC(cs:η Hd):CH:=cs.map fun h=>dl [.int h.2.1]
def tlS(ss:η Hd):CH:=ss.map fun h=>dl (qb1 h.2.1.toNat (.int 0))
theorem fq{σ:Nat->Nat}{vl:Hd->η Dt}{sz:Hd->Nat}:∀{hs:η Hd}{n o:Nat},(∀k,k<hs.length->σ (k+o)=n+2*k)->rnP σ (aa o (hs.map fun h=>(h.1,sz h)))=prs n (hs.map fun h=>(h.1,vl h))
 |[],_,_,_=>rfl
 |h::hs,n,o,W=>by
  have O:=W 0 Ξ;have U:=fq (σ:=σ) (vl:=vl) (sz:=sz) (hs:=hs) (n:=n+2) (o:=o+1) fun k hl=>by have:=W (k+1) (by simpa using hl);rw[show k+(o+1)=k+1+o by lia,this];lia
  simp only[qw3,Nat.mul_zero,zf9]at O;simp only[rnP,qa3,aa,prs,rn,O]at U ⊢;rw[U]
theorem jL:∀{a b:Sh}{o:Nat},aa o (a++b)=aa o a++aa (o+a.length) b
 |[],b,o=>by simp[aa]
 |p::a,b,o=>by have:=jL (a:=a) (b:=b) (o:=o+1);simp only[ql1,aa,this,qb8];rw[show o+1+a.length=o+(a.length+1)by lia]
section
variable{cs ss:η Hd}{R:η Rw}{bg:η Str}
abbrev pgm(cs ss:η Hd)(R:η Rw):Dt:=.t [.t (cs.map Hd.d),.t (ss.map Hd.d),.t (R.map Rw.d)]
abbrev slS(cs ss:η Hd)(R:η Rw)(bg:η Str):Sl:=[ς (.ref 0),ς (.g (pgm cs ss R)),ς (.g (.t (bg.map .str)))]
def stA(cs:η Hd):CH:=.ins 2 [.ref 1]::.dK (aa 2 (shC cs))::tlC cs
def stB(cs ss:η Hd):CH:=.ins 2 [.ref 1]::.dK (aa 2 (shC cs++shS ss))::(tlC cs++tlS ss)
theorem yp(O:cs≠[])(hz:cs.length<=100)(Z:(cs.map (·.1)).Nodup):Sim (sFl 2 0 (eV 0) (eDc .o (eCo .v [ψ] (iE (eIx (eV 1) (eK (.int 0)))) (bnd (.one 0)) tYs (eTu (aCn (eIx (eV 0) (eK (.int 0))) (aCn (eLs .o (aCn (eIx (eV 0) (eK (.int 1))) aNl)) aNl)))))) (slS cs ss R bg) [.ins 2 []] (stA cs):=by
 have U:=iK (f:=Hd.d) (nm:=(·.1)) (vl:=fun h:Hd=>[.int h.2.1]) (fe:=eTu (aCn (eIx (eV 0) (eK (.int 0))) (aCn (eLs .o (aCn (eIx (eV 0) (eK (.int 1))) aNl)) aNl))) (fi:=iE (eIx (eV 1) (eK (.int 0)))) (src:=[ψ]) (δ:=slS cs ss R bg) (ch:=[.ins 2 []]) (l:=cs) (fun h _ ch=>by simp! only[Hd.d];simp! []) rfl rfl O (by rw[qa7];lia) Z
 have e1:([CO.ins 2 []]:CH).length=1:=rfl;rw[e1]at U;refine .of (B':=.ins 2 [.ref (1+2*cs.length+1)]::(blk 1 (cs.map fun h=>(h.1,[.int h.2.1]))++[.e (rfs 2 cs.length)]++[.dK (prs 1 (cs.map fun h=>(h.1,[.int h.2.1])))])) (σ:=fun i=>if i=0 then 0 else if i=1 then 1+2*cs.length+1 else 1+2*(i-2)) ?_ Ξ ?_ rfl
 .unfold sFl;rw[U,qa0];rfl
 .refine⟨fun i j hi W e=>?_,fun {i o} hi=>?_⟩
  .simp[stA,tlC]at hi W;split at e<;>split at e<;>(try split at e)<;>(try split at e)<;>lia
  .rcases i with _|_|i
   .cases hi;rfl
   .cases hi;show(CO.ins 2 _::_)[1+2*cs.length+1]?=_;rw[qd2,qe1 (by simp[bA];lia)];simp only[qc5,bA,qa4,qi8,show 1+2*cs.length-(2*cs.length+1)=0 by lia,qh8,rnO];unfold shC;rw[fq (vl:=fun h:Hd=>[.int h.2.1]) (n:=1)];intro k hk;rw[if_neg Θ,if_neg Θ,Nat.add_sub_cancel]
   .have hi:(tlC cs)[i]?=ς o:=hi;simp only[tlC,qa8]at hi;obtain⟨h,h1,rfl⟩:=mS hi;have hb:=(iJ (n:=1) (ps:=cs.map fun h=>(h.1,[.int h.2.1])) (k:=i) (p:=(h.1,[.int h.2.1])) (by rw[qa8,h1];rfl)).1;rw[if_neg Θ,if_neg Θ,cV,show 1+2*(i+1+1-2)=2*i+1 by lia,qd2,qd8,gL (ao hb)];exact hb
theorem bU:(stA cs).length=cs.length+2:=by simp[stA,tlC]
theorem ml{d:Dt}:(qb1 n [d]).flatten=qb1 n d:=by
 induction n with
 |zero=>rfl
 |succ n O=>rw[qf7,qk4,O,qf7];rfl
theorem yq(hne:ss≠[])(hz:cs.length+ss.length<=100)(hn:((cs++ss).map (·.1)).Nodup)(hs:∀h∈ss,0<=h.2.1/\h.2.1<=1000):Sim (sUp (eAt 2 0 (eV 0)) (eDc .o (eCo .v [ψ] (iE (eIx (eV 1) (eK (.int 1)))) (bnd (.one 0)) tYs (eTu (aCn (eIx (eV 0) (eK (.int 0))) (aCn (e2 .o oMul.g (eLs .v (aCn (eK (.int 0)) aNl)) (eIx (eV 0) (eK (.int 1)))) aNl)))))) (slS cs ss R bg) (stA cs) (stB cs ss):=by
 have hn2:(ss.map (·.1)).Nodup:=by rw[qd0,qe2]at hn;exact hn.2.1
 have Z:=iK (f:=Hd.d) (nm:=(·.1)) (vl:=fun h:Hd=>qb1 h.2.1.toNat (.int 0)) (fe:=eTu (aCn (eIx (eV 0) (eK (.int 0))) (aCn (e2 .o oMul.g (eLs .v (aCn (eK (.int 0)) aNl)) (eIx (eV 0) (eK (.int 1)))) aNl))) (fi:=iE (eIx (eV 1) (eK (.int 1)))) (src:=[ψ]) (δ:=slS cs ss R bg) (ch:=stA cs) (l:=ss) (fun h hh ch=>by obtain⟨h1,h2⟩:=hs h hh;simp! only[Hd.d];simp! [oMul,iS,lQ,h1,h2,ml]) rfl rfl hne (by rw[qa7];lia) hn2
 rw[bU]at Z;obtain⟨B,O⟩:∃B,B=stA cs++blk (cs.length+2) (ss.map fun h=>(h.1,qb1 h.2.1.toNat (.int 0)))++[.e (rfs (cs.length+2+1) ss.length)]++[.dK (prs (cs.length+2) (ss.map fun h=>(h.1,qb1 h.2.1.toNat (.int 0))))]:=⟨_,rfl⟩;rw[<- O]at Z;have d1:gv (stA cs) 1=ς (aa 2 (shC cs)):=rfl;have d2:gv B 1=ς (aa 2 (shC cs)):=by rw[O];rfl
 have d3:gv B (cs.length+2+2*ss.length+1)=ς (prs (cs.length+2) (ss.map fun h=>(h.1,qb1 h.2.1.toNat (.int 0)))):=by
  have:B[cs.length+2+2*ss.length+1]?=ς (.dK (prs (cs.length+2) (ss.map fun h=>(h.1,qb1 h.2.1.toNat (.int 0))))):=by rw[O,qe1 (by simp[bA,bU];lia)];simp only[qc5,bA,bU,qa4,qi8];rw[show cs.length+2+2*ss.length+1-(cs.length+2+2*ss.length+1)=0 by lia];rfl
  simp only[gv,this]
 have hf:∀{o:Nat}{sh:Sh},(aa o sh).map (·.1)=sh.map fun p=>(.inr p.1:Key):=fun {o sh}=>by
  induction sh generalizing o with
  |nil=>rfl
  |cons p r ih=>simp[aa,ih]
 have W:∀{o:Nat}{sh:Sh},(aa o sh).length=sh.length:=fun {o sh}=>by have:=congrArg qm0 (hf (o:=o) (sh:=sh));simpa using this
 have hnd:((aa 2 (shC cs)++prs (cs.length+2) (ss.map fun h=>(h.1,qb1 h.2.1.toNat (.int 0)))).map (·.1)).Nodup:=by
  rw[qd0,hf,kU];have e:((shC cs).map fun p=>(ql9 p.1:Key))++((ss.map fun h=>(h.1,qb1 h.2.1.toNat (.int 0:Dt))).map fun p=>(ql9 p.1:Key))=((cs++ss).map (·.1)).map ql9:=by simp[shC,qb4]
  rw[e];exact qm8 _ (fun a b h q=>h (zd3 q)) hn
 refine .of (B':=B.set 1 (.dK (aa 2 (shC cs)++prs (cs.length+2) (ss.map fun h=>(h.1,qb1 h.2.1.toNat (.int 0)))))) (σ:=fun i=>if i<cs.length+2 then i else cs.length+2+2*(i-(cs.length+2))) ?_ (by rw[O];simp) ?_ (if_pos Θ)
 .unfold sUp;have ha:eAt 2 0 (eV 0) (slS cs ss R bg) (stA cs)=ς (.ref 1,stA cs):=rfl;rw[ha,qa0];dsimp only;rw[Z,qa0];dsimp only;rw[d1,qa0,d2,qa0,d3,qa0,if_pos ⟨Θ,hnd,by rw[W,pi,qa7];simp[shC];lia⟩]
 .have g0:∀{k:Nat},k<cs.length->(B.set 1 (.dK (aa 2 (shC cs)++prs (cs.length+2) (ss.map fun h=>(h.1,qb1 h.2.1.toNat (.int 0))))))[k+2]?=(tlC cs)[k]?:=fun {k} hk=>by rw[gN Θ,O,qd8,qd8,gL (by rw[bU];lia)];rfl
  refine⟨fun i j hi hj e=>?_,fun {i o} hi=>?_⟩
  .split at e<;>split at e<;>lia
  .rcases i with _|_|i
   .cases hi;rw[if_pos Θ,O];rfl
   .cases hi;rw[if_pos Θ,qe5 (by rw[O];simp[bU];lia)];simp only[rnO];rw[jL];have r1:rnP (fun i=>if i<cs.length+2 then i else cs.length+2+2*(i-(cs.length+2))) (aa 2 (shC cs))=aa 2 (shC cs):=cc fun k hk=>by simp[shC]at hk;rw[if_pos Θ]
    have r2:rnP (fun i=>if i<cs.length+2 then i else cs.length+2+2*(i-(cs.length+2))) (aa (2+(shC cs).length) (shS ss))=prs (cs.length+2) (ss.map fun h=>(h.1,qb1 h.2.1.toNat (.int 0))):=fq fun k hk=>by
     have:(shC cs).length=cs.length:=by simp[shC]
     rw[this,if_neg Θ];lia
    simp only[rnP,qd0]at r1 r2 ⊢;rw[r1,r2]
   .have hi:(tlC cs++tlS ss)[i]?=ς o:=hi;have U:(tlC cs).length=cs.length:=by simp[tlC]
    rcases qj9 i cs.length with hl|hl
    .rw[gL Θ]at hi;rw[if_pos Θ];show _[i+2]?=_;rw[g0 hl,hi];simp only[tlC,qa8]at hi;obtain⟨h,_,rfl⟩:=mS hi;rw[cV]
    .rw[gR Θ,U]at hi;simp only[tlS,qa8]at hi;obtain⟨h,h1,rfl⟩:=mS hi;have hb:=(iJ (n:=cs.length+2) (ps:=ss.map fun h=>(h.1,qb1 h.2.1.toNat (.int 0))) (k:=i-cs.length) (p:=(h.1,qb1 h.2.1.toNat (.int 0))) (by rw[qa8,h1];rfl)).1;rw[if_neg Θ,cV,gN Θ,O,qd8,qd8,gR (by rw[bU];lia),bU,show cs.length+2+2*(i+1+1-(cs.length+2))-(cs.length+2)=2*(i-cs.length)by lia,gL (ao hb)];exact hb
end
def tlR:S->S
 |.sq _ r=>r
 |s=>s
section
variable{cs ss:η Hd}{R:η Rw}{bg:η Str}
abbrev s3:Fs:=sFl 2 1 (eV 0) (eLs .o (aCn (eTu (aCn (eK (.int 0)) (aCn (eK (.int 0)) (aCn (eK (.int 0)) (aCn (eK (.int 0)) aNl))))) (aCn (eTu (aCn (eK (.int 0)) (aCn (eK (.int 0)) (aCn (eK (.int 0)) (aCn (eK (.int 0)) aNl))))) aNl)))
abbrev s4:Fs:=sFl 2 2 (eV 0) (eLs .o (aCn (eCo .o [ψ] (iE (eV 2)) (bnd (.one 0)) tYs (eTu (aCn (eV 0) (aCn (eK (.int 0)) aNl)))) (aCn (eLs .o aNl) aNl)))
abbrev s5:Fs:=sFl 2 3 (eV 0) (eLs .o (aCn (eLs .o aNl) (aCn (eLs .o aNl) aNl)))
abbrev s6:Fs:=sFl 2 4 (eV 0) (eK (.int 0))
abbrev s7:Fs:=sFl 2 5 (eV 0) (eK .non)
def h4:η Dt:=[.int 0,.int 0,.int 0,.int 0]
theorem Fe{K:CO}{T:CH}:s3 (slS cs ss R bg) (.ins 2 [.ref 1]::K::T)=ς (.nx (slS cs ss R bg) (.ins 2 [.ref 1,.ref (T.length+2)]::K::(T++[.e [.g (.t h4),.g (.t h4)]]))):=rfl
theorem Ff{K:CO}{T:CH}{a b:CV}(hb:bg.length<=100):s4 (slS cs ss R bg) (.ins 2 [a,b]::K::T)=ς (.nx (slS cs ss R bg) (.ins 2 [a,b,.ref (T.length+4)]::K::(T++[dl (bg.map fun s=>Bx.d (s,0)),.e [],.e [.ref (T.length+2),.ref (T.length+3)]]))):=by
 have hc:eCo .o [ψ] (iE (eV 2)) (bnd (.one 0)) tYs (eTu (aCn (eV 0) (aCn (eK (.int 0)) aNl))) (slS cs ss R bg) (.ins 2 [a,b]::K::T)=ς (.ref (T.length+2),.ins 2 [a,b]::K::(T++[dl (bg.map fun s=>Bx.d (s,0))])):=by
  have hi:iE (eV 2) (slS cs ss R bg) (.ins 2 [a,b]::K::T)=ς (bg.map .str,.ins 2 [a,b]::K::T):=rfl;unfold eCo;rw[hi,qa0];have:=b9 (pt:=.one 0) (ft:=tYs) (fe:=eTu (aCn (eV 0) (aCn (eK (.int 0)) aNl))) (δ:=gC [ψ] (slS cs ss R bg)) (ch:=.ins 2 [a,b]::K::T) (f:=.str) (g:=fun s:Str=>Bx.d (s,0)) (l:=bg) fun s _=>⟨_,rfl,rfl,rfl⟩
  rw[this,qa0];dsimp only;rw[if_pos (by rw[qa4,qa7];lia),bL];rfl
 simp only[s4,sFl,eLs,aCn,hc,qa0,aNl,qb2];simp[finL,dats,fin,al,eV,lent,CV.sol,cr,qa7]
theorem Fh{K:CO}{T:CH}{a b c:CV}:s5 (slS cs ss R bg) (.ins 2 [a,b,c]::K::T)=ς (.nx (slS cs ss R bg) (.ins 2 [a,b,c,.ref (T.length+4)]::K::(T++[.e [],.e [],.e [.ref (T.length+2),.ref (T.length+3)]]))):=by simp only[s5,sFl,eLs,aCn,aNl,qa0,qb2];simp[finL,dats,fin,al,eV,lent,CV.sol,cr,qa7]
theorem CW{K:CO}{T:CH}{a b c d:CV}:aj s6 (aj s7 ar) (slS cs ss R bg) (.ins 2 [a,b,c,d]::K::T)=ς (.nx (slS cs ss R bg) (.ins 2 [a,b,c,d,I 0,.g .non]::K::T)):=rfl
def stC(cs ss:η Hd)(bg:η Str):CH:=.ins 2 [.ref 1,.ref 2,.ref 3,.ref 4,I 0,.g .non]::.dK (aa 9 (shC cs++shS ss))::.e [.g (.t h4),.g (.t h4)]::.e [.ref 5,.ref 6]::.e [.ref 7,.ref 8]::dl (bg.map fun s=>Bx.d (s,0))::.e []::.e []::.e []::(tlC cs++tlS ss)
theorem uP{o:CO}(h:o∈tlC cs++tlS ss):∃L,o=dl L:=by
 rcases qf5.mp h with h|h
 .simp only[tlC,qc8]at h;obtain⟨a,_,rfl⟩:=h;exact⟨_,rfl⟩
 .simp only[tlS,qc8]at h;obtain⟨a,_,rfl⟩:=h;exact⟨_,rfl⟩
theorem CY:Cl (stA cs):=by
 unfold Cl;rw[bU];have O:=cI (sh:=shC cs) (o:=2) (n:=cs.length+2) (by simp[shC];lia);have W:(tlC cs).all (clO (cs.length+2))=θ:=qc0.mpr fun o U=>by obtain⟨L,rfl⟩:=uP (ss:=[]) (cs:=cs) (by simpa[tlS] using U);exact l8
 simp only[stA,qc7,qo6,clO,f8,O,W,qj7];exact decide_eq_true Θ
theorem pr:(stB cs ss).length=cs.length+ss.length+2:=by simp[stB,tlC,tlS]
theorem CZ:Cl (stB cs ss):=by
 unfold Cl;rw[pr];have O:=cI (sh:=shC cs++shS ss) (o:=2) (n:=cs.length+ss.length+2) (by simp[shC,shS];lia);have W:(tlC cs++tlS ss).all (clO (cs.length+ss.length+2))=θ:=qc0.mpr fun o U=>by obtain⟨L,rfl⟩:=uP U;exact l8
 simp only[stB,qc7,qo6,clO,f8,O,W,qj7];exact decide_eq_true Θ
theorem cU:(stC cs ss bg).length=cs.length+ss.length+9:=by simp[stC,tlC,tlS]
theorem uQ:Cl (stC cs ss bg):=by
 unfold Cl;rw[cU];have Z:=cI (sh:=shC cs++shS ss) (o:=9) (n:=cs.length+ss.length+9) (by simp[shC,shS];lia);have U:(tlC cs++tlS ss).all (clO (cs.length+ss.length+9))=θ:=qc0.mpr fun o W=>by obtain⟨L,rfl⟩:=uP W;exact l8
 have O:∀k,k<9->decide (k<cs.length+ss.length+9)=θ:=fun k hk=>decide_eq_true Θ
 simp only[stC,qc7,qo6,clO,f8,kP,Z,U,l7,O,qj7,zc5]
def sgS(n i:Nat):Nat:=match i with
 |0=>0
 |1=>1
 |2=>n+2
 |3=>n+5
 |4=>n+8
 |5=>n+3
 |6=>n+4
 |7=>n+6
 |8=>n+7
 |i+9=>i+2
def sgI(n j:Nat):Nat:=if j<2 then j else if j<n+2 then j+7 else if j=n+2 then 2 else if j=n+5 then 3 else if j=n+8 then 4 else if j=n+3 then 5 else if j=n+4 then 6 else if j=n+6 then 7 else 8
theorem pw(h:i<n+9):sgI n (sgS n i)=i:=by
 rcases i with _|_|_|_|_|_|_|_|_|i
 .rfl
 .rfl
 all_goals
  simp only[sgS];unfold sgI
  repeat first|rw[if_pos Θ]|rw[if_neg Θ]
theorem uR{T L:CH}:(T++L)[T.length+j]?=L[j]?:=by rw[gR Θ,qf8]
theorem uS(hc:cs≠[])(hs:ss≠[])(hz:cs.length+ss.length<=100)(hb:bg.length<=100)(hn:((cs++ss).map (·.1)).Nodup)(hv:∀h∈ss,0<=h.2.1/\h.2.1<=1000):∃B σ,F14 [.ref 0,.g (pgm cs ss R),.g (.t (bg.map .str))] [.ins 2 []]=ς (.g .non,B)/\At σ (stC cs ss bg) B/\σ 0=0:=by
 have hnc:(cs.map (·.1)).Nodup:=by rw[qd0,qe2]at hn;exact hn.1
 have rest:Sim (aj s3 (aj s4 (aj s5 (aj s6 (aj s7 ar))))) (slS cs ss R bg) (stB cs ss) (stC cs ss bg):=by
  obtain⟨T,W⟩:∃T,T=tlC cs++tlS ss:=⟨_,rfl⟩;have hTl:T.length=cs.length+ss.length:=by rw[W];simp[tlC,tlS]
  have U:∀o∈T,∃L,o=dl L:=fun o ho=>uP (by rw[<- W];exact ho)
  have hr:rnP (sgS T.length) (aa 9 (shC cs++shS ss))=aa 2 (shC cs++shS ss):=cc fun k hk=>rfl
  have O:(stC cs ss bg).length=T.length+9:=by rw[cU,hTl]
  unfold stB;rw[<- W];have e1:(T++[CO.e [.g (.t h4),.g (.t h4)]]).length=T.length+1:=by simp
  have e2':(T++[CO.e [.g (.t h4),.g (.t h4)]]++[dl (bg.map fun s=>Bx.d (s,0)),.e [],.e [.ref (T.length+1+2),.ref (T.length+1+3)]]).length=T.length+4:=by simp
  have r3:=Ff (cs:=cs) (ss:=ss) (R:=R) (bg:=bg) (K:=.dK (aa 2 (shC cs++shS ss))) (T:=T++[CO.e [.g (.t h4),.g (.t h4)]]) (a:=.ref 1) (b:=.ref (T.length+2)) hb;rw[e1]at r3;have r4:=Fh (cs:=cs) (ss:=ss) (R:=R) (bg:=bg) (K:=.dK (aa 2 (shC cs++shS ss))) (T:=T++[CO.e [.g (.t h4),.g (.t h4)]]++[dl (bg.map fun s=>Bx.d (s,0)),.e [],.e [.ref (T.length+1+2),.ref (T.length+1+3)]]) (a:=.ref 1) (b:=.ref (T.length+2)) (c:=.ref (T.length+1+4));rw[e2']at r4;refine .of (σ:=sgS T.length) (ae Fe (ae r3 (ae r4 CW))) Ξ ?_ rfl;simp only[qd8];refine⟨fun i j hi hj e=>?_,fun {i o} hi=>?_⟩
  .rw[O]at hi hj;rw[<- pw hi,e,pw hj]
  .have hi':i<T.length+9:=by rw[<- O];exact ao hi
   have ap:∀j L,(CO.ins 2 [.ref 1,.ref (T.length+2),.ref (T.length+1+4),.ref (T.length+4+4),I 0,.g .non]::CO.dK (aa 2 (shC cs++shS ss))::(T++L))[T.length+j+2]?=L[j]?:=fun j L=>uR
   rcases i with _|_|_|_|_|_|_|_|_|i
   .cases hi;rfl
   .cases hi;simp only[rnO,hr];rfl
   .cases hi;exact ap 0 _
   .cases hi;exact ap 3 _
   .cases hi;exact ap 6 _
   .cases hi;rw[cV];exact ap 1 _
   .cases hi;exact ap 2 _
   .cases hi;exact ap 4 _
   .cases hi;exact ap 5 _
   .have hi:(tlC cs++tlS ss)[i]?=ς o:=hi;rw[<- W]at hi;obtain⟨L,rfl⟩:=U o (qa5 hi);rw[cV];show(T++_)[i]?=_;rw[gL (ao hi)];exact hi
 have t1:TrS (aj s3 (aj s4 (aj s5 (aj s6 (aj s7 ar))))):=by have w:TrS (evS (bm gc t14) (tlR (tlR d14.b))):=xt (dE t14) _;exact @w
 have t2:TrS (aj (sUp (eAt 2 0 (eV 0)) (eDc .o (eCo .v [ψ] (iE (eIx (eV 1) (eK (.int 1)))) (bnd (.one 0)) tYs (eTu (aCn (eIx (eV 0) (eK (.int 0))) (aCn (e2 .o oMul.g (eLs .v (aCn (eK (.int 0)) aNl)) (eIx (eV 0) (eK (.int 1)))) aNl)))))) (aj s3 (aj s4 (aj s5 (aj s6 (aj s7 ar)))))):=by have w:TrS (evS (bm gc t14) (tlR d14.b)):=xt (dE t14) _;exact @w
 have z:=Sim.seq (δ:=slS cs ss R bg) @t2 CY (by rw[bU];lia) rfl (yp (ss:=ss) (R:=R) (bg:=bg) hc Θ hnc) (Sim.seq @t1 CZ (by rw[pr];lia) rfl (yq (R:=R) (bg:=bg) hs hz hn hv) rest);obtain⟨B,σ,h1,h2,h3,Z⟩:=z;exact⟨B,σ,by rw[q14];exact nH h1,h3,Z⟩
end
def cf:Nat->η Rw->η Dt
 |_,[]=>[]
 |k,r::R=>aM k r::cf (k+1) R
theorem px:∀{R:η Rw}{k i:Nat}{r:Rw},R[i]?=ς r->(cf k R)[i]?=ς (aM (k+i) r)
 |[],_,_,_,h=>by simp at h
 |q::R,k,0,r,h=>by cases h;rfl
 |q::R,k,i+1,r,h=>by have:=px (R:=R) (k:=k+1) (i:=i) (r:=r) (by simpa using h);rw[show k+1+i=k+(i+1)by lia]at this;exact this
theorem mn:∀{R:η Rw}{k:Nat},(cf k R).length=R.length
 |[],_=>rfl
 |q::R,k=>by simp[cf,mn (R:=R)]
theorem C0(i:Nat)(r:Rw):F12 [I i,.g r.d] ch=ς (.g (aM i r),ch):=by
 cases r with
 |op x O a b=>simp! only[q12,Rw.d,aM];simp! []
 |load x n=>simp! only[q12,Rw.d,aM];simp! []
 |store n a=>simp! only[q12,Rw.d,aM];simp! []
 |take x n a=>simp! only[q12,Rw.d,aM];simp! []
 |lay n a b=>simp! only[q12,Rw.d,aM];simp! []
 |copy x a=>simp! only[q12,Rw.d,aM];simp! []
 |hear x=>simp! only[q12,Rw.d,aM];simp! []
 |say a=>simp! only[q12,Rw.d,aM];simp! []
 |ife x t=>simp! only[q12,Rw.d,aM];simp! []
 |go t=>simp! only[q12,Rw.d,aM];simp! []
 |fin a=>simp! only[q12,Rw.d,aM];simp! []
theorem pz:∀{R:η Rw}{k:Nat},aH (bnd (.many [0,1])) tYs (eCa 2 F12 (aCn (eV 0) (aCn (eV 1) aNl))) [ψ,ψ] (cB k (R.map Rw.d)) ch=ς ((cf k R).map .g,ch)
 |[],_=>rfl
 |r::R,k=>by
  have hb:bnd (.many [0,1]) (.t [.int k,r.d]) [ψ,ψ]=ς [ς (I k),ς (.g r.d)]:=rfl
  have hc:eCa 2 F12 (aCn (eV 0) (aCn (eV 1) aNl)) [ς (I k),ς (.g r.d)] ch=ς (.g (aM k r),ch):=by show kCa 2 F12 [I k,.g r.d] [ς (I k),ς (.g r.d)] ch=_;unfold kCa;rw[if_pos ⟨rfl,rfl⟩];exact C0 k r
  simp only[qa3,cB,aH,hb,qa0,tYs,if_true,hc,CV.sol,pz (R:=R) (k:=k+1),qb2,cf]
variable{e:Fg}
section
variable{cs ss:η Hd}{R:η Rw}{bg:η Str}{ch:CH}
theorem pA(U:R.length<=1000):F13 [.g (pgm cs ss R)] ch=ς (.g (.e (cf 0 R)),ch):=by rw[q13];refine aT (bR (ck ?_ rfl));unfold eCo;have hi:iN (eIx (eV 0) (eK (.int 2))) [ς (.g (pgm cs ss R))] ch=ς (cB 0 (R.map Rw.d),ch):=rfl;show((iN (eIx (eV 0) (eK (.int 2))) [ς (.g (pgm cs ss R))] ch).bind _)=_;rw[hi,qa0];have O:gC [ψ,ψ] [ς (.g (pgm cs ss R))]=[ψ,ψ]:=rfl;dsimp only;show((aH _ _ _ (gC [ψ,ψ] [ς (.g (pgm cs ss R))]) _ _).bind _)=_;rw[O,pz,qa0];dsimp only;rw[if_pos (by rw[qa4,mn,qa7];lia),uo];rfl
abbrev Kp':=Int×η Str
def Kp'.d(k:Kp'):Dt:=.t [.int k.1,.t (k.2.map .str)]
abbrev cod(bg:η Str)(ks:η Kp'):Dt:=.t [.t (bg.map .str),.t (ks.map Kp'.d)]
abbrev slH(cs ss:η Hd)(R:η Rw)(bg:η Str)(ks:η Kp')(inc:η Dt):Sl:=[ς (.ref 0),ς (.g (pgm cs ss R)),ς (.g (cod bg ks)),ς (.g (.e inc))]
variable{ks:η Kp'}{inc:η Dt}
def fx(cs ss:η Hd)(R:η Rw)(ks:η Kp')(inc:η Dt):Fx:=⟨R.map Rw.d,cf 0 R,ss.map fun h=>.inr h.1,ss.map fun h=>.int h.2.1,((cs++ss).filter fun h=>h.2.2).map fun h=>.str h.1,ks.map fun k=>.inl k.1,ks.map fun k=>.t (k.2.map .str),inc⟩
theorem gd{k:Nat}{fs:η CV}{d:Dt}(U:δ[0]?=ς (ς (.ref 0)))(h:e δ [.ins 3 fs]=ς (.g d,[.ins 3 fs]))(W:fs.length=k)(O:k<1000):sFl 3 k (eV 0) e δ [.ins 3 fs]=ς (.nx δ [.ins 3 (fs++[.g d])]):=by unfold sFl eV;rw[h,qa0];simp[U,lent,cr,CV.sol,W,O]
theorem uT{l:η (Key×Dt)}:lJ .v (dp l) ch=ς (.g (.dct (l.map (·.1)) (l.map (·.2))),ch):=by unfold lJ;rw[bG];dsimp only;rw[nG];rfl
theorem uU(U:(ss.map (·.1)).Nodup)(hl:ss.length<=100):eDc .v (eCo .v [ψ] (iE (eIx (eV 1) (eK (.int 1)))) (bnd (.one 0)) tYs (eTu (aCn (eIx (eV 0) (eK (.int 0))) (aCn (eIx (eV 0) (eK (.int 1))) aNl)))) (slH cs ss R bg ks inc) ch=ς (.g (.dct (ss.map fun h=>.inr h.1) (ss.map fun h=>.int h.2.1)),ch):=by
 have O:eCo .v [ψ] (iE (eIx (eV 1) (eK (.int 1)))) (bnd (.one 0)) tYs (eTu (aCn (eIx (eV 0) (eK (.int 0))) (aCn (eIx (eV 0) (eK (.int 1))) aNl))) (slH cs ss R bg ks inc) ch=ς (.g (.e ((ss.map fun h=>(h.1,h.2.1)).map Bx.d)),ch):=by
  have hi:iE (eIx (eV 1) (eK (.int 1))) (slH cs ss R bg ks inc) ch=ς (ss.map Hd.d,ch):=rfl;unfold eCo;rw[hi,qa0];have:=b9 (pt:=.one 0) (ft:=tYs) (fe:=eTu (aCn (eIx (eV 0) (eK (.int 0))) (aCn (eIx (eV 0) (eK (.int 1))) aNl))) (δ:=gC [ψ] (slH cs ss R bg ks inc)) (ch:=ch) (f:=Hd.d) (g:=fun h:Hd=>Bx.d (h.1,h.2.1)) (l:=ss) fun h _=>⟨_,rfl,rfl,rfl⟩
  rw[this,qa0];dsimp only;rw[if_pos (by rw[qa4,qa7];lia),bL,qd4];rfl
 unfold eDc;rw[O,qa0];have e:((ss.map fun h=>((h.1,h.2.1):Bx)).map Bx.d).map CV.g=(ss.map fun h=>((h.1,h.2.1):Bx)).map (CV.g ∘ Bx.d):=by rw[qd4]
 show((bc ch (((ss.map fun h=>((h.1,h.2.1):Bx)).map Bx.d).map CV.g)).bind _)=_;rw[e,fg,qa0,if_pos (by rw[bP];exact kN (by simpa[qb4] using U)),uT];simp[bxK,qb4]
theorem uV(hc:cs≠[])(hs:ss≠[])(hl:cs.length+ss.length<=100):eCo .v [ψ] (iE (e2 .v oAdd.g (eIx (eV 1) (eK (.int 0))) (eIx (eV 1) (eK (.int 1))))) (bnd (.one 0)) (cq (eIx (eV 0) (eK (.int 2)))) (eIx (eV 0) (eK (.int 0))) (slH cs ss R bg ks inc) ch=ς (.g (.e (((cs++ss).filter fun h=>h.2.2).map fun h=>.str h.1)),ch):=by
 have hi:iE (e2 .v oAdd.g (eIx (eV 1) (eK (.int 0))) (eIx (eV 1) (eK (.int 1)))) (slH cs ss R bg ks inc) ch=ς ((cs++ss).map Hd.d,ch):=by
  have O:e2 .v oAdd.g (eIx (eV 1) (eK (.int 0))) (eIx (eV 1) (eK (.int 1))) (slH cs ss R bg ks inc) ch=ς (.g (.t ((cs++ss).map Hd.d)),ch):=by
   have U:oAdd.g (.t (cs.map Hd.d)) (.t (ss.map Hd.d))=ς (.f (.t ((cs++ss).map Hd.d))):=by show orO cW iy _ _=_;unfold orO cW;simp[qa7,hc,hs,show cs.length+ss.length<=16777216 by lia]
   rw[cH (x:=.g (.t (cs.map Hd.d))) (y:=.g (.t (ss.map Hd.d))) (ch1:=ch) (ch2:=ch) rfl rfl rfl rfl U];rfl
  unfold iE;rw[O];rfl
 unfold eCo;rw[hi,qa0];have:=dw (pt:=.one 0) (ft:=cq (eIx (eV 0) (eK (.int 2)))) (fe:=eIx (eV 0) (eK (.int 0))) (δ:=gC [ψ] (slH cs ss R bg ks inc)) (ch:=ch) (f:=Hd.d) (g:=fun h:Hd=>.str h.1) (p:=fun h:Hd=>h.2.2) (l:=cs++ss) fun h _=>⟨_,rfl,by simp! only[gC,Hd.d];simp! [],fun _=>rfl⟩
 rw[this,qa0];dsimp only;rw[if_pos (by rw[qa4,qa7];have:=zc6 (fun h:Hd=>h.2.2) (cs++ss);rw[qc5]at this;lia),bL];rfl
theorem uW(W:(ks.map (·.1)).Nodup):eDc .v (eIx (eV 2) (eK (.int 1))) (slH cs ss R bg ks inc) ch=ς (.g (.dct (ks.map fun k=>.inl k.1) (ks.map fun k=>.t (k.2.map .str))),ch):=by
 have O:eIx (eV 2) (eK (.int 1)) (slH cs ss R bg ks inc) ch=ς (.g (.t (ks.map Kp'.d)),ch):=rfl
 have hp:∀ks:η Kp',bc ch ((ks.map Kp'.d).map .g)=ς (dp (ks.map fun k=>(.inl k.1,.t (k.2.map .str)))):=fun ks=>by
  induction ks with
  |nil=>rfl
  |cons k ks U=>show(cF ch (.g (Kp'.d k))).bind _=_;have h1:cF ch (.g (Kp'.d k))=ς (.inl k.1,.g (.t (k.2.map .str))):=rfl;rw[h1,qa0];show((bc ch ((ks.map Kp'.d).map .g)).map _)=_;rw[U];rfl
 unfold eDc;rw[O,qa0];show((bc ch ((ks.map Kp'.d).map .g)).bind _)=_
 rw[hp,qa0,if_pos (by
  rw[bP,qd4];have e:(ks.map ((fun p:Key×Dt=>p.1) ∘ fun k:Kp'=>(.inl k.1,.t (k.2.map .str))))=(ks.map (·.1)).map qp0:=by simp[qb4]
  rw[e];exact qm8 _ (fun a b h q=>h (qp0.inj q)) W),uT]
 simp[qb4]
def sgH(τ:Nat->Nat)(m i:Nat):Nat:=match i with
 |0=>0
 |1=>1+τ 0
 |2=>m+1
 |3=>m+3
 |4=>1+τ 1
 |5=>1+τ 2
 |6=>1+τ 3
 |7=>1+τ 4
 |8=>m+2
 |9=>1+τ 5
 |10=>1+τ 6
 |11=>1+τ 7
 |12=>1+τ 8
 |i+13=>1+τ (i+9)
def sJ(k:Nat):Nat:=match k with
 |0=>1
 |1=>4
 |2=>5
 |3=>6
 |4=>7
 |5=>9
 |6=>10
 |7=>11
 |8=>12
 |k+9=>k+13
theorem uX{τ:Nat->Nat}(hi:i<n+13):((i=0/\sgH τ m i=0)∨(i=2/\sgH τ m i=m+1)∨(i=3/\sgH τ m i=m+3)∨(i=8/\sgH τ m i=m+2))∨∃k,k<n+9/\i=sJ k/\sgH τ m i=1+τ k:=by
 rcases i with _|_|_|_|_|_|_|_|_|_|_|_|_|i
 .exact .inl (.inl ⟨rfl,rfl⟩)
 .exact .inr ⟨0,Θ,rfl,rfl⟩
 .exact .inl (.inr (.inl ⟨rfl,rfl⟩))
 .exact .inl (.inr (.inr (.inl ⟨rfl,rfl⟩)))
 .exact .inr ⟨1,Θ,rfl,rfl⟩
 .exact .inr ⟨2,Θ,rfl,rfl⟩
 .exact .inr ⟨3,Θ,rfl,rfl⟩
 .exact .inr ⟨4,Θ,rfl,rfl⟩
 .exact .inl (.inr (.inr (.inr ⟨rfl,rfl⟩)))
 .exact .inr ⟨5,Θ,rfl,rfl⟩
 .exact .inr ⟨6,Θ,rfl,rfl⟩
 .exact .inr ⟨7,Θ,rfl,rfl⟩
 .exact .inr ⟨8,Θ,rfl,rfl⟩
 .exact .inr ⟨i+9,Θ,rfl,rfl⟩
theorem yr:F18 [.ref 0,I 0] (stC cs ss bg)=ς (.g (.t (h4++[.e (bg.map fun s=>Bx.d (s,0)),.e []])),stC cs ss bg):=by unfold stC;generalize (bg.map fun s=>Bx.d (s,0))=L;simp! only[q18,h4];simp! []
theorem yt:F20 [.ref 0] (stC cs ss bg)=ς (I 0,stC cs ss bg):=rfl
theorem uY (hcn:cs≠[]) (hs:ss≠[]) (hz:cs.length+ss.length<=100) (hb:bg.length<=100) (hR:R.length<=1000) (hn:((cs++ss).map (·.1)).Nodup) (hv:∀ h∈ss,0<=h.2.1/\h.2.1<=1000) (hk:(ks.map (·.1)).Nodup) :
  ∃B σ,F22 [.ref 0,.g (pgm cs ss R),.g (cod bg ks),.g (.e inc)] [.ins 3 []]=ς (.g .non,B)/\At σ (hc (shC cs++shS ss) ⟨fx cs ss R ks inc,[Sm.d .wake],h4,h4,bg.map fun s=>Bx.d (s,0),[],[],[],0,.non,[],ξ,0⟩ ψ (tlC cs++tlS ss)) B/\σ 0=0:=by
 have hns:(ss.map (·.1)).Nodup:=by rw[qd0,qe2]at hn;exact hn.2.1
 obtain⟨O,τ,k1,k2,k3⟩:=uS (R:=R) (bg:=bg) hcn hs hz hb hn hv;have hSR:0<O.length:=by have:=k2.lt (i:=0) (by rw[cU];lia);lia
 obtain⟨U,Z⟩:∃U:η CV,U=[.g (.t (R.map Rw.d)),.g (.e (cf 0 R)),.g (.dct (ss.map fun h=>.inr h.1) (ss.map fun h=>.int h.2.1)),.g (.e (((cs++ss).filter fun h=>h.2.2).map fun h=>.str h.1)),.g (.dct (ks.map fun k=>.inl k.1) (ks.map fun k=>.t (k.2.map .str))),.g (.e inc)]:=⟨_,rfl⟩;obtain⟨S',hS'⟩:∃S':CH,S'=O.map (rnO (1 + ·)):=⟨_,rfl⟩;have W:U.length=6:=by rw[Z];rfl
 have hSl:S'.length=O.length:=by rw[hS',qa4]
 -- the six fixed parts
 have a1:=gd (k:=0) (fs:=[]) (e:=eIx (eV 1) (eK (.int 2))) (d:=.t (R.map Rw.d)) (δ:=slH cs ss R bg ks inc) rfl rfl rfl Ω;have a2:=gd (k:=1) (fs:=[.g (.t (R.map Rw.d))]) (e:=eCa 1 F13 (aCn (eV 1) aNl)) (d:=.e (cf 0 R)) (δ:=slH cs ss R bg ks inc) rfl (by show kCa 1 F13 [.g (pgm cs ss R)] (slH cs ss R bg ks inc) _=_;unfold kCa;rw[if_pos ⟨rfl,rfl⟩];exact pA hR) rfl Ω;have a3:=gd (k:=2) (fs:=[.g (.t (R.map Rw.d)),.g (.e (cf 0 R))]) (δ:=slH cs ss R bg ks inc) rfl (uU (R:=R) (bg:=bg) (ks:=ks) (inc:=inc) (cs:=cs) hns Θ) rfl Ω;have a4:=gd (k:=3) (fs:=[.g (.t (R.map Rw.d)),.g (.e (cf 0 R)),.g (.dct (ss.map fun h=>.inr h.1) (ss.map fun h=>.int h.2.1))]) (δ:=slH cs ss R bg ks inc) rfl (uV (R:=R) (bg:=bg) (ks:=ks) (inc:=inc) hcn hs hz) rfl Ω;have a5:=gd (k:=4) (fs:=[.g (.t (R.map Rw.d)),.g (.e (cf 0 R)),.g (.dct (ss.map fun h=>.inr h.1) (ss.map fun h=>.int h.2.1)),.g (.e (((cs++ss).filter fun h=>h.2.2).map fun h=>.str h.1))]) (δ:=slH cs ss R bg ks inc) rfl (uW (R:=R) (bg:=bg) (inc:=inc) (cs:=cs) (ss:=ss) hk) rfl Ω;have a6:=gd (k:=5) (fs:=[.g (.t (R.map Rw.d)),.g (.e (cf 0 R)),.g (.dct (ss.map fun h=>.inr h.1) (ss.map fun h=>.int h.2.1)),.g (.e (((cs++ss).filter fun h=>h.2.2).map fun h=>.str h.1)),.g (.dct (ks.map fun k=>.inl k.1) (ks.map fun k=>.t (k.2.map .str)))]) (e:=eB .v bList.g (aCn (eV 3) aNl)) (d:=.e inc) (δ:=slH cs ss R bg ks inc) rfl rfl rfl Ω;simp only[qh7,ql1]at a1 a2 a3 a4 a5 a6;rw[<- Z]at a6
 -- the store
 have m7:=eZ (F:=F14) (c:=2) (n:=3) (ch:=[.ins 3 U]) (δ:=slH cs ss R bg ks inc) (fs:=aCn (eV 1) (aCn (eIx (eV 2) (eK (.int 0))) aNl)) (ds:=[pgm cs ss R,.t (bg.map .str)]) (aB _) rfl rfl k1 hSR
 have a7:sFl 3 6 (eV 0) (eMk 2 3 F14 (aCn (eV 1) (aCn (eIx (eV 2) (eK (.int 0))) aNl))) (slH cs ss R bg ks inc) [.ins 3 U]=ς (.nx (slH cs ss R bg ks inc) (.ins 3 (U++[.ref 1])::S')):=by unfold sFl;rw[m7,qa0,hS'];simp[eV,lent,cr,CV.sol,W]
 -- the hand
 have m8:=eZ (F:=F15) (c:=0) (n:=1) (ch:=.ins 3 (U++[.ref 1])::S') (δ:=slH cs ss R bg ks inc) (fs:=aNl) (ds:=[]) (a':=[.ins 0 [.ref 1,.g (.bl ξ)],.dK []]) (aB _) rfl rfl rfl Ξ
 have a8:sFl 3 7 (eV 0) (eMk 0 1 F15 aNl) (slH cs ss R bg ks inc) (.ins 3 (U++[.ref 1])::S')=ς (.nx (slH cs ss R bg ks inc) (.ins 3 (U++[.ref 1,.ref (S'.length+1)])::(S'++[.ins 0 [.ref (S'.length+2),.g (.bl ξ)],.dK []]))):=by unfold sFl;rw[m8,qa0];simp[eV,lent,cr,CV.sol,W,rnO,rn,rnP]
 obtain⟨H,hH⟩:∃H:CH,H=S'++[.ins 0 [.ref (S'.length+2),.g (.bl ξ)],.dK []]:=⟨_,rfl⟩;rw[<- hH]at a8;have hHl:H.length=S'.length+2:=by rw[hH];simp
 have a9:sFl 3 8 (eV 0) (eK (.int 0)) (slH cs ss R bg ks inc) (.ins 3 (U++[.ref 1,.ref (S'.length+1)])::H)=ς (.nx (slH cs ss R bg ks inc) (.ins 3 (U++[.ref 1,.ref (S'.length+1),I 0])::H)):=by simp[sFl,eK,eV,lent,cr,CV.sol,W]
 have a10:sFl 3 9 (eV 0) (eK .non) (slH cs ss R bg ks inc) (.ins 3 (U++[.ref 1,.ref (S'.length+1),I 0])::H)=ς (.nx (slH cs ss R bg ks inc) (.ins 3 (U++[.ref 1,.ref (S'.length+1),I 0,.g .non])::H)):=by simp[sFl,eK,eV,lent,cr,CV.sol,W]
 -- the plan
 have emb:∀X L,Em (1 + ·) O (X::(S'++L))->True:=fun _ _ _=>trivial
 have atS:∀(X:CO)(L:CH),At (fun i=>1+τ i) (stC cs ss bg) (X::(S'++L)):=fun X L=>⟨fun i j hi hj e=>k2.inj i j hi hj (by have e:1+τ i=1+τ j:=e;lia),fun {i o} hi=>by have h1:=k2.get hi;show(X::(S'++L))[1+τ i]?=_;rw[zb7,qd2,gL (by rw[hSl];exact ao h1),hS',qa8,h1,qb2,oW]⟩
 obtain⟨X,hX⟩:∃X:CO,X=.ins 3 (U++[.ref 1,.ref (S'.length+1),I 0,.g .non]):=⟨_,rfl⟩;have atH:At (fun i=>1+τ i) (stC cs ss bg) (X::H):=by rw[hH];exact atS _ _
 have cl0':∀as:η Dt,(CV.ref 0::as.map .g).all (clV (stC cs ss bg).length)=θ:=fun as=>by simp[clV,cU]
 have pf:F20 [.ref 1] (X::H)=ς (I 0,X::H):=by have:=atH.pure (F:=F20) (args:=[.ref 0]) (aB _) uQ (cl0' []) yt;simp only[rnA,qa3,qe0,rn,k3]at this;exact this
 have pp:F18 [.ref 1,I 0] (X::H)=ς (.g (.t (h4++[.e (bg.map fun s=>Bx.d (s,0)),.e []])),X::H):=by have:=atH.pure (F:=F18) (args:=[.ref 0,I 0]) (aB _) uQ (cl0' [.int 0]) yr;simp only[rnA,qa3,qe0,rn,k3]at this;exact this
 have h1:∃f,(X::H)[1]?=ς (.ins 2 f):=by have:=atH.get (i:=0) rfl;rw[k3]at this;exact⟨_,this⟩
 obtain⟨fst,h1⟩:=h1;have h0:(X::H)[0]?=ς (.ins 3 (U++[.ref 1,.ref (S'.length+1),I 0,.g .non])):=by rw[hX];rfl
 have h06:(U++[.ref 1,.ref (S'.length+1),I 0,.g .non])[6]?=ς (.ref 1):=by rw[Z];rfl
 obtain⟨Q,hQ⟩:∃Q:CH,Q=X::H:=⟨_,rfl⟩;rw[<- hQ]at h0 h1 pf pp
 have m21':F21 [.ref 0] Q=ς (I 0,Q):=by simp! only[q21];simp[lent,h0,h06,h1,CV.old,pf,CV.sol]
 have m19':F19 [.ref 0,I 0] Q=ς (.g (.t (h4++[.e (bg.map fun s=>Bx.d (s,0)),.e []])),Q):=by simp! only[q19];simp[lent,h0,h06,h1,CV.old,pp,CV.sol]
 have m17:=jF (ch:=X::H) (a:=.int 0) (b:=.int 0) (c:=.int 0) (d:=.int 0) (e:=.e (bg.map fun s=>Bx.d (s,0))) (ts:=[]) (by rw[qa7];decide);have hXl:(X::H).length=S'.length+3:=by simp[hHl]
 rw[hXl]at m17;have m17':F17 [.g (.t (h4++[.e (bg.map fun s=>Bx.d (s,0)),.e []]))] (X::H)=ς (.ref (S'.length+3),X::H++[dl [Sm.d .wake]]):=m17
 have a11:sFl 3 10 (eV 0) (eCa 1 F17 (aCn (eMe 3 2 F19 (eV 0) (aCn (eMe 3 1 F21 (eV 0) aNl) aNl)) aNl)) (slH cs ss R bg ks inc) (X::H)=ς (.nx (slH cs ss R bg ks inc) (.ins 3 (U++[.ref 1,.ref (S'.length+1),I 0,.g .non,.ref (S'.length+3)])::(H++[dl [Sm.d .wake]]))):=by
  have he:eCa 1 F17 (aCn (eMe 3 2 F19 (eV 0) (aCn (eMe 3 1 F21 (eV 0) aNl) aNl)) aNl) (slH cs ss R bg ks inc) (X::H)=ς (.ref (S'.length+3),X::H++[dl [Sm.d .wake]]):=by rw[<- hQ]at m17' ⊢;simp only[eCa,kCa,aCn,eMe,aNl,eV];simp[lent,h0,CV.old,m21',m19',m17']
  unfold sFl;rw[he,qa0,hX];simp[eV,lent,cr,CV.sol,W]
 refine⟨_,sgH τ O.length,by rw[q22];rw[hX]at a11;exact nH (ae a1 (ae a2 (ae a3 (ae a4 (ae a5 (ae a6 (ae a7 (ae a8 (ae a9 (ae a10 (ae a11 rfl))))))))))),?_,rfl⟩;have hBH:H++[dl [Sm.d .wake]]=S'++[.ins 0 [.ref (O.length+2),.g (.bl ξ)],.dK [],dl [Sm.d .wake]]:=by rw[hH,hSl];simp
 rw[hBH,hSl];have A:=atS (.ins 3 (U++[.ref 1,.ref (O.length+1),I 0,.g .non,.ref (O.length+3)])) [.ins 0 [.ref (O.length+2),.g (.bl ξ)],.dK [],dl [Sm.d .wake]];obtain⟨B,hB⟩:∃B:CH,B=.ins 3 (U++[.ref 1,.ref (O.length+1),I 0,.g .non,.ref (O.length+3)])::(S'++[.ins 0 [.ref (O.length+2),.g (.bl ξ)],.dK [],dl [Sm.d .wake]]):=⟨_,rfl⟩;rw[<- hB]at A ⊢
 have tlB:∀j,B[O.length+1+j]?=([.ins 0 [.ref (O.length+2),.g (.bl ξ)],.dK [],dl [Sm.d .wake]]:CH)[j]?:=fun j=>by rw[hB,show O.length+1+j=O.length+j+1 by lia,qd2,<- hSl];exact uR
 have hr:rnP (sgH τ O.length) (aa 13 (shC cs++shS ss))=rnP (fun i=>1+τ i) (aa 9 (shC cs++shS ss)):=by
  have:∀{sh:Sh}{a b:Nat},(∀k,sgH τ O.length (a+13+k)=1+τ (a+9+k))->True:=fun _=>trivial
  have g:∀(sh:Sh)(a:Nat),rnP (sgH τ O.length) (aa (a+13) sh)=rnP (fun i=>1+τ i) (aa (a+9) sh):=fun sh=>by
   induction sh with
   |nil=>intro a;rfl
   |cons p r ih=>intro a;have:=ih (a+1);rw[show a+1+13=a+13+1 by lia,show a+1+9=a+9+1 by lia]at this;simp only[rnP,aa,qa3,rn]at this ⊢;rw[this];rfl
  exact g _ 0
 have gt:=fun k o h=>A.get (i:=k) (o:=o) h
 refine jH (fun i j hi hj e=>?_) ?_ (gt 0 _ rfl) ?_ ?_ ?_ (gt 2 _ rfl) (gt 3 _ rfl) (gt 4 _ rfl) ?_ ?_ (gt 6 _ rfl) (gt 7 _ rfl) (gt 8 _ rfl) fun i o hi=>?_
 .have hN:(aq ψ (tlC cs++tlS ss)).length=cs.length+ss.length:=by simp[aq,tlC,tlS]
  rw[hN]at hi hj;have lt:∀k,k<cs.length+ss.length+9->τ k<O.length:=fun k hk=>k2.lt (by rw[cU];exact hk)
  rcases uX (τ:=τ) (m:=O.length) hi with hi'|⟨a,ha,rfl,ea⟩<;>rcases uX (τ:=τ) (m:=O.length) hj with hj'|⟨b,hb',rfl,eb⟩
  .rcases hi' with ⟨rfl,x⟩|⟨rfl,x⟩|⟨rfl,x⟩|⟨rfl,x⟩<;>rcases hj' with ⟨rfl,y⟩|⟨rfl,y⟩|⟨rfl,y⟩|⟨rfl,y⟩<;>first|rfl|(rw[x,y]at e;lia)
  .have:=lt b hb';rw[eb]at e;rcases hi' with ⟨rfl,x⟩|⟨rfl,x⟩|⟨rfl,x⟩|⟨rfl,x⟩<;>(rw[x]at e;lia)
  .have:=lt a ha;rw[ea]at e;rcases hj' with ⟨rfl,x⟩|⟨rfl,x⟩|⟨rfl,x⟩|⟨rfl,x⟩<;>(rw[x]at e;lia)
  .rw[ea,eb]at e;rw[k2.inj a b (by rw[cU];exact ha) (by rw[cU];exact hb') Θ]
 .rw[hB,Z];simp only[sgH,qh8,hO,rnO,fx,qa3,qe0,rn,lvO,k3,ql1,qh7]
 .exact tlB 0
 .exact tlB 2
 .have:=gt 1 _ rfl;simp only[rnO]at this ⊢;rw[show off ψ=13 from rfl,hr];exact this
 .exact tlB 1
 .have:=gt 5 _ rfl;rw[cV]at this;exact this
 .have hi:(tlC cs++tlS ss)[i]?=ς o:=hi;have:=gt (i+9) o hi;obtain⟨L,rfl⟩:=uP (qa5 hi);rw[cV]at this ⊢;exact this
end
def RwP(cs ss:η Hd):Rw->Prop
 |.op _ _ a b=>bq a/\bq b
 |.load _ n=>n∈cs.map (·.1)
 |.store n a=>n∈cs.map (·.1)/\bq a
 |.take _ n a=>n∈ss.map (·.1)/\bq a
 |.lay n a b=>n∈ss.map (·.1)/\bq a/\bq b
 |.copy _ a|.say a|.fin a=>bq a
 |.hear _|.ife _ _|.go _=>True
structure Pr(cs ss:List Hd)(R:List Rw)(bg:List Str)(ks:List Kp')(inc:List Dt):Prop where
 c0:cs≠[]
 s0:ss≠[]
 len:cs.length+ss.length<=100
 nd:((cs++ss).map (·.1)).Nodup
 cv:∀h∈cs,Vi (.int h.2.1)
 sv:∀h∈ss,0<h.2.1/\h.2.1<=1000
 rl:0<R.length/\R.length<=1000
 row:∀r∈R,RwP cs ss r
 lead:∀(i:Nat) r p,R[i]?=ς r->iG i r p->∃j:Nat,p=j/\j<R.length
 bn:bg.Nodup/\bg.length<=6
 kn:(ks.map (·.1)).Nodup
 kb:∀k∈ks,k.2.Nodup/\k.2.length<=6
 inc:∀d∈inc,Vi d
section
variable{cs ss:η Hd}{R:η Rw}{bg:η Str}{ks:η Kp'}{inc:η Dt}
theorem nS{α:Type}{l:η α}{a:α}(h:a∈l):∃k:Nat,l[k]?=ς a:=qs9.mp h
theorem C1{n:Str}(h:n∈cs.map (·.1)):Vp (shC cs++shS ss) n 0:=by
 obtain⟨a,U,rfl⟩:=qc8.mp h;obtain⟨k,O⟩:=nS U;refine⟨k,1,?_,Θ⟩;have:(shC cs)[k]?=ς (a.1,1):=by simp[shC,O]
 rw[gL (ao this)];exact this
theorem vp_s(hs:∀h∈ss,0<h.2.1/\h.2.1<=1000){n:Str}(h:n∈ss.map (·.1)):Vp (shC cs++shS ss) n 0:=by obtain⟨a,O,rfl⟩:=qc8.mp h;obtain⟨k,U⟩:=nS O;have:=hs a O;refine⟨(shC cs).length+k,a.2.1.toNat,?_,Θ⟩;rw[gR Θ,qf8];simp[shS,U]
theorem uZ:∀{ss:η Hd}{k:Nat}{a:Hd},(ss.map (·.1)).Nodup->ss[k]?=ς a->ay (ss.map fun h=>(ql9 h.1:Key)) (ss.map fun h=>.int h.2.1) (ql9 a.1)=ς (.int a.2.1)
 |[],_,_,_,h=>by simp at h
 |b::ss,0,a,_,h=>by cases h;simp[ay]
 |b::ss,k+1,a,W,h=>by
  have O:=qd6.mp W;have Z:a.1∈ss.map (·.1):=qc8.mpr ⟨a,qa5 h,rfl⟩;have:¬ b.1=a.1:=fun e=>O.1 (by show b.1∈_;rw[e];exact Z)
  have U:=uZ (ss:=ss) (k:=k) O.2 (by simpa using h);simp only[qa3,ay,ql9.injEq,this,if_false];exact U
theorem sh_s(P:Pr cs ss R bg ks inc){n:Str}(h:n∈ss.map (·.1)):CM (fx cs ss R ks inc) (shC cs++shS ss) n:=by
 obtain⟨a,U,rfl⟩:=qc8.mp h;obtain⟨k,O⟩:=nS U;have W:=P.sv a U;refine⟨(shC cs).length+k,a.2.1.toNat,?_,Θ,?_⟩
 .rw[gR Θ,qf8];simp[shS,O]
 .have:=uZ (by have:=P.nd;rw[qd0,qe2]at this;exact this.2.1) O;rw[show((a.2.1.toNat:Nat):Int)=a.2.1 by lia];exact this
theorem Pr.xr(P:Pr cs ss R bg ks inc):XR (fx cs ss R ks inc) R (shC cs++shS ss):=by
 refine⟨⟨?_,fun d O=>?_,P.inc⟩,rfl,fun i r h=>?_,fun r Z=>?_,P.lead,fun k d h=>?_⟩
 .have:(shC cs++shS ss).map (·.1)=(cs++ss).map (·.1):=by simp[shC,shS,qb4]
  rw[this];exact P.nd
 .simp only[fx,qc8]at O;obtain⟨h,_,rfl⟩:=O;exact⟨_,rfl⟩
 .have:=px (k:=0) h;rw[qw3]at this;exact this
 .have:=P.row r Z;cases r with
  |op x sg a b=>exact this
  |load x n=>exact C1 this
  |store n a=>exact⟨C1 this.1,this.2⟩
  |take x n a=>exact⟨sh_s P this.1,this.2⟩
  |lay n a b=>exact⟨sh_s P this.1,this.2⟩
  |copy x a=>exact this
  |say a=>exact this
  |fin a=>exact this
  |hear x=>trivial
  |ife x t=>trivial
  |go t=>trivial
 .have:∀{ks:η Kp'},ay (ks.map fun k=>(qp0 k.1:Key)) (ks.map fun k=>.t (k.2.map .str)) k=ς d->∃q∈ks,d=.t (q.2.map .str):=fun {ks}=>by
   induction ks with
   |nil=>intro h;cases h
   |cons q ks W=>
    intro h;simp only[qa3,ay]at h;split at h
    .cases h;exact⟨q,.head _,rfl⟩
    .obtain⟨q',h1,h2⟩:=W h;exact⟨q',.tail _ h1,h2⟩
  obtain⟨q,U,rfl⟩:=this h;exact⟨q.2,rfl,(P.kb q U).1,(P.kb q U).2⟩
def st0(cs ss:η Hd)(R:η Rw)(bg:η Str)(ks:η Kp')(inc:η Dt):St:=(⟨fx cs ss R ks inc,[Sm.d .wake],h4,h4,bg.map fun s=>Bx.d (s,0),[],[],[],0,.non,[],ξ,0⟩,ψ,tlC cs++tlS ss)
theorem Pr.g0(P:Pr cs ss R bg ks inc):G (fx cs ss R ks inc) R (shC cs++shS ss) (10,st0 cs ss R bg ks inc):=by
 have z:Vi (.int 0):=⟨0,rfl,Θ,Θ⟩;have U:∃(i:Nat)(b c d:Int),h4=[.int i,.int b,.int c,.int d]/\i<R.length/\0<=c:=⟨0,0,0,0,rfl,P.rl.1,Θ⟩;refine⟨[.wake],bg.map fun s=>(s,0),[],⟨rfl,rfl,⟨rfl,rfl⟩,Ξ,⟨U,?_,?_,fun b hb=>?_,?_,[],rfl,Ξ,Ξ⟩,⟨U,rfl,Ξ,Ξ,Ξ,[],rfl,Ξ,Ξ⟩,.inl rfl,.inl rfl,⟨by simp[st0],by simp[st0]⟩,z,fun l e=>(by cases e),?_⟩⟩
 .simp[st0,qb4]
 .simpa[qb4] using P.bn.1
 .obtain⟨s,_,rfl⟩:=qc8.mp hb;exact z
 .simp;have:=P.bn.2;lia
 .refine⟨by simp[st0,tlC,tlS,shC,shS],fun {k n m} O=>?_⟩;rcases qj9 k (shC cs).length with hl|hl
  .rw[gL hl]at O;simp only[shC,qa8]at O;obtain⟨a,h1,h2⟩:=mS O;cases h2;have:(tlC cs)[k]?=ς (dl [.int a.2.1]):=by simp[tlC,h1]
   exact⟨[.int a.2.1],by show(tlC cs++tlS ss)[k]?=_;rw[qg3 (ao this)];exact this,rfl,by simpa using P.cv a (qa5 h1)⟩
  .rw[gR hl]at O;simp only[shS,qa8]at O;obtain⟨a,h1,h2⟩:=mS O;cases h2;have W:(shC cs).length=(tlC cs).length:=by simp[shC,tlC]
   refine⟨qb1 a.2.1.toNat (.int 0),?_,Ξ,fun d U=>?_⟩
   .show(tlC cs++tlS ss)[k]?=_;rw[gR Θ,<- W];simp[tlS,h1]
   .rw[qw1]at U;rw[U.2];exact z
theorem Pr.house(P:Pr cs ss R bg ks inc):∃B σ,F22 [.ref 0,.g (pgm cs ss R),.g (cod bg ks),.g (.e inc)] [.ins 3 []]=ς (.g .non,B)/\At σ (c (shC cs++shS ss) (st0 cs ss R bg ks inc)) B/\σ 0=0:=uY P.c0 P.s0 P.len (by have:=P.bn.2;lia) P.rl.2 P.nd (fun h O=>by have:=P.sv h O;lia) P.kn
end
structure PN where
 x:Fx
 out:List Dt
 bx:List (Key×Dt)
 ce:List (Key×Dt)
 pl:Int
 he:Int
 dn:Int
 res:Dt
def pn(sh:Sh)(S:PN)(tl:CH):CH:=.ins 4 [.g (.t S.x.rows),.g (.e S.x.onw),.g (.e S.x.inc),.ref 1,.ref 2,.ref 3,.ref 4,I S.pl,I S.he,I S.dn,.g S.res]::dl S.out::.dK (dp S.bx)::.dK (dp S.ce)::.dK (aa 5 sh)::tl
section
variable{sh:Sh}{S:PN}{tl:CH}
theorem aR:(pn sh S tl)[0]?=ς (.ins 4 [.g (.t S.x.rows),.g (.e S.x.onw),.g (.e S.x.inc),.ref 1,.ref 2,.ref 3,.ref 4,I S.pl,I S.he,I S.dn,.g S.res]):=rfl
theorem pn_1:(pn sh S tl)[1]?=ς (.e (S.out.map .g)):=rfl
theorem pn_2:(pn sh S tl)[2]?=ς (.dK (dp S.bx)):=rfl
theorem pn_3:(pn sh S tl)[3]?=ς (.dK (dp S.ce)):=rfl
theorem pn_4:(pn sh S tl)[4]?=ς (.dK (aa 5 sh)):=rfl
theorem pn_t{k:Nat}:(pn sh S tl)[k+5]?=tl[k]?:=rfl
structure PO(x:Fx)(R:List Rw)(cn:List Str)(sh:Sh)(N:Nat)(S:PN)(tl:CH):Prop where
 hx:S.x=x
 on:S.out.length<=N
 bx:∀p∈S.bx,Vi p.2
 bn:S.bx.length<=N
 ce:∀p∈S.ce,Vi p.2
 cl:S.ce.length<=N
 ci:∀n∈cn,(ay (S.ce.map (·.1)) (S.ce.map (·.2)) (ql9 n)).isSome=θ
 pl:∃i:Nat,S.pl=i/\i<R.length
 he:0<=S.he
 rs:S.res=.non∨∃i,S.res=.int i
 tl:TlOk tl sh
def RwQ(cn:η Str)(sh:Sh):Rw->Prop
 |.op _ _ a b=>bq a/\bq b
 |.load _ n=>n∈cn
 |.store n a=>n∈cn/\bq a
 |.take _ n a=>Vp sh n 0/\bq a
 |.lay n a b=>Vp sh n 0/\bq a/\bq b
 |.copy _ a|.say a|.fin a=>bq a
 |.hear _|.ife _ _|.go _=>True
structure XQ(x:Fx)(R:List Rw)(cn:List Str)(sh:Sh):Prop where
 nd:(sh.map (·.1)).Nodup
 inc:∀d∈x.inc,Vi d
 rows:x.rows=R.map Rw.d
 onw:∀(i:Nat) r,R[i]?=ς r->x.onw[i]?=ς (aM i r)
 rok:∀r∈R,RwQ cn sh r
 lead:∀(i:Nat) r p,R[i]?=ς r->iG i r p->∃j:Nat,p=j/\j<R.length
theorem mo{κ:Type}[DecidableEq κ]{k k':κ}{d:Dt}:∀{b:η (κ×Dt)},(ay (b.map (·.1)) (b.map (·.2)) k').isSome=θ->(ay ((bY b k d).map (·.1)) ((bY b k d).map (·.2)) k').isSome=θ
 |[],h=>by cases h
 |p::b,h=>by
  unfold bY;simp only[qa3,ay]at h;split
  .simp only[qa3,ay];split at h
   .rename_i e;rw[if_pos e];rfl
   .rename_i e;rw[if_neg e];exact h
  .simp only[qa3,ay];split at h
   .rename_i e;rw[if_pos e];rfl
   .rename_i e;rw[if_neg e];exact mo h
variable{x:Fx}{R:η Rw}{cn:η Str}{N:Nat}
theorem kW(hb:∀p∈S.bx,Vi p.2)(a:Key)(W:bq a):∃v,Vi (.int v)/\F71 [.ref 0,.g (ak a)] (pn sh S tl)=ς (I v,pn sh S tl):=by
 cases a with
 |inl i=>
  have:Vi (.int i):=by rcases W with h|⟨s,h⟩;exact h;cases h
  refine⟨i,this,?_⟩;simp! only[q71];simp! [ak]
 |inr s=>
  have O:∃v,Vi (.int v)/\((ay (S.bx.map (·.1)) (S.bx.map (·.2)) (.inr s)).map .g).getD (I 0)=I v:=by
   cases q:ay (S.bx.map (·.1)) (S.bx.map (·.2)) (ql9 s)with
   |none=>exact⟨0,⟨0,rfl,Θ,Θ⟩,rfl⟩
   |some d=>obtain⟨i,h1,h2⟩:=hb _ (bo q);cases h1;exact⟨i,⟨i,rfl,h2⟩,rfl⟩
  obtain⟨v,h1,h2⟩:=O
  have U:F70 [.ref 0,.g (.str s)] (pn sh S tl)=ς (I v,pn sh S tl):=by simp! only[q70];simp! [aR,pn_2,fj,h2]
  refine⟨v,h1,?_⟩;simp! only[q71];simp! [ak,aR,U]
theorem yu(hi:∀d∈S.x.inc,Vi d)(W:0<=S.he):∃v,Vi (.int v)/\F72 [.ref 0] (pn sh S tl)=ς (I v,pn sh {S with he:=S.he+1} tl):=by
 have U:(pn sh S tl).set 0 (.ins 4 [.g (.t S.x.rows),.g (.e S.x.onw),.g (.e S.x.inc),.ref 1,.ref 2,.ref 3,.ref 4,I S.pl,I (S.he+1),I S.dn,.g S.res])=pn sh {S with he:=S.he+1} tl:=rfl;by_cases h:S.he<S.x.inc.length
 .obtain⟨p,hp⟩:=qf9 W;have O:p<S.x.inc.length:=by lia
  obtain⟨i,h1,h2⟩:=hi S.x.inc[p] (ql2 O);refine⟨i,⟨i,rfl,h2⟩,?_⟩;have Z:ixD (.e S.x.inc) (.int S.he)=ς (.int i):=by rw[hp];simp[ixD,az,gIx,atI,gM O,O,h1]
  simp! only[q72];dsimp! [aR,U,h,Z]
 .refine⟨0,⟨0,rfl,Θ,Θ⟩,?_⟩;simp! only[q72];simp! [aR,U,h]
theorem vb(hn:(sh.map (·.1)).Nodup)(Z:TlOk tl sh){n:Str}(hp:Vp sh n 0)(v:Int):∃(k:Nat)(L:η Dt)(q m:Nat),sh[k]?=ς (n,m)/\lkC (aa 5 sh) (.inr n)=ς (.ref (k+5))/\tl[k]?=ς (dl L)/\L.length=m/\(∀d∈L,Vi d)/\q<L.length/\v%(L.length:Int)=q/\0<L.length:=by
 obtain⟨k,m,h1,h2⟩:=hp;obtain⟨L,U,h4,W⟩:=Z.at_ h1;have O:(0:Int)<L.length:=by lia
 have e1:=qh9 v (show(L.length:Int)≠0 by lia);have e2:=qf3 v O;exact⟨k,L,(v%(L.length:Int)).toNat,m,h1,dH hn h1,U,h4,W,Θ,Θ,Θ⟩
theorem vc(r:Rw)(hs:zG r=θ)(X:XQ x R cn sh)(O:RwQ cn sh r)(o:PO x R cn sh N S tl):∃v h',Vi (.int v)/\0<=h'/\F73 [.ref 0,.g r.d] (pn sh S tl)=ς (I v,pn sh {S with he:=h'} tl):=by
 have same:pn sh {S with he:=S.he} tl=pn sh S tl:=rfl;have W:∀a,bq a->∃v,Vi (.int v)/\F71 [.ref 0,.g (ak a)] (pn sh S tl)=ς (I v,pn sh S tl):=fun a ha=>kW o.bx a ha
 cases r<;>first|(cases hs;done)|skip
 .rename_i x sg a b;obtain⟨v,U,h1⟩:=W a O.1;obtain⟨w,hw,h2⟩:=W b O.2;obtain⟨z,hz,h3⟩:=lZ (sg:=sg) (a:=v) (b:=w) (ch:=pn sh S tl) hw;refine⟨z,S.he,hz,o.he,?_⟩;rw[same];simp! only[q73,Rw.d];simp! [aR,h1,h2,h3]
 .rename_i y n;obtain⟨d,hd⟩:=qd5.mp (o.ci n O);obtain⟨i,h1,h2⟩:=o.ce _ (bo hd);cases h1;refine⟨i,S.he,⟨i,rfl,h2⟩,o.he,?_⟩;rw[same];simp! only[q73,Rw.d];simp! [aR,pn_3,fj,hd]
 .rename_i y n a;obtain⟨v,U,h1⟩:=W a O.2;obtain⟨k,L,q,m,g1,g2,g3,g4,g5,g6,g7,g8⟩:=vb X.nd o.tl O.1 v;obtain⟨i,e1,Z⟩:=g5 L[q] (ql2 g6);refine⟨i,S.he,⟨i,rfl,Z⟩,o.he,?_⟩;rw[same];simp! only[q73,Rw.d];simp! [aR,pn_4,pn_t,g2,g3,h1,oMod,aA,g7,g8,g6,e1]
 .rename_i y a;obtain⟨v,U,h1⟩:=W a O;refine⟨v,S.he,U,o.he,?_⟩;rw[same];simp! only[q73,Rw.d];simp! [aR,h1]
 .obtain⟨v,U,h1⟩:=yu (sh:=sh) (S:=S) (tl:=tl) (by rw[o.hx];exact X.inc) o.he;refine⟨v,S.he+1,U,by have:=o.he;lia,?_⟩;simp! only[q73,Rw.d];simp! [aR,h1]
theorem prow(r:Rw)(hs:∀a,r≠.fin a)(X:XQ x R cn sh)(hr:RwQ cn sh r)(o:PO x R cn sh N S tl)(hN:N<qa9):∃S' tl',F74 [.ref 0,.g r.d] (pn sh S tl)=ς (.g .non,pn sh S' tl')/\PO x R cn sh (N+1) S' tl'/\S'.pl=S.pl/\S'.res=S.res:=by
 have up:PO x R cn sh (N+1) S tl:=⟨o.hx,qd9 o.on,o.bx,qd9 o.bn,o.ce,qd9 o.cl,o.ci,o.pl,o.he,o.rs,o.tl⟩;have wa:∀a,bq a->∃v,Vi (.int v)/\F71 [.ref 0,.g (ak a)] (pn sh S tl)=ς (I v,pn sh S tl):=fun a ha=>kW o.bx a ha
 have W:(dp S.bx).length<16777216:=by rw[iB,<- qa7];exact qe4 o.bn hN
 have hcl:(dp S.ce).length<16777216:=by rw[iB,<- qa7];exact qe4 o.cl hN
 have hol:S.out.length<16777216:=by rw[<- qa7];exact qe4 o.on hN
 have O:∀(v h':Int)(y:Str),Vi (.int v)->0<=h'->PO x R cn sh (N+1) {S with he:=h',bx:=bY S.bx (.inr y) (.int v)} tl:=fun v h' y U hh=>⟨up.hx,up.on,fun p hp=>by rcases dF hp with rfl|hp;exact U;exact o.bx p hp,qd1 dG (qn3 o.bn),up.ce,up.cl,up.ci,up.pl,hh,up.rs,up.tl⟩
 have Z:∀(h':Int)(b:η (Key×Dt)),(pn sh {S with he:=h'} tl).set 2 (.dK (dp b))=pn sh {S with he:=h',bx:=b} tl:=fun _ _=>rfl
 have p2:∀h':Int,(pn sh {S with he:=h'} tl)[2]?=ς (.dK (dp S.bx)):=fun _=>rfl
 have p0:∀h':Int,(pn sh {S with he:=h'} tl)[0]?=ς (.ins 4 [.g (.t S.x.rows),.g (.e S.x.onw),.g (.e S.x.inc),.ref 1,.ref 2,.ref 3,.ref 4,I S.pl,I h',I S.dn,.g S.res]):=fun _=>rfl
 cases r with
 |op y sg a b=>obtain⟨v,h',U,hh,h1⟩:=vc (.op y sg a b) rfl X hr o;refine⟨_,tl,?_,O v h' y U hh,rfl,rfl⟩;simp only[Rw.d]at h1;simp! only[q74,Rw.d];simp! [aR,h1,p0,p2,W,bz,Z]
 |load y n=>obtain⟨v,h',U,hh,h1⟩:=vc (.load y n) rfl X hr o;refine⟨_,tl,?_,O v h' y U hh,rfl,rfl⟩;simp only[Rw.d]at h1;simp! only[q74,Rw.d];simp! [aR,h1,p0,p2,W,bz,Z]
 |take y n a=>obtain⟨v,h',U,hh,h1⟩:=vc (.take y n a) rfl X hr o;refine⟨_,tl,?_,O v h' y U hh,rfl,rfl⟩;simp only[Rw.d]at h1;simp! only[q74,Rw.d];simp! [aR,h1,p0,p2,W,bz,Z]
 |copy y a=>obtain⟨v,h',U,hh,h1⟩:=vc (.copy y a) rfl X hr o;refine⟨_,tl,?_,O v h' y U hh,rfl,rfl⟩;simp only[Rw.d]at h1;simp! only[q74,Rw.d];simp! [aR,h1,p0,p2,W,bz,Z]
 |hear y=>obtain⟨v,h',U,hh,h1⟩:=vc (.hear y) rfl X hr o;refine⟨_,tl,?_,O v h' y U hh,rfl,rfl⟩;simp only[Rw.d]at h1;simp! only[q74,Rw.d];simp! [aR,h1,p0,p2,W,bz,Z]
 |store n a=>
  obtain⟨v,U,h1⟩:=wa a hr.2;have e3:(pn sh S tl).set 3 (.dK (dp (bY S.ce (.inr n) (.int v))))=pn sh {S with ce:=bY S.ce (.inr n) (.int v)} tl:=rfl;refine⟨{S with ce:=bY S.ce (.inr n) (.int v)},tl,?_,⟨up.hx,up.on,up.bx,up.bn,fun p hp=>?_,qd1 dG (qn3 o.cl),fun m hm=>mo (o.ci m hm),up.pl,up.he,up.rs,up.tl⟩,rfl,rfl⟩
  .simp! only[q74,Rw.d];simp! [aR,pn_3,h1,hcl,bz,e3]
  .rcases dF hp with rfl|hp
   .exact U
   .exact o.ce p hp
 |lay n a b=>
  obtain⟨w,hw,h2⟩:=wa b hr.2.2;obtain⟨v,U,h1⟩:=wa a hr.2.1;obtain⟨k,L,q,m,g1,g2,g3,g4,g5,g6,g7,g8⟩:=vb X.nd o.tl hr.1 v;refine⟨S,tl.set k (dl (L.set q (.int w))),?_,⟨up.hx,up.on,up.bx,up.bn,up.ce,up.cl,up.ci,up.pl,up.he,up.rs,o.tl.set g1 (by simp[g4]) fun d hd=>?_⟩,rfl,rfl⟩
  .simp! only[q74,Rw.d];simp! [aR,pn_4,pn_t,g2,g3,h1,h2,oMod,aA,g7,g8,g6];rw[<- qr1];rfl
  .rcases qp6 hd with hd|rfl
   .exact g5 d hd
   .exact hw
 |say a=>obtain⟨v,U,h1⟩:=wa a hr;have e1:(pn sh S tl).set 1 (.e ((S.out++[Dt.int v]).map .g))=pn sh {S with out:=S.out++[.int v]} tl:=rfl;refine⟨{S with out:=S.out++[.int v]},tl,?_,⟨up.hx,by have:=o.on;simp;lia,up.bx,up.bn,up.ce,up.cl,up.ci,up.pl,up.he,up.rs,up.tl⟩,rfl,rfl⟩;simp only[qd0,qa3,qe0]at e1;simp! only[q74,Rw.d];simp! [aR,pn_1,h1,hol,e1]
 |ife y t=>refine⟨S,tl,?_,up,rfl,rfl⟩;simp! only[q74,Rw.d];simp! [aR]
 |go t=>refine⟨S,tl,?_,up,rfl,rfl⟩;simp! only[q74,Rw.d];simp! [aR]
 |fin a=>exact absurd rfl (hs a)
end
section
variable{sh:Sh}{S:PN}{tl:CH}{x:Fx}{R:η Rw}{cn:η Str}{N:Nat}
theorem yv(r:Rw)(hs:∀a,r≠.fin a)(hi:S.pl=i)(W:S.x.onw[i]?=ς (aM i r))(hb:∀p∈S.bx,Vi p.2):∃p,iG i r p/\F75 [.ref 0,.g r.d] (pn sh S tl)=ς (I p,pn sh S tl):=by
 have O:=(dI W).1;have zero:∀{a:Dt}{L:η Dt},ixD (.t (a::L)) (.int 0)=ς a:=fun {a L}=>by simp[ixD,az,gIx,atI,ixN]
 have one:∀{a b:Dt}{L:η Dt},ixD (.t (a::b::L)) (.int 1)=ς b:=fun {a b L}=>by simp[ixD,az,gIx,atI,ixN,show(1:Int)<(L.length:Int)+1+1 by lia]
 cases r with
 |ife y t=>
  obtain⟨v,hv,h1⟩:=kW (sh:=sh) (tl:=tl) hb (.inr y) (.inr ⟨y,rfl⟩);simp only[ak]at h1;by_cases U:v=0
  .refine⟨i+1,.inr rfl,?_⟩;simp only[aM]at O;simp! only[q75,Rw.d];dsimp! [aR,hi,O,zero,one,h1,U]
  .refine⟨t,.inl rfl,?_⟩;simp only[aM]at O;simp! only[q75,Rw.d];dsimp! [aR,hi,O,zero,one,h1,U]
 |go t=>refine⟨t,rfl,?_⟩;simp only[aM]at O;simp! only[q75,Rw.d];dsimp! [aR,hi,O,zero]
 |fin a=>exact absurd rfl (hs a)
 |op y Z a b=>refine⟨i+1,rfl,?_⟩;simp only[aM]at O;simp! only[q75,Rw.d];dsimp! [aR,hi,O,zero]
 |load y n=>refine⟨i+1,rfl,?_⟩;simp only[aM]at O;simp! only[q75,Rw.d];dsimp! [aR,hi,O,zero]
 |store n a=>refine⟨i+1,rfl,?_⟩;simp only[aM]at O;simp! only[q75,Rw.d];dsimp! [aR,hi,O,zero]
 |take y n a=>refine⟨i+1,rfl,?_⟩;simp only[aM]at O;simp! only[q75,Rw.d];dsimp! [aR,hi,O,zero]
 |lay n a b=>refine⟨i+1,rfl,?_⟩;simp only[aM]at O;simp! only[q75,Rw.d];dsimp! [aR,hi,O,zero]
 |copy y a=>refine⟨i+1,rfl,?_⟩;simp only[aM]at O;simp! only[q75,Rw.d];dsimp! [aR,hi,O,zero]
 |hear y=>refine⟨i+1,rfl,?_⟩;simp only[aM]at O;simp! only[q75,Rw.d];dsimp! [aR,hi,O,zero]
 |say a=>refine⟨i+1,rfl,?_⟩;simp only[aM]at O;simp! only[q75,Rw.d];dsimp! [aR,hi,O,zero]
theorem C3(o:PO x R cn sh N S tl):∃e,F69 [.ref 0] (pn sh S tl)=ς (.g (.bl e),pn sh S tl):=by
 rcases o.rs with O|⟨i,O⟩
 .exact⟨ξ,by simp! only[q69];simp! [aR,O,cw]⟩
 .exact⟨θ,by simp! only[q69];simp! [aR,O,cw]⟩
theorem Fi(X:XQ x R cn sh)(o:PO x R cn sh N S tl)(hN:N<1000000):∃S' tl',F76 [.ref 0] (pn sh S tl)=ς (.g .non,pn sh S' tl')/\PO x R cn sh (N+1) S' tl':=by
 have up:PO x R cn sh (N+1) S tl:=⟨o.hx,qd9 o.on,o.bx,qd9 o.bn,o.ce,qd9 o.cl,o.ci,o.pl,o.he,o.rs,o.tl⟩;rcases o.rs with hr|⟨i,hr⟩
 .have he:F69 [.ref 0] (pn sh S tl)=ς (.g (.bl ξ),pn sh S tl):=by simp! only[q69];simp! [aR,hr,cw]
  obtain⟨i,hi,hlt⟩:=o.pl;have W:R[i]?=ς R[i]:=gQ hlt;generalize R[i]=r at W
  have U:ixD (.t S.x.rows) (.int S.pl)=ς r.d:=by rw[hi,o.hx,X.rows];exact(dI (by rw[qa8,W];rfl)).2
  have hro:=X.rok r (qa5 W);have o1:PO x R cn sh N {S with dn:=S.dn+1} tl:=⟨o.hx,o.on,o.bx,o.bn,o.ce,o.cl,o.ci,o.pl,o.he,o.rs,o.tl⟩;have e0:(pn sh S tl).set 0 (.ins 4 [.g (.t S.x.rows),.g (.e S.x.onw),.g (.e S.x.inc),.ref 1,.ref 2,.ref 3,.ref 4,I S.pl,I S.he,I (S.dn+1),.g S.res])=pn sh {S with dn:=S.dn+1} tl:=rfl;have zero:∀{a:Dt}{L:η Dt},ixD (.t (a::L)) (.int 0)=ς a:=fun {a L}=>by simp[ixD,az,gIx,atI,ixN]
  have one:∀{a b:Dt}{L:η Dt},ixD (.t (a::b::L)) (.int 1)=ς b:=fun {a b L}=>by simp[ixD,az,gIx,atI,ixN,show(1:Int)<(L.length:Int)+1+1 by lia]
  by_cases hf:∃a,r=.fin a
  .obtain⟨a,rfl⟩:=hf;obtain⟨v,hv,h1⟩:=kW (sh:=sh) (S:={S with dn:=S.dn+1}) (tl:=tl) o.bx a hro;have e1:(pn sh {S with dn:=S.dn+1} tl).set 0 (.ins 4 [.g (.t S.x.rows),.g (.e S.x.onw),.g (.e S.x.inc),.ref 1,.ref 2,.ref 3,.ref 4,I S.pl,I S.he,I (S.dn+1),I v])=pn sh {S with dn:=S.dn+1,res:=.int v} tl:=rfl;refine⟨{S with dn:=S.dn+1,res:=.int v},tl,?_,⟨up.hx,up.on,up.bx,up.bn,up.ce,up.cl,up.ci,up.pl,up.he,.inr ⟨v,rfl⟩,up.tl⟩⟩;simp only[Rw.d]at U;simp! only[q76];dsimp! [aR,he,U,e0,zero,one,h1,e1]
  .have hf':∀a,r≠.fin a:=fun a e=>hf ⟨a,e⟩
   obtain⟨Z,tl1,d1,O,p1,p2⟩:=prow (S:={S with dn:=S.dn+1}) r hf' X hro o1 (by rw[qa7];lia);obtain⟨p,hp,d2⟩:=yv (sh:=sh) (S:=Z) (tl:=tl1) r hf' (p1.trans hi) (by rw[O.hx];exact X.onw i r W) O.bx;obtain⟨j,rfl,hj⟩:=X.lead i r p W hp;have e1:(pn sh Z tl1).set 0 (.ins 4 [.g (.t Z.x.rows),.g (.e Z.x.onw),.g (.e Z.x.inc),.ref 1,.ref 2,.ref 3,.ref 4,I j,I Z.he,I Z.dn,.g Z.res])=pn sh {Z with pl:=j} tl1:=rfl
   have ne:oEq.g (ixD r.d (.int 0) |>.getD .non) (.str "end")=ς (.f (.bl ξ))/\(ixD r.d (.int 0)).isSome=θ:=by cases r<;>first|exact absurd rfl (hf' _)|(simp only[Rw.d,zero,ql0];exact⟨by simp[oEq,gEq,eqD,ofS],rfl⟩)
   obtain⟨k0,hk0⟩:=qd5.mp ne.2;have ne1:=ne.1;rw[hk0,ql0]at ne1;refine⟨{Z with pl:=j},tl1,?_,⟨O.hx,O.on,O.bx,O.bn,O.ce,O.cl,O.ci,⟨j,rfl,hj⟩,O.he,O.rs,O.tl⟩⟩;simp only[q76,cG,aj,ar,sRt,sRn,sIf,aO,sDr,sFl,sFa,e2,eIx,eAt,eV,eK,eCa,kCa,eMe,aL,cq,aCn,aNl];simp[lent,vw,ixV,bN,bO,j9,fin,T.d,CV.sol,CV.kp,CV.old,cr,iAdd,aR,he,U,hk0,ne1,e0,d1,d2,e1]
 .have he:F69 [.ref 0] (pn sh S tl)=ς (.g (.bl θ),pn sh S tl):=by simp! only[q69];simp! [aR,hr,cw]
  refine⟨S,tl,?_,up⟩;simp! only[q76];simp! [aR,he]
theorem er:(pn sh S tl).length=tl.length+5:=rfl
theorem zL(h:TlOk tl sh):Cl (pn sh S tl):=by
 unfold Cl;rw[er];have W:=cI (sh:=sh) (o:=5) (n:=tl.length+5) (by rw[h.len];lia);have O:tl.all (clO (tl.length+5))=θ:=qc0.mpr fun o U=>by obtain⟨L,rfl⟩:=h.all U;exact l8
 have lt:∀k,k<5->decide (k<tl.length+5)=θ:=fun k Z=>decide_eq_true Θ
 simp only[pn,qc7,qo6,clO,kP,f8,l7,uA,W,O,lt,qj7,zc5]
theorem zM:(CV.ref 0::l.map .g).all (clV (pn sh S tl).length)=θ:=by simp[clV,er]
theorem pgo(X:XQ x R cn sh){a0 a1:ζ CV}:∀{ds:η Dt}{N:Nat}{S:PN}{tl:CH}{ρ:Nat->Nat}{b:CH}{a3:ζ CV},PO x R cn sh N S tl->N+ds.length<1000000->At ρ (pn sh S tl) b->∃S' U N' ρ' b' O,bK (bnd (.one 3)) (aj (sDr (eMe 4 1 F76 (eV 2) aNl)) ar) ds [a0,a1,ς (.ref (ρ 0)),a3] b=ς (.nx [a0,a1,ς (.ref (ρ 0)),O] b')/\PO x R cn sh N' S' U/\Mv ρ (pn sh S tl) b ρ' (pn sh S' U) b'
 |[],N,S,tl,ρ,b,a3,o,_,h=>⟨S,tl,N,ρ,b,a3,rfl,o,.refl h⟩
 |d::ds,N,S,tl,ρ,b,a3,o,hN,h=>by simp only[qb8]at hN;obtain⟨S1,tl1,d1,o1⟩:=Fi X o Θ;have r:=Rn.here (F:=F76) (args:=[.ref 0]) (aB _) (zL o.tl) (zM (l:=[])) d1 (by rw[er,er,o.tl.len,o1.tl.len];exact nL _) (by rw[er];lia);obtain⟨ρ1,b1,k1,k2⟩:=r.mv h;obtain⟨S2,Z,N2,ρ2,b2,O,j1,j2,j3⟩:=pgo X (a0:=a0) (a1:=a1) (ds:=ds) (a3:=ς (.g d)) o1 Θ k2.at_;refine⟨S2,Z,N2,ρ2,b2,O,?_,j2,k2.trans j3⟩;rw[k2.zero]at j1;have W:F76 [.ref (ρ 0)] b=ς (.g .non,b1):=k1;have hl:∃l,b[ρ 0]?=ς (.ins 4 l):=⟨_,h.get (i:=0) rfl⟩;obtain⟨l,hl⟩:=hl;refine qz1 (cT (δ':=[a0,a1,ς (.ref (ρ 0)),ς (.g d)]) (δ2:=[a0,a1,ς (.ref (ρ 0)),ς (.g d)]) (ch1:=b1) rfl (ae ?_ rfl)) j1;simp[sDr,eMe,eV,lent,hl,aNl,kCa,CV.old,W]
end
section
variable{cs ss:η Hd}{R:η Rw}{bg:η Str}{ks:η Kp'}{inc:η Dt}
abbrev slP(cs ss:η Hd)(R:η Rw)(inc:η Dt):Sl:=[ς (.ref 0),ς (.g (pgm cs ss R)),ς (.g (.e inc))]
theorem pfl{fs:η CV}{k:Nat}{c:CV}{H':CH}(U:δ[0]?=ς (ς (.ref 0)))(h:e δ (.ins 4 fs::H)=ς (c,.ins 4 fs::H'))(hc:c.sol=θ)(W:fs.length=k)(O:k<1000):sFl 4 k (eV 0) e δ (.ins 4 fs::H)=ς (.nx δ (.ins 4 (fs++[c])::H')):=by unfold sFl eV;rw[h,qa0];simp[U,lent,cr,hc,W,O]
theorem Fj(P:Pr cs ss R bg ks inc):∃B σ,F68 [.ref 0,.g (pgm cs ss R),.g (.e inc)] [.ins 4 []]=ς (.g .non,B)/\At σ (pn (shS ss) ⟨fx cs ss R ks inc,[],[],bxK (cs.map fun h=>(h.1,h.2.1)),0,0,0,.non⟩ (tlS ss)) B/\σ 0=0:=by
 have U:(cs.map (·.1)).Nodup:=by have:=P.nd;rw[qd0,qe2]at this;exact this.1
 have Z:(ss.map (·.1)).Nodup:=by have:=P.nd;rw[qd0,qe2]at this;exact this.2.1
 have hl:=P.len;have a1:=pfl (k:=0) (fs:=[]) (H:=[]) (H':=[]) (e:=eIx (eV 1) (eK (.int 2))) (c:=.g (.t (R.map Rw.d))) (δ:=slP cs ss R inc) rfl rfl rfl rfl Ω;have a2:=pfl (k:=1) (fs:=[.g (.t (R.map Rw.d))]) (H:=[]) (H':=[]) (e:=eCa 1 F13 (aCn (eV 1) aNl)) (c:=.g (.e (cf 0 R))) (δ:=slP cs ss R inc) rfl (by show kCa 1 F13 [.g (pgm cs ss R)] (slP cs ss R inc) _=_;unfold kCa;rw[if_pos ⟨rfl,rfl⟩];exact pA P.rl.2) rfl rfl Ω;have a3:=pfl (k:=2) (fs:=[.g (.t (R.map Rw.d)),.g (.e (cf 0 R))]) (H:=[]) (H':=[]) (e:=eB .v bList.g (aCn (eV 2) aNl)) (c:=.g (.e inc)) (δ:=slP cs ss R inc) rfl rfl rfl rfl Ω;have a4:=pfl (k:=3) (fs:=[.g (.t (R.map Rw.d)),.g (.e (cf 0 R)),.g (.e inc)]) (H:=[]) (H':=[.e []]) (e:=eLs .o aNl) (c:=.ref 1) (δ:=slP cs ss R inc) rfl rfl rfl rfl Ω;have a5:=pfl (k:=4) (fs:=[.g (.t (R.map Rw.d)),.g (.e (cf 0 R)),.g (.e inc),.ref 1]) (H:=[.e []]) (H':=[.e [],.dK []]) (e:=eDn .o ξ) (c:=.ref 2) (δ:=slP cs ss R inc) rfl rfl rfl rfl Ω
 have hce:∀ch:CH,eDc .o (eCo .v [ψ] (iE (eIx (eV 1) (eK (.int 0)))) (bnd (.one 0)) tYs (eTu (aCn (eIx (eV 0) (eK (.int 0))) (aCn (eIx (eV 0) (eK (.int 1))) aNl)))) (slP cs ss R inc) ch=ς (.ref ch.length,ch++[.dK (dp (bxK (cs.map fun h=>(h.1,h.2.1))))]):=fun ch=>by
  have W:eCo .v [ψ] (iE (eIx (eV 1) (eK (.int 0)))) (bnd (.one 0)) tYs (eTu (aCn (eIx (eV 0) (eK (.int 0))) (aCn (eIx (eV 0) (eK (.int 1))) aNl))) (slP cs ss R inc) ch=ς (.g (.e ((cs.map fun h=>(h.1,h.2.1)).map Bx.d)),ch):=by
   have hi:iE (eIx (eV 1) (eK (.int 0))) (slP cs ss R inc) ch=ς (cs.map Hd.d,ch):=rfl;unfold eCo;rw[hi,qa0];have:=b9 (pt:=.one 0) (ft:=tYs) (fe:=eTu (aCn (eIx (eV 0) (eK (.int 0))) (aCn (eIx (eV 0) (eK (.int 1))) aNl))) (δ:=gC [ψ] (slP cs ss R inc)) (ch:=ch) (f:=Hd.d) (g:=fun h:Hd=>Bx.d (h.1,h.2.1)) (l:=cs) fun h _=>⟨_,rfl,rfl,rfl⟩
   rw[this,qa0];dsimp only;rw[if_pos (by rw[qa4,qa7];lia),bL,qd4];rfl
  have O:((bxK (cs.map fun h=>((h.1,h.2.1):Bx))).map (·.1)).Nodup:=kN (by simpa[qb4] using U);unfold eDc;rw[W,qa0];have e:((cs.map fun h=>((h.1,h.2.1):Bx)).map Bx.d).map CV.g=(cs.map fun h=>((h.1,h.2.1):Bx)).map (CV.g ∘ Bx.d):=by rw[qd4]
  show((bc ch (((cs.map fun h=>((h.1,h.2.1):Bx)).map Bx.d).map CV.g)).bind _)=_;rw[e,fg,qa0,if_pos (by rw[bP];exact O),uw O]
 obtain⟨K,hK⟩:∃K:CO,K=.dK (dp (bxK (cs.map fun h=>(h.1,h.2.1)))):=⟨_,rfl⟩;have a6:=pfl (k:=5) (fs:=[.g (.t (R.map Rw.d)),.g (.e (cf 0 R)),.g (.e inc),.ref 1,.ref 2]) (H:=[.e [],.dK []]) (H':=[.e [],.dK [],K]) (c:=.ref 3) (δ:=slP cs ss R inc) rfl (by rw[hK];exact hce _) rfl rfl Ω
 have hd:=iK (f:=Hd.d) (nm:=(·.1)) (vl:=fun h:Hd=>qb1 h.2.1.toNat (.int 0)) (fe:=eTu (aCn (eIx (eV 0) (eK (.int 0))) (aCn (e2 .o oMul.g (eLs .v (aCn (eK (.int 0)) aNl)) (eIx (eV 0) (eK (.int 1)))) aNl))) (fi:=iE (eIx (eV 1) (eK (.int 1)))) (src:=[ψ]) (δ:=slP cs ss R inc) (ch:=[.ins 4 [.g (.t (R.map Rw.d)),.g (.e (cf 0 R)),.g (.e inc),.ref 1,.ref 2,.ref 3],.e [],.dK [],K]) (l:=ss) (fun h hh ch=>by
  obtain⟨h1,h2⟩:=P.sv h hh;have h1':0<=h.2.1:=by lia
  simp! only[Hd.d];simp! [oMul,iS,lQ,h1',h2,ml]) rfl rfl P.s0 (by rw[qa7];lia) Z
 have a7:=pfl (k:=6) (fs:=[.g (.t (R.map Rw.d)),.g (.e (cf 0 R)),.g (.e inc),.ref 1,.ref 2,.ref 3]) (H:=[.e [],.dK [],K]) (H':=.e []::.dK []::K::(blk 4 (ss.map fun h=>(h.1,qb1 h.2.1.toNat (.int 0)))++[.e (rfs 5 ss.length)]++[.dK (prs 4 (ss.map fun h=>(h.1,qb1 h.2.1.toNat (.int 0))))])) (c:=.ref (4+2*ss.length+1)) (δ:=slP cs ss R inc) rfl hd rfl rfl Ω;obtain⟨H,hH⟩:∃H:CH,H=blk 4 (ss.map fun h=>(h.1,qb1 h.2.1.toNat (.int 0)))++[.e (rfs 5 ss.length)]++[.dK (prs 4 (ss.map fun h=>(h.1,qb1 h.2.1.toNat (.int 0))))]:=⟨_,rfl⟩;rw[<- hH]at a7;simp only[qh7,ql1]at a1 a2 a3 a4 a5 a6 a7;have a8:aj (sFl 4 7 (eV 0) (eK (.int 0))) (aj (sFl 4 8 (eV 0) (eK (.int 0))) (aj (sFl 4 9 (eV 0) (eK (.int 0))) (aj (sFl 4 10 (eV 0) (eK .non)) ar))) (slP cs ss R inc) (.ins 4 [.g (.t (R.map Rw.d)),.g (.e (cf 0 R)),.g (.e inc),.ref 1,.ref 2,.ref 3,.ref (4+2*ss.length+1)]::.e []::.dK []::K::H)=ς (.nx (slP cs ss R inc) (.ins 4 [.g (.t (R.map Rw.d)),.g (.e (cf 0 R)),.g (.e inc),.ref 1,.ref 2,.ref 3,.ref (4+2*ss.length+1),I 0,I 0,I 0,.g .non]::.e []::.dK []::K::H)):=rfl;refine⟨_,fun i=>if i<4 then i else if i=4 then 4+2*ss.length+1 else 4+2*(i-5),by rw[q68];exact nH (ae a1 (ae a2 (ae a3 (ae a4 (ae a5 (ae a6 (ae a7 a8))))))),?_,rfl⟩;refine⟨fun i j hi hj e=>?_,fun {i o} hi=>?_⟩
 .rw[er]at hi hj;have:(tlS ss).length=ss.length:=by simp[tlS]
  split at e<;>split at e<;>(try split at e)<;>(try split at e)<;>lia
 .rcases i with _|_|_|_|_|i
  .cases hi;rfl
  .cases hi;rfl
  .cases hi;rfl
  .cases hi;show ς K=_;rw[hK];simp only[rnO,ei]
  .cases hi;show(_::_::_::_::H)[4+2*ss.length+1]?=_;rw[show 4+2*ss.length+1=2*ss.length+1+1+1+1+1 by lia];simp only[qd2];rw[hH,qe1 (by simp[bA])];simp only[qc5,bA,qa4,qi8,zg0,qh8,rnO];unfold shS;rw[fq (vl:=fun h:Hd=>qb1 h.2.1.toNat (.int 0)) (n:=4)];intro k hk;rw[if_neg Θ,if_neg Θ];lia
  .have hi:(tlS ss)[i]?=ς o:=hi;simp only[tlS,qa8]at hi;obtain⟨h,h1,rfl⟩:=mS hi;have hb:=(iJ (n:=4) (ps:=ss.map fun h=>(h.1,qb1 h.2.1.toNat (.int 0))) (k:=i) (p:=(h.1,qb1 h.2.1.toNat (.int 0))) (by rw[qa8,h1];rfl)).1;rw[if_neg Θ,if_neg Θ,cV,show 4+2*(i+1+1+1+1+1-5)=2*i+1+1+1+1 by lia];simp only[qd2];rw[hH,qd8,gL (ao hb)];exact hb
theorem Pr.xq(P:Pr cs ss R bg ks inc):XQ (fx cs ss R ks inc) R (cs.map (·.1)) (shS ss):=by
 have X:=P.xr
 have O:∀{n:Str},n∈ss.map (·.1)->Vp (shS ss) n 0:=fun {n} h=>by have:=vp_s (cs:=[]) P.sv h;simpa[shC] using this
 refine⟨?_,P.inc,rfl,X.onw,fun r U=>?_,P.lead⟩
 .have:(shS ss).map (·.1)=ss.map (·.1):=by simp[shS,qb4]
  rw[this];have:=P.nd;rw[qd0,qe2]at this;exact this.2.1
 .have:=P.row r U;cases r with
  |op x W a b=>exact this
  |load x n=>exact this
  |store n a=>exact this
  |take x n a=>exact⟨O this.1,this.2⟩
  |lay n a b=>exact⟨O this.1,this.2⟩
  |copy x a=>exact this
  |say a=>exact this
  |fin a=>exact this
  |hear x=>trivial
  |ife x t=>trivial
  |go t=>trivial
theorem Pr.po(P:Pr cs ss R bg ks inc):PO (fx cs ss R ks inc) R (cs.map (·.1)) (shS ss) 200 ⟨fx cs ss R ks inc,[],[],bxK (cs.map fun h=>(h.1,h.2.1)),0,0,0,.non⟩ (tlS ss):=by
 refine⟨rfl,Ξ,Ξ,Ξ,fun p hp=>?_,by have:=P.len;simp[bxK];lia,fun n hn=>?_,⟨0,rfl,P.rl.1⟩,by show(0:Int)<=0;lia,.inl rfl,⟨by simp[tlS,shS],fun {k n m} W=>?_⟩⟩
 .simp only[bxK,qc8]at hp;obtain⟨q,⟨h,hh,rfl⟩,rfl⟩:=hp;exact P.cv h hh
 .obtain⟨a,ha,rfl⟩:=qc8.mp hn
  have:∀{l:η Hd},a∈l->(ay ((bxK (l.map fun h=>((h.1,h.2.1):Bx))).map (·.1)) ((bxK (l.map fun h=>((h.1,h.2.1):Bx))).map (·.2)) (ql9 a.1)).isSome=θ:=fun {l}=>by
   induction l with
   |nil=>intro h;cases h
   |cons b l Z=>
    intro h;simp only[bxK,qa3,ay]at Z ⊢;split
    .rfl
    .rename_i O;rcases qc4.mp h with rfl|h
     .exact absurd rfl O
     .exact Z h
  exact this ha
 .simp only[shS,qa8]at W;obtain⟨a,h1,h2⟩:=mS W;cases h2;refine⟨qb1 a.2.1.toNat (.int 0),by simp[tlS,h1],Ξ,fun d U=>?_⟩;rw[qw1]at U;rw[U.2];exact⟨0,rfl,Θ,Θ⟩
theorem yw(P:Pr cs ss R bg ks inc):∃e a',F77 [.g (pgm cs ss R),.g (.e inc)] []=ς (.g (.bl e),a'):=by
 obtain⟨B,σ,k1,k2,Z⟩:=Fj P;have hB:0<B.length:=by have:=k2.lt (i:=0) (by rw[er];lia);lia
 have m:=eZ (F:=F68) (c:=4) (n:=3) (ch:=[]) (δ:=[ς (.g (pgm cs ss R)),ς (.g (.e inc)),ψ,ψ]) (fs:=aCn (eV 0) (aCn (eV 1) aNl)) (ds:=[pgm cs ss R,.e inc]) (aB _) rfl rfl k1 hB
 have e0:([]:CH)++B.map (rnO (([]:CH).length + ·))=B:=by
  have:(fun x=>([]:CH).length+x)=fun i=>i:=by funext x;simp
  rw[this,qh7];have:(rnO fun i=>i)=id:=by funext o;exact ug
  rw[this,List.map_id]
 rw[e0]at m;have s1:=aF (i:=2) m rfl;obtain⟨S',tl',N',ρ',b',a3',j1,W,O⟩:=pgo P.xq (a0:=ς (.g (pgm cs ss R))) (a1:=ς (.g (.e inc))) (ds:=aD 0 60) (a3:=ψ) P.po (by rw[bE];lia) k2;rw[Z]at j1;obtain⟨e,he⟩:=C3 W;have hp:=O.at_.pure (F:=F69) (args:=[.ref 0]) (aB _) (zL W.tl) (zM (l:=[])) he;have U:ρ' 0=0:=O.zero.trans Z;simp only[rnA,qa3,qe0,rn,U]at hp;have hl:∃l,b'[0]?=ς (.ins 4 l):=by have:=O.at_.get (i:=0) rfl;rw[U]at this;exact⟨_,this⟩
 obtain⟨l,hl⟩:=hl;refine⟨e,b',?_⟩;rw[q77];refine aT (ae s1 (ae (bH (dA (j:=60) rfl (aN Θ)) j1) (bR (ck ?_ rfl))));simp[eMe,eV,lent,hl,aNl,kCa,CV.old,hp]
end
variable{xs:η Str}
section
variable{ch:CH}
theorem fw{α:Type}{f:α->Dt}{l:η α}{k:Nat}(h:k<l.length):ixD (.e (l.map f)) (.int k)=ς (f l[k]):=(dI (by rw[qa8,gQ h];rfl)).1
theorem dL(ns:η Int)(k:Nat):∃v:Int,F1 [.g (.e (ns.map .int)),I k] ch=ς (I v,ch):=by
 by_cases h:k<ns.length
 .refine⟨ns[k],?_⟩;have O:=fw (f:=Dt.int) h;have h':(k:Int)<(ns.length:Int):=by lia
  simp! only[q1];dsimp! [h,O]
 .refine⟨0,?_⟩;simp! only[q1];dsimp! [h]
def Sm'(v:Int):Prop:=0<=v/\v<2147483629
theorem jM{c m:CV}:∀{ds l:η Int}{n:Int}{a4:ζ CV},(∀d∈ds,0<=d)->0<=n->n<2147553251->(∀v∈l,Sm' v)->l.length+ds.length<=1000->∃(W:η Int)(n':Int)(U:ζ CV),bK (bnd (.one 4)) (aj (aO 3 (e2 .v oMod.g (e2 .v oAdd.g (e2 .v oAdd.g (e2 .v oMul.g (eV 3) (eV 3)) (e2 .v oMul.g (eK (.int 16807)) (eV 3))) (eV 4)) (eK (.int 2147483629)))) (aj (sAs 2 (eV 3)) ar)) (ds.map .int) [ς c,ς m,ς (.own θ (.e (l.map .int))),ς (I n),a4] ch=ς (.nx [ς c,ς m,ς (.own θ (.e (W.map .int))),ς (I n'),U] ch)/\W.length=l.length+ds.length/\∀v∈W,Sm' v
 |[],l,n,a4,_,_,_,hl,_=>⟨l,n,a4,rfl,rfl,hl⟩
 |d::ds,l,n,a4,hd,h0,h1,hl,hz=>by
  simp only[qb8]at hz;have m1:cj n n=θ:=eN Θ Θ;have m2:cj 16807 n=θ:=eN Θ Θ;have b0:=qh9 (n*n+16807*n+d) (show(2147483629:Int)≠0 by decide);have b1:=qf3 (n*n+16807*n+d) (show(0:Int)<2147483629 by decide);obtain⟨v,hv⟩:∃v,v=(n*n+16807*n+d)%2147483629:=⟨_,rfl⟩;rw[<- hv]at b0 b1;obtain⟨W,n',U,e1,Z,e3⟩:=jM (c:=c) (m:=m) (ds:=ds) (l:=l++[v]) (n:=v) (a4:=ς (I d)) (fun x O=>hd x (.tail _ O)) b0 Θ (fun x O=>by rcases qf5.mp O with O|O;exact hl x O;simp at O;subst O;exact⟨b0,b1⟩) (by simp;lia);refine⟨W,n',U,?_,by rw[Z];simp;lia,e3⟩;have hll:l.length<16777216:=by lia
  refine qz1 (cT (δ':=[ς c,ς m,ς (.own θ (.e (l.map .int))),ς (I n),ς (I d)]) (δ2:=[ς c,ς m,ς (.own θ (.e ((l++[v]).map .int))),ς (I v),ς (I d)]) (ch1:=ch) rfl ?_) e1;simp! only[sAs];simp! [oMul,iS,m1,m2,oMod,aA,<- hv,b7,lG,hll]
theorem Fk{l:η Int}:gSl (.e (l.map .int)) (ς 1) ψ=ς (.e ((l.drop 1).map .int)):=by
 show ς (T.e (fQ (l.map .int) (ς 1) ψ))=_;unfold fQ;cases l with
 |nil=>rfl
 |cons a l=>
  have h1:HT.sIx ((a::l).map Dt.int).length 0 (ς 1)=1:=by simp[HT.sIx]
  have h2:HT.sIx ((a::l).map Dt.int).length ((a::l).map Dt.int).length ψ=(a::l).length:=by simp[HT.sIx]
  rw[h1,h2];simp;rw[za4 Ξ]
theorem bV(c:Int)(m:Nat)(hm:m<=100):∃vs:η Int,F2 [I c,I m] ch=ς (.g (.e (vs.map .int)),ch)/\vs.length=m/\∀v∈vs,Sm' v:=by
 have b0:=qh9 c (show(2147483629:Int)≠0 by decide);have b1:=qf3 c (show(0:Int)<2147483629 by decide);have W:aD 0 (m+1)=((qd7 (m+1)).map fun i:Nat=>(i:Int)).map .int:=by unfold aD;rw[qd4];apply qn2;intro i _;simp
 obtain⟨l,n,a4,U,O,Z⟩:=jM (ch:=ch) (c:=I c) (m:=I m) (ds:=(qd7 (m+1)).map fun i:Nat=>(i:Int)) (l:=[]) (n:=c%2147483629+69621) (a4:=ψ) Ξ Θ Θ Ξ (by simp;lia);rw[<- W]at U;refine⟨l.drop 1,?_,by rw[qt2,O];simp,fun v hv=>Z v (List.mem_of_mem_drop hv)⟩;rw[q2];refine aT (ae (δ':=[ς (I c),ς (I m),ς (.own θ (.e [])),ψ,ψ]) (ch1:=ch) rfl (ae (δ':=[ς (I c),ς (I m),ς (.own θ (.e [])),ς (I (c%2147483629+69621)),ψ]) (ch1:=ch) ?_ (ae (bH (ds:=aD 0 (m+1)) (dA (j:=m+1) ?_ (aN Θ)) U) (bR (ck (c:=.g (.e ((l.drop 1).map .int))) (ch1:=ch) ?_ rfl)))))
 .simp! only[];simp! [oMod,aA]
 .simp! only[];simp! []
 .have:=Fk (l:=l);simp only[eSl,fOp,eV,eK,lent,qa0,qd2,qh8,bO,qb2,vw,T.d,this,fin]
theorem fC(n:Int):∃v,Vi (.int v)/\F3 [I n] ch=ς (I v,ch):=by
 have O:sA (.int 2) (.int 40)=ς (.f (.int 1099511627776)):=by simp[sA,om]
 have W:cj (n/3) 1664525=θ:=oj Θ Θ;by_cases U:n%3=0
 .refine⟨n/3%4,⟨_,rfl,Θ,Θ⟩,?_⟩;simp! only[q3];simp! [oMod,aA,oDiv,bu,U]
 .by_cases h1:n%3=1
  .refine⟨1099511627776-1-n/3%4,⟨_,rfl,Θ,Θ⟩,?_⟩;simp! only[q3];simp! [oMod,aA,oDiv,bu,U,h1,xn,O]
  .refine⟨n/3*1664525%1099511627776,⟨_,rfl,Θ,Θ⟩,?_⟩;simp! only[q3];simp! [oMod,aA,oDiv,bu,U,h1,xn,O,oMul,iS,W]
theorem kX(n:Int)(Z:xs≠[]):∃a,bq a/\F5 [I n,.g (.e (xs.map .str))] ch=ς (.g (ak a),ch):=by
 by_cases W:n%3=0
 .obtain⟨v,hv,h1⟩:=fC (ch:=ch) (n/3);refine⟨.inl v,.inl hv,?_⟩;simp! only[q5];simp! [oMod,aA,oDiv,bu,W,h1,ak]
 .have hp:0<xs.length:=List.length_pos_iff.mpr Z;have b0:=qh9 (n/3) (show(xs.length:Int)≠0 by lia);have b1:=qf3 (n/3) (show(0:Int)<xs.length by lia);obtain⟨k,hk⟩:=qf9 b0;have U:k<xs.length:=by lia
  refine⟨.inr xs[k],.inr ⟨_,rfl⟩,?_⟩;have O:=fw (f:=Dt.str) U;rw[<- hk]at O;simp! only[q5];dsimp! [oMod,aA,oDiv,bu,W,hp,O,ak]
end
def ltt:Str:="abcdefghijklmnopqrstuvwxyz"
theorem yx:ltt.length=26:=χ
def sgn(i:Int):Nat:=ltt.cps.toList.getD i.toNat 0
theorem yz:∀i<26,∀j<26,ltt.cps.toList.getD i 0=ltt.cps.toList.getD j 0->i=j:=χ
theorem vd{i:Int}(W:0<=i)(h1:i<26):ixD (.str ltt) (.int i)=ς (.str ⟨#[sgn i]⟩):=by
 have hl:ltt.cps.toList.length=26:=by decide +kernel
 have:gIx (.str ltt) (.int i)=ς (.f (.str ⟨#[sgn i]⟩)):=by
  have e:gIx (.str ltt) (.int i)=(atI ltt.cps.toList i).map fun c=>.f (.str ⟨#[c]⟩):=by have O:ltt.length<=qa9:=o5 (by rw[yx];decide);simp only[gIx,O,if_true]
  have U:atI ltt.cps.toList i=ς (sgn i):=by unfold atI ixN;rw[if_pos W,hl,if_pos Θ];simp only[qa0];unfold sgn;rw[qc3,gQ Θ];rfl
  rw[e,U];rfl
 show(match (ψ:ζ (ζ Dt))with|some r=>r|none=>match gIx (.str ltt) (.int i)with|some (.f y)=>ς y|_=>ψ)=_;rw[this]
theorem yA(x y:Str):(x++y).length=x.length+y.length:=by show(x.cps++y.cps).size=_;rw[Array.size_append];rfl
theorem yB(x y:Str):(x++y).cps.toList=x.cps.toList++y.cps.toList:=by show(x.cps++y.cps).toList=_;simp
theorem addS(h:x.length+y.length<=1000000):oAdd.g (.str x) (.str y)=ς (.f (.str (x++y))):=by show orO cW iy _ _=_;unfold orO;rw[Cr (o5 h)]
theorem mq{lo hi:ζ Int}(h:x.length<=1000):∃y,gSl (.str x) lo hi=ς (.f (.str y))/\y.length<=x.length:=⟨_,if_pos (o5 Θ),Txt.slice_le x lo hi⟩
section
variable{ch:CH}
theorem nm_0(c x:Int)(Z:0<=x)(h1:x<10):∃g:Nat,eIx (eV 2) (e2 .v oMod.g (e2 .v oAdd.g (e2 .v oDiv.g (eV 1) (eK (.int 37))) (e2 .v oMul.g (e2 .v oMul.g (eK (.int 11)) (eV 0)) (e2 .v oMod.g (eV 1) (eK (.int 2))))) (eK (.int 26))) [ς (I x),ς (I c),ς (.g (.str ltt))] ch=ς (.g (.str ⟨#[g]⟩),ch):=by have W:cj 11 x=θ:=eN Θ Θ;have O:cj (11*x) (c%2)=θ:=eN Θ Θ;have U:=vd (i:=(c/37+11*x*(c%2))%26) (qh9 _ Ω) (qf3 _ Ω);refine⟨sgn ((c/37+11*x*(c%2))%26),?_⟩;simp! only[];dsimp! [oMod,aA,oDiv,bu,oMul,iS,W,O,U]
abbrev nE0:Fg:=eIx (eV 2) (e2 .v oMod.g (e2 .v oAdd.g (e2 .v oDiv.g (eV 1) (eK (.int 37))) (e2 .v oMul.g (e2 .v oMul.g (eK (.int 11)) (eV 0)) (e2 .v oMod.g (eV 1) (eK (.int 2))))) (eK (.int 26)))
abbrev nE1:Fg:=e2 .v oAdd.g (e2 .v oAdd.g (eSl .v (eV 3) ψ (ς (eV 1))) (eIx (eV 4) (e2 .v oMod.g (e2 .v oAdd.g (e2 .v oDiv.g (eV 2) (eK (.int 42))) (e2 .v oMul.g (eK (.int 5)) (eV 0))) (eK (.int 26))))) (eSl .v (eV 3) (ς (eV 1)) ψ)
theorem nm_c(c:Int)(n:Nat)(hn6:n<6):∃gs:η Nat,gs.length=n/\aH (bnd (.one 0)) tYs nE0 [ψ,ς (I c),ς (.g (.str ltt))] (aD 0 n) ch=ς ((sgD gs).map .g,ch):=by
 obtain⟨ds,Z,O,W⟩:=o3 (pt:=.one 0) (ft:=tYs) (fe:=nE0) (δ:=[ψ,ς (I c),ς (.g (.str ltt))]) (ch:=ch) (f:=fun i:Nat=>.int (0+(i:Int))) (P:=fun d=>∃g:Nat,d=.str ⟨#[g]⟩) (l:=qd7 n) fun i hi=>by obtain⟨g,hg⟩:=nm_0 (ch:=ch) c (0+(i:Int)) Θ (by have:=qe9.mp hi;lia);exact⟨_,_,rfl,rfl,hg,g,rfl⟩
 obtain⟨gs,rfl,U⟩:∃gs:η Nat,ds=sgD gs/\gs.length=ds.length:=by
  clear Z W;induction ds with
  |nil=>exact⟨[],rfl,rfl⟩
  |cons d ds ih=>
   obtain⟨g,rfl⟩:=O d (.head _);obtain⟨gs,rfl,h⟩:=ih fun d hd=>O d (.tail _ hd)
   exact⟨g::gs,rfl,by simp[h]⟩
 exact⟨gs,by rw[U,W];simp,Z⟩
theorem nm_1(c p:Int){m y:Str}(hy:y.length<=6)(hz:z.length<=6)(ey:gSl (.str m) ψ (ς p)=ς (.f (.str y)))(Z:gSl (.str m) (ς p) ψ=ς (.f (.str z)))(x:Int)(h0:0<=x)(h1:x<12):nE1 [ς (I x),ς (I p),ς (I c),ς (.g (.str m)),ς (.g (.str ltt))] ch=ς (.g (.str (y++⟨#[sgn ((c/42+5*x)%26)]⟩++z)),ch):=by
 have m1:cj 5 x=θ:=eN Θ Θ;have O:=vd (i:=(c/42+5*x)%26) Θ Θ;obtain⟨g,U⟩:∃g:Str,g=⟨#[sgn ((c/42+5*x)%26)]⟩:=⟨_,rfl⟩;have hgl:g.length=1:=by rw[U];rfl
 rw[<- U]at O ⊢;have a1:=addS (x:=y) (y:=g) Θ;have a2:=addS (x:=y++g) (y:=z) (by rw[yA];lia);have W:eSl .v (eV 3) ψ (ς (eV 1)) [ς (I x),ς (I p),ς (I c),ς (.g (.str m)),ς (.g (.str ltt))] ch=ς (.g (.str y),ch):=by simp[eSl,fOp,eV,lent,bO,vw,ey,fin,T.d]
 have x3:eSl .v (eV 3) (ς (eV 1)) ψ [ς (I x),ς (I p),ς (I c),ς (.g (.str m)),ς (.g (.str ltt))] ch=ς (.g (.str z),ch):=by simp[eSl,fOp,eV,lent,bO,vw,Z,fin,T.d]
 have x2:eIx (eV 4) (e2 .v oMod.g (e2 .v oAdd.g (e2 .v oDiv.g (eV 2) (eK (.int 42))) (e2 .v oMul.g (eK (.int 5)) (eV 0))) (eK (.int 26))) [ς (I x),ς (I p),ς (I c),ς (.g (.str m)),ς (.g (.str ltt))] ch=ς (.g (.str g),ch):=by simp! only[];dsimp! [oMod,aA,oDiv,bu,oMul,iS,m1,O]
 exact cH (cH W x2 rfl rfl a1) x3 rfl rfl a2
theorem Fn{c:Int}:((qd7 12).map fun i:Nat=>y++⟨#[sgn ((c/42+5*(i:Int))%26)]⟩++z).Nodup:=by
 rw[List.nodup_iff_pairwise_ne,List.pairwise_map];refine List.Pairwise.imp_of_mem ?_ qn4;intro i j hi O U h;have hi:=qe9.mp hi;have O:=qe9.mp O;have e:=congrArg (fun s:Str=>s.cps.toList) h;simp only[yB]at e;have e:=List.append_cancel_left (List.append_cancel_right e);have e:sgn ((c/42+5*(i:Int))%26)=sgn ((c/42+5*(j:Int))%26):=by simpa using e
 have:=yz _ Θ _ Θ e;omega
theorem nm_l{g:Nat->Dt}(hi:fi δ ch=ς (aD 0 n,ch))(O:gC src δ=δ0)(U:n<=1000)(h:aH (bnd (.one 0)) tYs fe δ0 (aD 0 n) ch=ς ((qd7 n).map fun i=>.g (g i),ch)):eCo .v src fi (bnd (.one 0)) tYs fe δ ch=ς (.g (.e ((qd7 n).map g)),ch):=by unfold eCo;rw[hi,qa0,O];dsimp only;rw[h,qa0];dsimp only;rw[if_pos (by rw[qa4,qx9,qa7];lia),bL];rfl
theorem Fo{c N:Int}(O:c%6=N):aO 3 (e2 .v oMod.g (eV 0) (eK (.int 6))) [ς (I c),ς (I 12),ς (.g (.str ltt)),ψ,ψ,ψ] ch=ς (.nx [ς (I c),ς (I 12),ς (.g (.str ltt)),ς (I N),ψ,ψ] ch):=by simp! only[];simp! [oMod,aA,O]
theorem Fp{c N p:Int}(O:0<=N)(hp:p=c/6%(N+1)):aO 4 (e2 .v oMod.g (e2 .v oDiv.g (eV 0) (eK (.int 6))) (e2 .v oAdd.g (eV 3) (eK (.int 1)))) [ς (I c),ς (I 12),ς (.g (.str ltt)),ς (I N),ψ,ψ] ch=ς (.nx [ς (I c),ς (I 12),ς (.g (.str ltt)),ς (I N),ς (I p),ψ] ch):=by simp! only[];simp! [oMod,aA,oDiv,bu,hp,show 0<N+1 by lia]
theorem Fq{c p:Int}{gs:η Nat}{m:Str}(U:n<6)(O:gs.length=n)(hm:m=⟨gs.toArray⟩)(W:aH (bnd (.one 0)) tYs nE0 [ψ,ς (I c),ς (.g (.str ltt))] (aD 0 n) ch=ς ((sgD gs).map .g,ch)):eMt .v mJoin.g (eK (.str "")) (aCn (eCo .v [ψ,ς 0,ς 2] (iR 1 (aCn (eV 3) aNl)) (bnd (.one 0)) tYs nE0) aNl) [ς (I c),ς (I 12),ς (.g (.str ltt)),ς (I n),ς (I p),ψ] ch=ς (.g (.str m),ch):=by
 have Z:mJoin.g (.str "") [.e (sgD gs)]=ς (.f (.str m)):=by rw[hm];exact uy (cs:=gs) Θ
 exact Cm rfl (aS (ef (dA rfl (aN Θ)) rfl W (by rw[sgD,qa4,qa7];lia))) Z
theorem mr(c:Int):∃xs:η Str,F0 [I c,I 12] ch=ς (.g (.e (xs.map .str)),ch)/\xs.length=12/\xs.Nodup:=by
 have b0:=qh9 c (show(6:Int)≠0 by decide);have b1:=qf3 c (show(0:Int)<6 by decide);obtain⟨n,hn⟩:=qf9 b0;have O:n<6:=by lia
 obtain⟨p,hp⟩:∃p,p=c/6%((n:Int)+1):=⟨_,rfl⟩;obtain⟨gs,U,e1⟩:=nm_c (ch:=ch) c n O;obtain⟨m,W⟩:∃m:Str,m=⟨gs.toArray⟩:=⟨_,rfl⟩;have hml:m.length<=6:=by rw[W];show gs.toArray.size<=6;simp;lia
 obtain⟨y,ey,hy⟩:=mq (x:=m) (lo:=ψ) (hi:=ς p) Θ;obtain⟨z,ez,hz⟩:=mq (x:=m) (lo:=ς p) (hi:=ψ) Θ;have e4:=b9 (pt:=.one 0) (ft:=tYs) (fe:=nE1) (δ:=[ψ,ς (I p),ς (I c),ς (.g (.str m)),ς (.g (.str ltt))]) (ch:=ch) (f:=fun i:Nat=>.int (0+(i:Int))) (g:=fun i:Nat=>.str (y++⟨#[sgn ((c/42+5*(i:Int))%26)]⟩++z)) (l:=qd7 12) fun i hi=>⟨[ς (I (0+(i:Int))),ς (I p),ς (I c),ς (.g (.str m)),ς (.g (.str ltt))],rfl,rfl,by have h:=nm_1 (ch:=ch) c p Θ Θ ey ez (0+(i:Int)) Θ (by have:=qe9.mp hi;lia);rw[qr2]at h ⊢;exact h⟩
 have s1:=Fo (ch:=ch) hn;have Z:=Fp (ch:=ch) (c:=c) (N:=n) Θ hp;have s3:=Fq (p:=p) O U W e1;have s4:eCo .v [ψ,ς 4,ς 0,ς 5,ς 2] (iR 1 (aCn (eV 1) aNl)) (bnd (.one 0)) tYs nE1 [ς (I c),ς (I 12),ς (.g (.str ltt)),ς (I n),ς (I p),ς (.g (.str m))] ch=ς (.g (.e ((qd7 12).map fun i:Nat=>.str (y++⟨#[sgn ((c/42+5*(i:Int))%26)]⟩++z))),ch):=nm_l (dA (j:=12) rfl (aN Θ)) rfl Θ e4;refine⟨(qd7 12).map fun i:Nat=>y++⟨#[sgn ((c/42+5*(i:Int))%26)]⟩++z,?_,Ξ,Fn⟩;rw[qd4,q0];exact aT (ae (δ':=[ς (I c),ς (I 12),ς (.g (.str ltt)),ψ,ψ,ψ]) (ch1:=ch) rfl (ae s1 (ae Z (ae (aF s3 rfl) (bR (ck s4 rfl))))))
end
theorem ve(W:xs.Nodup):∀{is:η Nat},is.Nodup->(∀i∈is,i<xs.length)->(is.map fun i=>xs.getD i qz2).Nodup
 |[],_,_=>by simp
 |i::is,h,hl=>by
  have h':=qd6.mp h;rw[qa3,qd6];refine⟨fun Z=>?_,ve W h'.2 fun j U=>hl j (.tail _ U)⟩;obtain⟨j,U,e⟩:=qc8.mp Z;have hi:=hl i (.head _);have O:=hl j (.tail _ U);simp only[qc3,qq5 hi,qq5 O,ql0]at e;have hp:=List.pairwise_iff_getElem.mp W;rcases Nat.lt_trichotomy i j with q|q|q
  .exact hp i j hi O q e.symm
  .exact h'.1 (by rw[q];exact U)
  .exact hp j i O hi q e
section
variable{ch:CH}
theorem ixS{k:Nat}(h:k<xs.length):ixD (.e (xs.map .str)) (.int k)=ς (.str (xs.getD k qz2)):=by rw[fw h,qc3,gQ h];rfl
theorem ixI{xs:η Int}{k:Nat}(h:k<xs.length):ixD (.e (xs.map .int)) (.int k)=ς (.int (xs.getD k 0)):=by rw[fw h,qc3,gQ h];rfl
theorem zN{xs:η Int}(O:∀v∈xs,Sm' v){k:Nat}(h:k<xs.length):Sm' (xs.getD k 0):=by rw[qc3,gQ h];exact O _ (ql2 h)
structure Wd(bx:List Str)(cs ss:List Hd)(inc:List Int):Prop where
 b4:bx.length=4
 c0:0<cs.length/\cs.length<=3
 s0:0<ss.length/\ss.length<=2
 nd:((cs++ss).map (·.1)).Nodup
 cv:∀h∈cs,Vi (.int h.2.1)
 sv:∀h∈ss,0<h.2.1/\h.2.1<=8
 inc:∀i∈inc,Vi (.int i)
abbrev wdD(bx:η Str)(cs ss:η Hd)(inc:η Int):Dt:=.t [.e (bx.map .str),.e (cs.map Hd.d),.e (ss.map Hd.d),.e (inc.map .int)]
abbrev cE:Fg:=eTu (aCn (eIx (eV 1) (eV 0)) (aCn (eCa 1 F3 (aCn (eIx (eV 2) (eV 0)) aNl)) (aCn (e2 .v oEq.g (e2 .v oMod.g (e2 .v oDiv.g (eIx (eV 2) (eV 0)) (eK (.int 5))) (eK (.int 2))) (eK (.int 0))) aNl)))
abbrev sE:Fg:=eTu (aCn (eIx (eV 1) (e2 .v oAdd.g (eK (.int 4)) (eV 0))) (aCn (e2 .v oAdd.g (eK (.int 1)) (e2 .v oMod.g (eIx (eV 2) (e2 .v oAdd.g (eK (.int 4)) (eV 0))) (eK (.int 8)))) (aCn (e2 .v oEq.g (e2 .v oMod.g (e2 .v oDiv.g (eIx (eV 2) (e2 .v oAdd.g (eK (.int 4)) (eV 0))) (eK (.int 8))) (eK (.int 2))) (eK (.int 0))) aNl)))
theorem Ft{xs vs:Dt}{x v:Int}{s:Str}(h1:ixD xs (.int x)=ς (.str s))(h2:ixD vs (.int x)=ς (.int v))(t1:∃l,xs=.e l)(t2:∃l,vs=.e l):∃h:Hd,cE [ς (I x),ς (.g xs),ς (.g vs)] ch=ς (.g h.d,ch)/\Vi (.int h.2.1)/\h.1=s:=by obtain⟨a,rfl⟩:=t1;obtain⟨b,rfl⟩:=t2;obtain⟨w,U,O⟩:=fC (ch:=ch) v;refine⟨(s,w,decide (v/5%2=0)),?_,U,rfl⟩;simp! only[];dsimp! [h1,h2,O,oMod,aA,oDiv,bu,Hd.d]
theorem Fu{xs vs:Dt}{x v:Int}{s:Str}(h1:ixD xs (.int (4+x))=ς (.str s))(h2:ixD vs (.int (4+x))=ς (.int v))(t1:∃l,xs=.e l)(t2:∃l,vs=.e l):∃h:Hd,sE [ς (I x),ς (.g xs),ς (.g vs)] ch=ς (.g h.d,ch)/\(0<h.2.1/\h.2.1<=8)/\h.1=s:=by obtain⟨a,rfl⟩:=t1;obtain⟨b,rfl⟩:=t2;refine⟨(s,1+v%8,decide (v/8%2=0)),?_,by show 0<1+v%8/\1+v%8<=8;lia,rfl⟩;simp! only[];dsimp! [h1,h2,oMod,aA,oDiv,bu,Hd.d]
theorem pF{α:Type}(f:α->Dt)(l:η α)(a b:Nat)(hb:b<=l.length)(O:a<=b):gSl (.e (l.map f)) (ς (a:Int)) (ς (b:Int))=ς (.e (((l.drop a).take (b-a)).map f)):=by show ς (T.e (fQ (l.map f) (ς (a:Int)) (ς (b:Int))))=_;unfold fQ;rw[HT.FC,HT.FC,qa4,Nat.min_eq_left hb,Nat.min_eq_left (show a<=l.length by lia),ze8,List.map_drop]
theorem aY{F:Fd}{fs:FM (η CV)}{cs:η CV}{c:CV}{ch2:CH}(hs:fs δ ch=ς (cs,ch))(U:cs.length=n/\cs.all CV.old=θ)(O:F cs ch=ς (c,ch2)):eCa n F fs δ ch=ς (c,ch2):=by unfold eCa kCa;rw[hs,qa0];dsimp only;rw[if_pos U];exact O
theorem aU{f:Fg}{fs:FM (η CV)}{c:CV}{cs:η CV}(h:f δ ch=ς (c,ch))(hs:fs δ ch=ς (cs,ch)):aCn f fs δ ch=ς (c::cs,ch):=by unfold aCn;rw[h,qa0];dsimp only;rw[hs];rfl
theorem zO{f:Fg}{d:Dt}(h:f δ ch=ς (.g d,ch))(O:itD d=ς l):iE f δ ch=ς (l,ch):=by unfold iE;rw[h,qa0];dsimp only;rw[O];rfl
theorem vf(ns:η Int):∃bx cs ss inc,Wd bx cs ss inc/\F4 [.g (.e (ns.map .int))] ch=ς (.g (wdD bx cs ss inc),ch):=by
 obtain⟨c0,g0⟩:=dL (ch:=ch) ns 0;obtain⟨c1,g1⟩:=dL (ch:=ch) ns 1;obtain⟨c2,g2⟩:=dL (ch:=ch) ns 2;obtain⟨xs,Z,hx2,hx3⟩:=mr (ch:=ch) c0;obtain⟨vs,W,hv2,hv3⟩:=bV (ch:=ch) c1 12 Θ;have sm:=fun k (h:k<12)=>zN hv3 (k:=k) Θ
 obtain⟨a,ha⟩:∃a:Nat,(a:Int)=1+vs.getD 6 0%3:=⟨(1+vs.getD 6 0%3).toNat,Θ⟩;obtain⟨b,hb⟩:∃b:Nat,(b:Int)=1+vs.getD 7 0%2:=⟨(1+vs.getD 7 0%2).toNat,Θ⟩;obtain⟨d,hd⟩:∃d:Nat,(d:Int)=vs.getD 8 0%7:=⟨(vs.getD 8 0%7).toNat,Θ⟩;obtain⟨ls,hl1,hl2,hl3⟩:=bV (ch:=ch) c2 d Θ
 obtain⟨cs,e1,e2',e3⟩:=dz (pt:=.one 0) (ft:=tYs) (fe:=cE) (δ:=[ψ,ς (.g (.e (xs.map .str))),ς (.g (.e (vs.map .int)))]) (ch:=ch) (f:=fun i:Nat=>.int (0+(i:Int))) (g:=Hd.d) (h:=fun h:Hd=>h.1) (h':=fun i=>xs.getD i qz2) (Q:=fun h:Hd=>Vi (.int h.2.1)) (l:=qd7 a) fun i hi=>by have hi:=qe9.mp hi;obtain⟨h,k1,k2,k3⟩:=Ft (ch:=ch) (xs:=.e (xs.map .str)) (vs:=.e (vs.map .int)) (x:=0+(i:Int)) (by rw[qr2];exact ixS Θ) (by rw[qr2];exact ixI Θ) ⟨_,rfl⟩ ⟨_,rfl⟩;exact⟨_,h,rfl,rfl,k1,k2,k3⟩
 obtain⟨ss,e4,e5,e6⟩:=dz (pt:=.one 0) (ft:=tYs) (fe:=sE) (δ:=[ψ,ς (.g (.e (xs.map .str))),ς (.g (.e (vs.map .int)))]) (ch:=ch) (f:=fun i:Nat=>.int (0+(i:Int))) (g:=Hd.d) (h:=fun h:Hd=>h.1) (h':=fun i=>xs.getD (4+i) qz2) (Q:=fun h:Hd=>0<h.2.1/\h.2.1<=8) (l:=qd7 b) fun i hi=>by
  have hi:=qe9.mp hi;have e:(4:Int)+(0+(i:Int))=((4+i:Nat):Int):=by push_cast;lia
  obtain⟨h,k1,k2,k3⟩:=Fu (ch:=ch) (xs:=.e (xs.map .str)) (vs:=.e (vs.map .int)) (x:=0+(i:Int)) (by rw[e];exact ixS Θ) (by rw[e];exact ixI Θ) ⟨_,rfl⟩ ⟨_,rfl⟩;exact⟨_,h,rfl,rfl,k1,k2,k3⟩
 obtain⟨inc,e7,e8,e9⟩:=dz (pt:=.one 0) (ft:=tYs) (fe:=eCa 1 F3 (aCn (eV 0) aNl)) (δ:=[ψ]) (ch:=ch) (f:=Dt.int) (g:=Dt.int) (h:=fun _:Int=>()) (h':=fun _=>()) (Q:=fun i=>Vi (.int i)) (l:=ls) fun i hi=>by obtain⟨w,hw,h3⟩:=fC (ch:=ch) i;exact⟨[ς (I i)],w,rfl,rfl,aY (cs:=[I i]) rfl ⟨rfl,rfl⟩ h3,hw,rfl⟩
 have hcl:cs.length=a:=by have:=congrArg qm0 e3;simpa using this
 have hsl:ss.length=b:=by have:=congrArg qm0 e6;simpa using this
 have hil:inc.length=d:=by have:=congrArg qm0 e9;simpa[hl2] using this
 refine⟨(xs.drop 6).take 4,cs,ss,inc,⟨by simp[hx2],Θ,Θ,?_,e2',e5,e8⟩,?_⟩
 .rw[qd0,e3,e6];have:(qd7 a).map (fun i=>xs.getD i qz2)++(qd7 b).map (fun i=>xs.getD (4+i) qz2)=(qd7 a++(qd7 b).map (4 + ·)).map fun i=>xs.getD i qz2:=by simp[qb4]
  rw[this];refine ve hx3 ?_ fun i hi=>?_
  .rw[qe2];refine⟨qn4,?_,fun i hi j hj e=>?_⟩
   .exact qm8 _ (fun a b h q=>h Θ) qn4
   .obtain⟨k,_,rfl⟩:=qc8.mp hj;have:=qe9.mp hi;lia
  .rcases qf5.mp hi with hi|hi
   .have:=qe9.mp hi;lia
   .obtain⟨k,hk,rfl⟩:=qc8.mp hi;have:=qe9.mp hk;lia
 .obtain⟨X,hX⟩:∃X:Dt,X=.e (xs.map .str):=⟨_,rfl⟩;obtain⟨V,hV⟩:∃V:Dt,V=.e (vs.map .int):=⟨_,rfl⟩;have x6:ixD V (.int 6)=ς (.int (vs.getD 6 0)):=by rw[hV];exact ixI (k:=6) Θ
  have x7:ixD V (.int 7)=ς (.int (vs.getD 7 0)):=by rw[hV];exact ixI (k:=7) Θ
  have x8:ixD V (.int 8)=ς (.int (vs.getD 8 0)):=by rw[hV];exact ixI (k:=8) Θ
  have vV:∀d,ixV ch (.g V) d=(ixD V d).map .g:=fun d=>rfl
  have cutX:gSl X (ς 6) (ς 10)=ς (.e (((xs.drop 6).take 4).map .str)):=by rw[hX];exact pF Dt.str xs 6 10 Θ Θ
  rw[<- hX]at Z e1 e4;rw[<- hV]at W e1 e4;obtain⟨C,hC⟩:∃C:Dt,C=.e (cs.map Hd.d):=⟨_,rfl⟩;obtain⟨D,hD⟩:∃D:Dt,D=.e (ss.map Hd.d):=⟨_,rfl⟩;obtain⟨U,hE⟩:∃U:Dt,U=.e (inc.map .int):=⟨_,rfl⟩;obtain⟨Y,hY⟩:∃Y:Dt,Y=.e (ns.map .int):=⟨_,rfl⟩;rw[<- hY]at g0 g1 g2 ⊢;have s1:=aF (i:=1) (δ:=[ς (.g Y),ψ,ψ,ψ,ψ,ψ]) (aY (n:=2) (F:=F0) (fs:=aCn (eCa 2 F1 (aCn (eV 0) (aCn (eK (.int 0)) aNl))) (aCn (eK (.int 12)) aNl)) (aU (aY (cs:=[.g Y,I 0]) rfl ⟨rfl,rfl⟩ g0) (aU (c:=I 12) rfl rfl)) ⟨rfl,rfl⟩ Z) rfl;have s2:=aF (i:=2) (δ:=[ς (.g Y),ς (.g X),ψ,ψ,ψ,ψ]) (aY (n:=2) (F:=F2) (fs:=aCn (eCa 2 F1 (aCn (eV 0) (aCn (eK (.int 1)) aNl))) (aCn (eK (.int 12)) aNl)) (aU (aY (cs:=[.g Y,I 1]) rfl ⟨rfl,rfl⟩ g1) (aU (c:=I 12) rfl rfl)) ⟨rfl,rfl⟩ W) rfl
  have i3:e2 .v oAdd.g (eK (.int 1)) (e2 .v oMod.g (eIx (eV 2) (eK (.int 6))) (eK (.int 3))) [ς (.g Y),ς (.g X),ς (.g V),ψ,ψ,ψ] ch=ς (I a,ch):=by rw[ha];simp! only[];dsimp! [vV,x6,oMod,aA]
  have s3:=aF (i:=3) (δ:=[ς (.g Y),ς (.g X),ς (.g V),ψ,ψ,ψ]) (ef (src:=[ψ,ς 1,ς 2]) (dA (aS i3) (aN Θ)) rfl e1 (by rw[qa4,qa7];lia)) rfl
  have i4:e2 .v oAdd.g (eK (.int 1)) (e2 .v oMod.g (eIx (eV 2) (eK (.int 7))) (eK (.int 2))) [ς (.g Y),ς (.g X),ς (.g V),ς (.g C),ψ,ψ] ch=ς (I b,ch):=by rw[hb];simp! only[];dsimp! [vV,x7,oMod,aA]
  have s4:=aF (i:=4) (δ:=[ς (.g Y),ς (.g X),ς (.g V),ς (.g C),ψ,ψ]) (ef (src:=[ψ,ς 1,ς 2]) (dA (aS i4) (aN Θ)) rfl e4 (by rw[qa4,qa7];lia)) rfl
  have i5:e2 .v oMod.g (eIx (eV 2) (eK (.int 8))) (eK (.int 7)) [ς (.g Y),ς (.g X),ς (.g V),ς (.g C),ς (.g D),ψ] ch=ς (I d,ch):=by rw[hd];simp! only[];dsimp! [vV,x8,oMod,aA]
  have j5:iE (eCa 2 F2 (aCn (eCa 2 F1 (aCn (eV 0) (aCn (eK (.int 2)) aNl))) (aCn (e2 .v oMod.g (eIx (eV 2) (eK (.int 8))) (eK (.int 7))) aNl))) [ς (.g Y),ς (.g X),ς (.g V),ς (.g C),ς (.g D),ψ] ch=ς (ls.map .int,ch):=by exact zO (aY (F:=F2) (cs:=[I c2,I d]) (aU (aY (cs:=[.g Y,I 2]) rfl ⟨rfl,rfl⟩ g2) (aS i5)) ⟨rfl,rfl⟩ hl1) rfl
  have s5:=aF (i:=5) (δ:=[ς (.g Y),ς (.g X),ς (.g V),ς (.g C),ς (.g D),ψ]) (ef (src:=[ψ]) j5 rfl e7 (by rw[qa4,qa7];lia)) rfl
  have s6:eSl .v (eV 1) (ς (eK (.int 6))) (ς (eK (.int 10))) [ς (.g Y),ς (.g X),ς (.g V),ς (.g C),ς (.g D),ς (.g U)] ch=ς (.g (.e (((xs.drop 6).take 4).map .str)),ch):=by simp[eSl,fOp,eV,eK,lent,bO,vw,cutX,fin,T.d]
  rw[q4];rw[<- hC]at s3;rw[<- hD]at s4;rw[<- hE]at s5
  have s7:eTu (aCn (eSl .v (eV 1) (ς (eK (.int 6))) (ς (eK (.int 10)))) (aCn (eV 3) (aCn (eV 4) (aCn (eV 5) aNl)))) [ς (.g Y),ς (.g X),ς (.g V),ς (.g C),ς (.g D),ς (.g U)] ch=ς (.g (.t [.e (((xs.drop 6).take 4).map .str),C,D,U]),ch):=by unfold eTu;rw[aU s6 (aU (c:=.g C) rfl (aU (c:=.g D) rfl (aU (c:=.g U) rfl rfl)))];simp[dats,qa7]
  rw[hC,hD,hE]at s7;have O:=bR (g2:=ar) (ck s7 rfl);rw[<- hC,<- hD,<- hE]at O;have:=aT (n:=6) (cs:=[.g Y]) (ae s1 (ae s2 (ae s3 (ae s4 (ae s5 O)))));rw[this,hC,hD,hE]
end
variable{kd x4 x5:Int}{s0:ζ CV}{bx:η Str}{inc:η Int}
section
variable{ch:CH}
theorem kY{k:Int}{g r:Fs}(h:δ[i]?=ς (ς (I kd))):aj (sIf (aL (e2 .v oLt.g (eV i) (eK (.int k)))) g ar) r δ ch=if kd<k then aj g r δ ch else r δ ch:=by
 have e:aL (e2 .v oLt.g (eV i) (eK (.int k))) δ ch=ς (decide (kd<k),ch):=by simp only[aL,e2,eV,eK,h];rfl
 unfold aj sIf;rw[e];by_cases h:kd<k<;>simp[h,ar]
theorem C4{V:Dt}{w n:Int}(h4:ixV ch (.g V) (.int 4)=ς (I x4))(O:ixV ch (.g V) (.int 5)=ς (I x5))(W:0<=w)(U:w+1<n):∃t,0<=t/\t<n/\F6 [.g V,I w,I n] ch=ς (I t,ch):=by
 by_cases h:x4%6=0
 .refine⟨x5%n,qh9 _ Θ,qf3 _ Θ,?_⟩;simp! only[q6];simp[lent,vw,bN,fin,T.d,CV.sol,h4,O,oEq,gEq,eqD,oMod,aA,h,show 0<n by lia]
 .have b0:=qh9 x5 (show n-1-w≠0 by lia);have b1:=qf3 x5 (show 0<n-1-w by lia);refine⟨w+1+x5%(n-1-w),Θ,Θ,?_⟩;simp! only[q6];simp[lent,vw,bN,fin,T.d,CV.sol,h4,O,oEq,gEq,eqD,oMod,aA,oAdd,orO,cW,oSub,oo,h,show w<n-1 by lia]
theorem yC{i:Int}(W:0<=i)(h1:i<8):∃s,ixD (.str "+-*<=&|^") (.int i)=ς (.str s):=by
 have U:(qa2 "+-*<=&|^").length=8:=by decide +kernel
 obtain⟨g,Z,_⟩:=xM (x:="+-*<=&|^") (i:=i) (by rw[U];decide) W (by rw[U];exact h1);have O:gIx (.str "+-*<=&|^") (.int i)=ς (.f (.str ⟨#[g]⟩)):=Z;refine⟨⟨#[g]⟩,?_⟩;show(match (ψ:ζ (ζ Dt))with|some r=>r|none=>match gIx (.str "+-*<=&|^") (.int i)with|some (.f y)=>ς y|_=>ψ)=_;rw[O]
abbrev zP:Fs:=aj (sIf (aL (e2 .v oLt.g (eV 14) (eK (.int 5)))) (aj (sRt (eTu (aCn (eK (.str "op")) (aCn (eV 9) (aCn (eIx (eK (.str "+-*<=&|^")) (e2 .v oMod.g (eIx (eV 8) (eK (.int 7))) (eK (.int 8)))) (aCn (eV 12) (aCn (eV 13) aNl))))))) ar) ar) (aj (sIf (aL (e2 .v oLt.g (eV 14) (eK (.int 17)))) (aj (sRt (eIx (eLs .v (aCn (eTu (aCn (eK (.str "load")) (aCn (eV 9) (aCn (eV 10) aNl)))) (aCn (eTu (aCn (eK (.str "store")) (aCn (eV 10) (aCn (eV 12) aNl)))) (aCn (eTu (aCn (eK (.str "take")) (aCn (eV 9) (aCn (eV 11) (aCn (eV 12) aNl))))) (aCn (eTu (aCn (eK (.str "lay")) (aCn (eV 11) (aCn (eV 12) (aCn (eV 13) aNl))))) aNl))))) (e2 .v oMod.g (eV 14) (eK (.int 4))))) ar) ar) (aj (sIf (aL (e2 .v oLt.g (eV 14) (eK (.int 20)))) (aj (sRt (eIx (eLs .v (aCn (eTu (aCn (eK (.str "copy")) (aCn (eV 9) (aCn (eV 12) aNl)))) (aCn (eTu (aCn (eK (.str "hear")) (aCn (eV 9) aNl))) (aCn (eTu (aCn (eK (.str "say")) (aCn (eV 12) aNl))) aNl)))) (e2 .v oMod.g (eV 14) (eK (.int 3))))) ar) ar) (aj (sIf (aL (e2 .v oLt.g (eV 14) (eK (.int 22)))) (aj (sRt (eTu (aCn (eK (.str "if")) (aCn (eV 9) (aCn (eCa 3 F6 (aCn (eV 8) (aCn (eV 1) (aCn (eV 2) aNl)))) aNl))))) ar) ar) (aj (sRt (eIx (eLs .v (aCn (eTu (aCn (eK (.str "end")) (aCn (eV 12) aNl))) (aCn (eTu (aCn (eK (.str "say")) (aCn (eV 13) aNl))) (aCn (eTu (aCn (eK (.str "go")) (aCn (eCa 3 F6 (aCn (eV 8) (aCn (eV 1) (aCn (eV 2) aNl)))) aNl))) aNl)))) (e2 .v oMod.g (e2 .v oDiv.g (eIx (eV 8) (eK (.int 5))) (eK (.int 64))) (eK (.int 3))))) ar))))
def RwD(cs ss:η Hd)(w n:Int)(r:Rw):Prop:=RwP cs ss r/\∀p,(match r with
 |.go t=>p=t
 |.ife _ t=>p=t∨p=w+1
 |.fin _=>False
 |_=>p=w+1)->0<=p/\p<n
theorem yD{V:Dt}{x7 w n kd:Int}{nm sf:Str}{a b:Key}{s3 s4 s5 s6 s7:ζ CV}(h4:ixV ch (.g V) (.int 4)=ς (I x4))(h5:ixV ch (.g V) (.int 5)=ς (I x5))(h7:ixV ch (.g V) (.int 7)=ς (I x7))(hw:0<=w)(hn:w+1<n)(hk:0<=kd)(O:bq a)(hb:bq b)(hnm:nm∈cs.map (·.1))(hsf:sf∈ss.map (·.1)):∃r,RwD cs ss w n r/\zP [s0,ς (I w),ς (I n),s3,s4,s5,s6,s7,ς (.g V),ς (.g (.str x)),ς (.g (.str nm)),ς (.g (.str sf)),ς (.g (ak a)),ς (.g (ak b)),ς (I kd)] ch=ς (.rt (.g r.d) ch):=by
 obtain⟨t,W,ht1,ht⟩:=C4 h4 h5 hw hn;have nx:∀p,p=w+1->0<=p/\p<n:=fun p e=>by lia
 unfold zP;rw[kY (kd:=kd) rfl];by_cases k5:kd<5
 .rw[if_pos k5];obtain⟨sg,hsg⟩:=yC (i:=x7%8) Θ Θ
  have U:ixV ch (.g (.str "+-*<=&|^")) (.int (x7%8))=ς (.g (.str sg)):=by show(ixD (.str "+-*<=&|^") (.int (x7%8))).map CV.g=_;rw[hsg];rfl
  refine⟨.op x sg a b,⟨⟨O,hb⟩,nx⟩,?_⟩;simp! only[Rw.d];simp[lent,vw,fin,T.d,CV.sol,h7,oMod,aA,U,dats,qa7]
 rw[if_neg k5,kY (kd:=kd) rfl];have ix:∀{l:η Dt}{i:Int},ixV ch (.g (.e l)) (.int i)=(ixD (.e l) (.int i)).map CV.g:=fun {l i}=>rfl
 by_cases k17:kd<17
 .rw[if_pos k17];rcases(show kd%4=0∨kd%4=1∨kd%4=2∨kd%4=3 by lia)with q|q|q|q
  .refine⟨.load x nm,⟨hnm,nx⟩,?_⟩;simp! only[Rw.d];simp[lent,vw,fin,T.d,CV.sol,oMod,aA,dats,finL,qa7,q,ix,ixD,az,gIx,atI,ixN]
  .refine⟨.store nm a,⟨⟨hnm,O⟩,nx⟩,?_⟩;simp! only[Rw.d];simp[lent,vw,fin,T.d,CV.sol,oMod,aA,dats,finL,qa7,q,ix,ixD,az,gIx,atI,ixN]
  .refine⟨.take x sf a,⟨⟨hsf,O⟩,nx⟩,?_⟩;simp! only[Rw.d];simp[lent,vw,fin,T.d,CV.sol,oMod,aA,dats,finL,qa7,q,ix,ixD,az,gIx,atI,ixN]
  .refine⟨.lay sf a b,⟨⟨hsf,O,hb⟩,nx⟩,?_⟩;simp! only[Rw.d];simp[lent,vw,fin,T.d,CV.sol,oMod,aA,dats,finL,qa7,q,ix,ixD,az,gIx,atI,ixN]
 rw[if_neg k17,kY (kd:=kd) rfl];by_cases k20:kd<20
 .rw[if_pos k20];rcases(show kd%3=0∨kd%3=1∨kd%3=2 by lia)with q|q|q
  .refine⟨.copy x a,⟨O,nx⟩,?_⟩;simp! only[Rw.d];simp[lent,vw,fin,T.d,CV.sol,oMod,aA,dats,finL,qa7,q,ix,ixD,az,gIx,atI,ixN]
  .refine⟨.hear x,⟨trivial,nx⟩,?_⟩;simp! only[Rw.d];simp[lent,vw,fin,T.d,CV.sol,oMod,aA,dats,finL,qa7,q,ix,ixD,az,gIx,atI,ixN]
  .refine⟨.say a,⟨O,nx⟩,?_⟩;simp! only[Rw.d];simp[lent,vw,fin,T.d,CV.sol,oMod,aA,dats,finL,qa7,q,ix,ixD,az,gIx,atI,ixN]
 rw[if_neg k20,kY (kd:=kd) rfl];by_cases Z:kd<22
 .rw[if_pos Z];refine⟨.ife x t,⟨trivial,fun p hp=>by rcases hp with rfl|rfl;exact⟨W,ht1⟩;lia⟩,?_⟩;simp! only[Rw.d];simp[lent,vw,fin,T.d,CV.sol,CV.old,ht,dats,qa7]
 rw[if_neg Z];rcases(show x5/64%3=0∨x5/64%3=1∨x5/64%3=2 by lia)with q|q|q
 .refine⟨.fin a,⟨O,fun p hp=>hp.elim⟩,?_⟩;simp! only[Rw.d];simp[lent,vw,fin,T.d,CV.sol,CV.old,ht,h5,oMod,aA,oDiv,bu,dats,finL,qa7,q,ix,ixD,az,gIx,atI,ixN]
 .refine⟨.say b,⟨hb,nx⟩,?_⟩;simp! only[Rw.d];simp[lent,vw,fin,T.d,CV.sol,CV.old,ht,h5,oMod,aA,oDiv,bu,dats,finL,qa7,q,ix,ixD,az,gIx,atI,ixN]
 .refine⟨.go t,⟨trivial,fun p hp=>by subst hp;exact⟨W,ht1⟩⟩,?_⟩;simp! only[Rw.d];simp[lent,vw,fin,T.d,CV.sol,CV.old,ht,h5,oMod,aA,oDiv,bu,dats,finL,qa7,q,ix,ixD,az,gIx,atI,ixN]
theorem nT{α:Type}{f:α->Dt}{l:η α}(hl:0<l.length)(v:Int):∃a∈l,ixV ch (.g (.e (l.map f))) (.int (v%(l.length:Int)))=ς (.g (f a)):=by
 have b0:=qh9 v (show(l.length:Int)≠0 by lia);have b1:=qf3 v (show(0:Int)<l.length by lia);obtain⟨k,U⟩:=qf9 b0;have O:k<l.length:=by lia
 refine⟨l[k],ql2 O,?_⟩;show(ixD (.e (l.map f)) (.int (v%(l.length:Int)))).map CV.g=_;rw[U,fw O];rfl
theorem yE{cs ss:η Hd}(W:Wd bx cs ss inc)(cell w n:Int)(hw:0<=w)(hn:w+1<n):∃r,RwD cs ss w n r/\F7 [I cell,I w,I n,.g (wdD bx cs ss inc)] ch=ς (.g r.d,ch):=by
 obtain⟨vs,hv1,hv2,hv3⟩:=bV (ch:=ch) cell 8 Θ;obtain⟨V,hV⟩:∃V:Dt,V=.e (vs.map .int):=⟨_,rfl⟩
 have xv:∀k:Nat,k<8->ixV ch (.g V) (.int k)=ς (I (vs.getD k 0)):=fun k hk=>by rw[hV];show(ixD _ _).map CV.g=_;rw[ixI Θ];rfl
 rw[<- hV]at hv1;have sm:=fun k (h:k<8)=>zN hv3 (k:=k) Θ
 have x0:ixV ch (.g V) (.int 0)=ς (I (vs.getD 0 0)):=xv 0 Θ;have x1:ixV ch (.g V) (.int 1)=ς (I (vs.getD 1 0)):=xv 1 Θ;have x2:ixV ch (.g V) (.int 2)=ς (I (vs.getD 2 0)):=xv 2 Θ;have x3:ixV ch (.g V) (.int 3)=ς (I (vs.getD 3 0)):=xv 3 Θ;have x6:ixV ch (.g V) (.int 6)=ς (I (vs.getD 6 0)):=xv 6 Θ;have x4:ixV ch (.g V) (.int 4)=ς (I (vs.getD 4 0)):=xv 4 Θ;have x5:ixV ch (.g V) (.int 5)=ς (I (vs.getD 5 0)):=xv 5 Θ;have x7:ixV ch (.g V) (.int 7)=ς (I (vs.getD 7 0)):=xv 7 Θ;have sm0:=(sm 0 Θ).1;clear xv sm;generalize vs.getD 0 0=y0 at*
 generalize vs.getD 1 0=y1 at*
 generalize vs.getD 2 0=y2 at*
 generalize vs.getD 3 0=y3 at*
 generalize vs.getD 4 0=y4 at*
 generalize vs.getD 5 0=y5 at*
 generalize vs.getD 6 0=y6 at*
 generalize vs.getD 7 0=y7 at*
 obtain⟨x,_,hx⟩:=nT (ch:=ch) (f:=Dt.str) (l:=bx) (by have:=W.b4;lia) y1;obtain⟨c,hcm,hc⟩:=nT (ch:=ch) (f:=Hd.d) (l:=cs) W.c0.1 y6;obtain⟨s,hsm,hs⟩:=nT (ch:=ch) (f:=Hd.d) (l:=ss) W.s0.1 y6;obtain⟨a,ha,fa⟩:=kX (ch:=ch) y2 (xs:=bx) (by intro e;have:=W.b4;rw[e]at this;cases this);obtain⟨b,hb,fb⟩:=kX (ch:=ch) y3 (xs:=bx) (by intro e;have:=W.b4;rw[e]at this;cases this);obtain⟨B,hB⟩:∃B:Dt,B=.e (bx.map .str):=⟨_,rfl⟩;obtain⟨C,hC⟩:∃C:Dt,C=.e (cs.map Hd.d):=⟨_,rfl⟩;obtain⟨D,hD⟩:∃D:Dt,D=.e (ss.map Hd.d):=⟨_,rfl⟩;obtain⟨L,hL⟩:∃L:Dt,L=.e (inc.map .int):=⟨_,rfl⟩;have lB:bLen.g [B]=ς (.f (.int bx.length)):=by rw[hB];simp[bLen,kf]
 have lC:bLen.g [C]=ς (.f (.int cs.length)):=by rw[hC];simp[bLen,kf]
 have lD:bLen.g [D]=ς (.f (.int ss.length)):=by rw[hD];simp[bLen,kf]
 have pB:0<bx.length:=by have:=W.b4;lia
 have pC:0<cs.length:=W.c0.1;have pD:0<ss.length:=W.s0.1;rw[<- hB]at hx fa fb;rw[<- hC]at hc;rw[<- hD]at hs;show ∃r,RwD cs ss w n r/\F7 [I cell,I w,I n,.g (.t [.e (bx.map .str),.e (cs.map Hd.d),.e (ss.map Hd.d),.e (inc.map .int)])] ch=ς (.g r.d,ch);rw[<- hB,<- hC,<- hD,<- hL];obtain⟨Γ,hΓ⟩:∃ Γ:Dt,Γ=.t [B,C,D,L]:=⟨_,rfl⟩;obtain⟨kd,hkd⟩:∃kd:Int,kd=y0%23:=⟨_,rfl⟩;obtain⟨r,hr,ht⟩:=yD (ch:=ch) (cs:=cs) (ss:=ss) (V:=V) (w:=w) (n:=n) (kd:=kd) (x:=x) (nm:=c.1) (sf:=s.1) (a:=a) (b:=b) (s0:=ς (I cell)) (s3:=ς (.g Γ)) (s4:=ς (.g B)) (s5:=ς (.g C)) (s6:=ς (.g D)) (s7:=ς (.g L)) x4 x5 x7 hw hn Θ ha hb (qc8.mpr ⟨c,hcm,rfl⟩) (qc8.mpr ⟨s,hsm,rfl⟩);have i0:∀h:Hd,ixV ch (.g h.d) (.int 0)=ς (.g (.str h.1)):=fun h=>rfl
 refine⟨r,hr,?_⟩;have s1:sUn (.many [4,5,6,7]) (eV 3) [ς (I cell),ς (I w),ς (I n),ς (.g Γ),ψ,ψ,ψ,ψ,ψ,ψ,ψ,ψ,ψ,ψ,ψ] ch=ς (.nx [ς (I cell),ς (I w),ς (I n),ς (.g Γ),ς (.g B),ς (.g C),ς (.g D),ς (.g L),ψ,ψ,ψ,ψ,ψ,ψ,ψ] ch):=by rw[hΓ];rfl
 have s2:=aF (i:=8) (δ:=[ς (I cell),ς (I w),ς (I n),ς (.g Γ),ς (.g B),ς (.g C),ς (.g D),ς (.g L),ψ,ψ,ψ,ψ,ψ,ψ,ψ]) (aY (n:=2) (F:=F2) (fs:=aCn (eV 0) (aCn (eK (.int 8)) aNl)) (cs:=[I cell,I 8]) rfl ⟨rfl,rfl⟩ hv1) rfl
 have s3:aO 9 (eIx (eV 4) (e2 .v oMod.g (eIx (eV 8) (eK (.int 1))) (eB .v bLen.g (aCn (eV 4) aNl)))) [ς (I cell),ς (I w),ς (I n),ς (.g Γ),ς (.g B),ς (.g C),ς (.g D),ς (.g L),ς (.g V),ψ,ψ,ψ,ψ,ψ,ψ] ch=ς (.nx [ς (I cell),ς (I w),ς (I n),ς (.g Γ),ς (.g B),ς (.g C),ς (.g D),ς (.g L),ς (.g V),ς (.g (.str x)),ψ,ψ,ψ,ψ,ψ] ch):=by simp! only[];simp[lent,vw,vws,fin,T.d,CV.kp,x1,lB,oMod,aA,pB,hx]
 have s4:aO 10 (eIx (eIx (eV 5) (e2 .v oMod.g (eIx (eV 8) (eK (.int 6))) (eB .v bLen.g (aCn (eV 5) aNl)))) (eK (.int 0))) [ς (I cell),ς (I w),ς (I n),ς (.g Γ),ς (.g B),ς (.g C),ς (.g D),ς (.g L),ς (.g V),ς (.g (.str x)),ψ,ψ,ψ,ψ,ψ] ch=ς (.nx [ς (I cell),ς (I w),ς (I n),ς (.g Γ),ς (.g B),ς (.g C),ς (.g D),ς (.g L),ς (.g V),ς (.g (.str x)),ς (.g (.str c.1)),ψ,ψ,ψ,ψ] ch):=by simp! only[];simp[lent,vw,vws,fin,T.d,CV.kp,x6,lC,oMod,aA,pC,hc,i0]
 have s5:aO 11 (eIx (eIx (eV 6) (e2 .v oMod.g (eIx (eV 8) (eK (.int 6))) (eB .v bLen.g (aCn (eV 6) aNl)))) (eK (.int 0))) [ς (I cell),ς (I w),ς (I n),ς (.g Γ),ς (.g B),ς (.g C),ς (.g D),ς (.g L),ς (.g V),ς (.g (.str x)),ς (.g (.str c.1)),ψ,ψ,ψ,ψ] ch=ς (.nx [ς (I cell),ς (I w),ς (I n),ς (.g Γ),ς (.g B),ς (.g C),ς (.g D),ς (.g L),ς (.g V),ς (.g (.str x)),ς (.g (.str c.1)),ς (.g (.str s.1)),ψ,ψ,ψ] ch):=by simp! only[];simp[lent,vw,vws,fin,T.d,CV.kp,x6,lD,oMod,aA,pD,hs,i0]
 have s6:aO 12 (eCa 2 F5 (aCn (eIx (eV 8) (eK (.int 2))) (aCn (eV 4) aNl))) [ς (I cell),ς (I w),ς (I n),ς (.g Γ),ς (.g B),ς (.g C),ς (.g D),ς (.g L),ς (.g V),ς (.g (.str x)),ς (.g (.str c.1)),ς (.g (.str s.1)),ψ,ψ,ψ] ch=ς (.nx [ς (I cell),ς (I w),ς (I n),ς (.g Γ),ς (.g B),ς (.g C),ς (.g D),ς (.g L),ς (.g V),ς (.g (.str x)),ς (.g (.str c.1)),ς (.g (.str s.1)),ς (.g (ak a)),ψ,ψ] ch):=by simp! only[];simp[lent,vw,CV.old,CV.kp,x2,fa]
 have s7:aO 13 (eCa 2 F5 (aCn (eIx (eV 8) (eK (.int 3))) (aCn (eV 4) aNl))) [ς (I cell),ς (I w),ς (I n),ς (.g Γ),ς (.g B),ς (.g C),ς (.g D),ς (.g L),ς (.g V),ς (.g (.str x)),ς (.g (.str c.1)),ς (.g (.str s.1)),ς (.g (ak a)),ψ,ψ] ch=ς (.nx [ς (I cell),ς (I w),ς (I n),ς (.g Γ),ς (.g B),ς (.g C),ς (.g D),ς (.g L),ς (.g V),ς (.g (.str x)),ς (.g (.str c.1)),ς (.g (.str s.1)),ς (.g (ak a)),ς (.g (ak b)),ψ] ch):=by simp! only[];simp[lent,vw,CV.old,CV.kp,x3,fb]
 have s8:aO 14 (e2 .v oMod.g (eIx (eV 8) (eK (.int 0))) (eK (.int 23))) [ς (I cell),ς (I w),ς (I n),ς (.g Γ),ς (.g B),ς (.g C),ς (.g D),ς (.g L),ς (.g V),ς (.g (.str x)),ς (.g (.str c.1)),ς (.g (.str s.1)),ς (.g (ak a)),ς (.g (ak b)),ψ] ch=ς (.nx [ς (I cell),ς (I w),ς (I n),ς (.g Γ),ς (.g B),ς (.g C),ς (.g D),ς (.g L),ς (.g V),ς (.g (.str x)),ς (.g (.str c.1)),ς (.g (.str s.1)),ς (.g (ak a)),ς (.g (ak b)),ς (I kd)] ch):=by simp! only[];simp[lent,vw,fin,T.d,CV.kp,x0,oMod,aA,hkd]
 rw[<- hΓ,q7];exact aT (ae s1 (ae s2 (ae s3 (ae s4 (ae s5 (ae s6 (ae s7 (ae s8 ht))))))))
end
section
variable{ch:CH}
theorem Fv{d:Dt}(hl:l.length<=1000):oAdd.g (.t l) (.t [d])=ς (.f (.t (l++[d]))):=by
 cases l with
 |nil=>rfl
 |cons a l=>
  show orO cW iy _ _=_;unfold orO cW;have:(a::l).length+[d].length<=qa9:=by rw[qa7];simp at hl ⊢;lia
  simp only[this,true_and];simp
abbrev pE:Fg:=eCa 4 F7 (aCn (eIx (eV 1) (eV 0)) (aCn (eV 0) (aCn (e2 .v oAdd.g (eB .v bLen.g (aCn (eV 1) aNl)) (eK (.int 1))) (aCn (eV 2) aNl))))
theorem Fw{S W:Dt}{x O n:Int}{r:Rw}(h1:ixV ch (.g S) (.int x)=ς (I O))(h2:bLen.g [S]=ς (.f (.int n)))(U:F7 [I O,I x,I (n+1),.g W] ch=ς (.g r.d,ch)):pE [ς (I x),ς (.g S),ς (.g W)] ch=ς (.g r.d,ch):=by simp! only[];simp[lent,vw,vws,fin,T.d,CV.old,h1,h2,oAdd,orO,cW,U]
theorem zQ{fs:FM (η CV)}(hs:fs δ ch=ς (ds.map .g,ch))(hl:ds.length<=qa9):eTu fs δ ch=ς (.g (.t ds),ch):=by unfold eTu;rw[hs,qa0];dsimp only;rw[if_pos (by rw[qa4];exact hl),cA]
theorem pG:∀ds:η Dt,vws ch (ds.map .g)=ς ds
 |[]=>rfl
 |d::ds=>by show(vws ch (ds.map .g)).map (d::·)=_;rw[pG ds];rfl
theorem pH{m:Md}{g:η Dt->ζ T}{fs:FM (η CV)}{t:T}(hs:fs δ ch=ς (ds.map .g,ch))(O:g ds=ς t):eB m g fs δ ch=fin m ch t:=by unfold eB kB;rw[hs,qa0];dsimp only;rw[pG,qa0,O];rfl
theorem vg{n p:Int}{r:Rw}(h:RwD cs ss i n r)(hp:iG i r p):0<=p/\p<n:=h.2 p (by cases r<;>exact hp)
theorem yF(W:Wd bx cs ss inc)(Z:η Int)(hm:Z.length<=100)(O:Key)(hla:bq O):∃R:η Rw,(0<R.length/\R.length<=1000)/\(∀r∈R,RwP cs ss r)/\(∀(i:Nat) r p,R[i]?=ς r->iG i r p->∃j:Nat,p=j/\j<R.length)/\R.length=Z.length+1/\F8 [.g (.e (Z.map .int)),.g (wdD bx cs ss inc),.g (ak O)] ch=ς (.g (pgm cs ss R),ch):=by
 obtain⟨S,hS⟩:∃S:Dt,S=.e (Z.map .int):=⟨_,rfl⟩;have lS:bLen.g [S]=ς (.f (.int Z.length)):=by rw[hS];simp[bLen,kf]
 obtain⟨ys,e1,e2',e3⟩:=dz (pt:=.one 0) (ft:=tYs) (fe:=pE) (δ:=[ψ,ς (.g S),ς (.g (wdD bx cs ss inc))]) (ch:=ch) (f:=fun i:Nat=>.int (0+(i:Int))) (g:=fun p:Nat×Rw=>p.2.d) (h:=fun p:Nat×Rw=>p.1) (h':=fun i=>i) (Q:=fun p:Nat×Rw=>RwD cs ss p.1 (Z.length+1) p.2) (l:=qd7 Z.length) fun i hi=>by have hi:=qe9.mp hi;obtain⟨r,U,h⟩:=yE (ch:=ch) W (Z.getD i 0) (i:Int) (Z.length+1) Θ Θ;refine⟨[ς (I (0+(i:Int))),ς (.g S),ς (.g (wdD bx cs ss inc))],(i,r),rfl,rfl,?_,U,rfl⟩;rw[qr2];refine Fw ?_ lS h;rw[hS];show(ixD _ _).map CV.g=_;rw[ixI hi];rfl
 have hl:ys.length=Z.length:=by have:=congrArg qm0 e3;simpa using this
 refine⟨ys.map (·.2)++[.fin O],by simp;lia,fun r U=>?_,fun i r p U hp=>?_,by simp[hl],?_⟩
 .rcases qf5.mp U with U|U
  .obtain⟨y,hy,rfl⟩:=qc8.mp U;exact(e2' y hy).1
  .simp at U;subst U;exact hla
 .rcases qj9 i ys.length with hi|hi
  .rw[qg3 (by simpa using hi),qa8]at U;obtain⟨y,hy,rfl⟩:=mS U;have h1:(ys.map fun p=>p.1)[i]?=ς y.1:=by rw[qa8,hy];rfl
   have h2:(ys.map fun p=>p.1)[i]?=ς i:=by rw[e3];simp[show i<Z.length by lia]
   have hfi:y.1=i:=by rw[h1]at h2;exact qc9 h2
   have hq:=e2' y (qa5 hy);rw[hfi]at hq;have:=vg hq hp;exact⟨p.toNat,Θ,by simp;lia⟩
  .have hi2:i=ys.length:=by have:=ao U;simp at this;lia
   subst hi2;simp at U;subst U;exact hp.elim
 .have s1:=aF (i:=3) (δ:=[ς (.g S),ς (.g (wdD bx cs ss inc)),ς (.g (ak O)),ψ]) (ch:=ch) (ef (src:=[ψ,ς 0,ς 1]) (fi:=iR 1 (aCn (eB .v bLen.g (aCn (eV 0) aNl)) aNl)) (dA (aS (by simp! only[];simp[lent,vw,vws,lS,fin,T.d])) (aN Θ)) rfl e1 (by rw[qa4,qa7];lia)) rfl;have ad:=Fv (l:=ys.map fun p=>p.2.d) (d:=.t [.str "end",ak O]) (by simp;lia);have ra:e2 .v oAdd.g (eB .v bTup.g (aCn (eV 3) aNl)) (eTu (aCn (eTu (aCn (eK (.str "end")) (aCn (eV 2) aNl))) aNl)) [ς (.g S),ς (.g (wdD bx cs ss inc)),ς (.g (ak O)),ς (.g (.e (ys.map fun p=>p.2.d)))] ch=ς (.g (.t ((ys.map fun p=>p.2.d)++[.t [.str "end",ak O]])),ch):=cH (x:=.g (.t (ys.map fun p=>p.2.d))) (y:=.g (.t [.t [.str "end",ak O]])) rfl rfl rfl rfl ad;have hp:pgm cs ss (ys.map (·.2)++[.fin O])=.t [.t (cs.map Hd.d),.t (ss.map Hd.d),.t ((ys.map fun p=>p.2.d)++[.t [.str "end",ak O]])]:=by simp[Rw.d,qb4]
  rw[hp,<- hS,q8];refine aT (ae s1 (bR (ck ?_ rfl)));have r1:eB .v bTup.g (aCn (eIx (eV 1) (eK (.int 1))) aNl) [ς (.g S),ς (.g (wdD bx cs ss inc)),ς (.g (ak O)),ς (.g (.e (ys.map fun p=>p.2.d)))] ch=ς (.g (.t (cs.map Hd.d)),ch):=rfl;have r2:eB .v bTup.g (aCn (eIx (eV 1) (eK (.int 2))) aNl) [ς (.g S),ς (.g (wdD bx cs ss inc)),ς (.g (ak O)),ς (.g (.e (ys.map fun p=>p.2.d)))] ch=ς (.g (.t (ss.map Hd.d)),ch):=rfl;exact zQ (ds:=[.t (cs.map Hd.d),.t (ss.map Hd.d),.t ((ys.map fun p=>p.2.d)++[.t [.str "end",ak O]])]) (aU r1 (aU r2 (aS ra))) (by rw[qa7];simp)
theorem pI(n:Int)(hn:xs.Nodup)(hl:xs.length<=6):∃bs:η Str,(bs.Nodup/\bs.length<=6)/\F9 [I n,.g (.e (xs.map .str))] ch=ς (.g (.t (bs.map .str)),ch):=by
 obtain⟨X,W⟩:∃X:Dt,X=.e (xs.map .str):=⟨_,rfl⟩;have lX:bLen.g [X]=ς (.f (.int xs.length)):=by rw[W];simp[bLen,kf]
 have xX:∀k:Nat,k<xs.length->ixV ch (.g X) (.int k)=ς (.g (.str (xs.getD k qz2))):=fun k hk=>by rw[W];show(ixD _ _).map CV.g=_;rw[ixS hk];rfl
 obtain⟨q,hq⟩:∃q:Nat->Bool,q=fun i:Nat=>decide (qw6 (n/2^((0+(i:Int)).toNat)) 1=1):=⟨_,rfl⟩
 have e1:=dw (pt:=.one 0) (ft:=aL (e2 .v oEq.g (e2 .v oBan.g (e2 .v oShr.g (eV 2) (eV 0)) (eK (.int 1))) (eK (.int 1)))) (fe:=eIx (eV 1) (eV 0)) (δ:=[ψ,ς (.g X),ς (I n)]) (ch:=ch) (f:=fun i:Nat=>.int (0+(i:Int))) (g:=fun i:Nat=>.str (xs.getD i qz2)) (p:=q) (l:=qd7 xs.length) fun i hi=>by
  refine⟨[ς (I (0+(i:Int))),ς (.g X),ς (I n)],rfl,?_,fun _=>?_⟩
  .rw[hq];show _=ς (decide (qw6 (n/2^((0+(i:Int)).toNat)) 1=1),ch);have h0:(0:Int)<=0+(i:Int):=by lia
   generalize (0:Int)+(i:Int)=z at h0 ⊢;simp! only[];simp[lent,vw,fin,T.d,bN,oShr,xm,h0,oBan,qc,oEq,gEq,eqD]
  .rw[qr2];simp! only[];simp[lent,vw,xX i (qe9.mp hi)]
 obtain⟨ys,O⟩:∃ys:η Str,ys=((qd7 xs.length).filter q).map fun i=>xs.getD i qz2:=⟨_,rfl⟩
 have hnd:ys.Nodup:=by rw[O];exact ve hn (List.Pairwise.filter _ qn4) fun i hi=>qe9.mp (za7.mp hi).1
 have U:ys.length<=6:=by rw[O,qa4];have:=zc6 q (qd7 xs.length);rw[qx9]at this;lia
 have Z:aH (bnd (.one 0)) (aL (e2 .v oEq.g (e2 .v oBan.g (e2 .v oShr.g (eV 2) (eV 0)) (eK (.int 1))) (eK (.int 1)))) (eIx (eV 1) (eV 0)) [ψ,ς (.g X),ς (I n)] (aD 0 xs.length) ch=ς ((ys.map .str).map .g,ch):=by rw[O,qd4,qd4];exact e1
 have hco:=ef (src:=[ψ,ς 1,ς 0]) (δ:=[ς (I n),ς (.g X)]) (fi:=iR 1 (aCn (eB .v bLen.g (aCn (eV 1) aNl)) aNl)) (dA (aS (by simp! only[];simp[lent,vw,vws,lX,fin,T.d])) (aN Θ)) rfl Z (by rw[qa4,qa7];lia)
 have hsr:bSrt.g [.e (ys.map .str)]=ς (.e ((dQ ys).map .str)):=by simp only[bSrt,gF,ej,qa0,show ys.length<64 by lia,if_true]
 refine⟨dQ ys,⟨(cP ys).nodup_iff.mpr hnd,by rw[(cP ys).length_eq];exact U⟩,?_⟩;rw[<- W,q9];refine aT (bR (ck ?_ rfl));have h1:=pH (m:=.v) (g:=bSrt.g) (ds:=[.e (ys.map .str)]) (aS hco) hsr;exact pH (m:=.v) (g:=bTup.g) (ds:=[.e ((dQ ys).map .str)]) (aS h1) rfl
end
variable{s1:ζ CV}{st:Int}{R:η Rw}
section
variable{ch:CH}
theorem Fy(r:Rw):∃k l,r.d=.t (.str k::l):=by cases r<;>exact⟨_,_,rfl⟩
abbrev kB':Fs:=aj (sIf (iT (aL (e2 .v oEq.g (eIx (eIx (eV 3) (eV 7)) (eK (.int 0))) (eK (.str "end")))) (aL (e2 .v oEq.g (e2 .v oMod.g (eIx (eV 4) (e2 .v oAdd.g (eV 7) (eK (.int 1)))) (eV 5)) (eK (.int 0))))) (aj (sAs 6 (eTu (aCn (eV 7) (aCn (eCa 2 F9 (aCn (e2 .v oDiv.g (eIx (eV 4) (e2 .v oAdd.g (eV 7) (eK (.int 1)))) (eK (.int 30))) (aCn (eV 2) aNl))) aNl)))) ar) ar) ar
theorem Fz{W V X:Dt}{x v:Int}{k:Str}{rest:η Dt}{bs:η Str}(Z:ixV ch (.g W) (.int x)=ς (.g (.t (.str k::rest))))(h4:ixV ch (.g V) (.int (x+1))=ς (I v))(U:0<st)(hb:F9 [I (v/30),.g X] ch=ς (.g (.t (bs.map .str)),ch))(hl:l.length<=1000):kB' [s0,s1,ς (.g X),ς (.g W),ς (.g V),ς (I st),ς (.own θ (.e l)),ς (I x)] ch=ς (.nx [s0,s1,ς (.g X),ς (.g W),ς (.g V),ς (I st),ς (.own θ (.e l)),ς (I x)] ch)∨kB' [s0,s1,ς (.g X),ς (.g W),ς (.g V),ς (I st),ς (.own θ (.e l)),ς (I x)] ch=ς (.nx [s0,s1,ς (.g X),ς (.g W),ς (.g V),ς (I st),ς (.own θ (.e (l++[.t [.int x,.t (bs.map .str)]]))),ς (I x)] ch):=by
 have i0:ixV ch (.g (.t (.str k::rest))) (.int 0)=ς (.g (.str k)):=by show(ixD _ _).map CV.g=_;simp[ixD,az,gIx,atI,ixN]
 have O:l.length<16777216:=by lia
 by_cases h:k=qa2 "end"∨v%st=0
 .right;rcases h with h|h
  .subst h;simp! only[sAs];simp[lent,vw,fin,T.d,bN,Z,i0,oEq,gEq,eqD,h4,oAdd,orO,cW,oDiv,bu,CV.old,hb,dats,qa7,b7,lG,O]
  .by_cases hk:k=qa2 "end"
   .subst hk;simp! only[sAs];simp[lent,vw,fin,T.d,bN,Z,i0,oEq,gEq,eqD,h4,oAdd,orO,cW,oDiv,bu,CV.old,hb,dats,qa7,b7,lG,O]
   .simp! only[sAs];simp[lent,vw,fin,T.d,bN,Z,i0,hk,h,oEq,gEq,eqD,h4,oMod,aA,U,oAdd,orO,cW,oDiv,bu,CV.old,hb,dats,qa7,b7,lG,O]
 .left;have h1:¬ k=qa2 "end":=fun e=>h (.inl e)
  have h2:¬ v%st=0:=fun e=>h (.inr e)
  simp! only[sAs];simp[lent,vw,fin,T.d,bN,Z,i0,h1,h2,oEq,gEq,eqD,h4,oMod,aA,U,oAdd,orO,cW]
theorem iL{s0 s1:ζ CV}{vs:η Int}(U:0<st)(hv:R.length+2<=vs.length)(hn:xs.Nodup)(hx:xs.length<=6)(hR:R.length<=101):∀{js:η Nat}{ks:η Kp'}{a7:ζ CV},(∀j∈js,j<R.length)->(ks.map (·.1)++js.map fun j:Nat=>(j:Int)).Nodup->(∀k∈ks,k.2.Nodup/\k.2.length<=6)->ks.length+js.length<=101->∃(O:η Kp')(a7':ζ CV),bK (bnd (.one 7)) kB' (js.map fun j:Nat=>.int (0+(j:Int))) [s0,s1,ς (.g (.e (xs.map .str))),ς (.g (.t (R.map Rw.d))),ς (.g (.e (vs.map .int))),ς (I st),ς (.own θ (.e (ks.map Kp'.d))),a7] ch=ς (.nx [s0,s1,ς (.g (.e (xs.map .str))),ς (.g (.t (R.map Rw.d))),ς (.g (.e (vs.map .int))),ς (I st),ς (.own θ (.e (O.map Kp'.d))),a7'] ch)/\(O.map (·.1)).Nodup/\∀k∈O,k.2.Nodup/\k.2.length<=6
 |[],ks,a7,_,W,hk,_=>⟨ks,a7,rfl,by simpa using W,hk⟩
 |j::js,ks,a7,hj,W,hk,hl=>by
  simp only[qb8]at hl;have hjl:=hj j (.head _);obtain⟨k,rest,hr⟩:=Fy R[j]
  have h3:ixV ch (.g (.t (R.map Rw.d))) (.int (0+(j:Int)))=ς (.g (.t (.str k::rest))):=by rw[qr2];show(ixD _ _).map CV.g=_;rw[(dI (L:=R.map Rw.d) (i:=j) (d:=R[j].d) (by rw[qa8,gQ hjl];rfl)).2,hr];rfl
  have h4:ixV ch (.g (.e (vs.map .int))) (.int (0+(j:Int)+1))=ς (I (vs.getD (j+1) 0)):=by rw[show(0:Int)+(j:Int)+1=((j+1:Nat):Int)by push_cast;lia];show(ixD _ _).map CV.g=_;rw[ixI Θ];rfl
  obtain⟨bs,hbs,hb⟩:=pI (ch:=ch) (vs.getD (j+1) 0/30) hn hx;rcases Fz (s0:=s0) (s1:=s1) (l:=ks.map Kp'.d) h3 h4 U hb (by simp;lia)with e|e
  .obtain⟨O,a7',i1,i2,i3⟩:=iL (s0:=s0) (s1:=s1) U hv hn hx hR (js:=js) (ks:=ks) (a7:=ς (I (0+(j:Int)))) (fun i hi=>hj i (.tail _ hi)) (by rw[qe2]at W ⊢;refine⟨W.1,?_,fun a ha b hb=>W.2.2 a ha b (by simp at hb ⊢;exact .inr hb)⟩;have:=W.2.1;rw[qa3,qd6]at this;exact this.2) hk Θ
   exact⟨O,a7',qz1 (cT rfl e) i1,i2,i3⟩
  .have hks:ks.map Kp'.d++[.t [.int (0+(j:Int)),.t (bs.map .str)]]=(ks++[((0+(j:Int),bs):Kp')]).map Kp'.d:=by simp[Kp'.d]
   rw[hks]at e
   obtain⟨O,a7',i1,i2,i3⟩:=iL (s0:=s0) (s1:=s1) U hv hn hx hR (js:=js) (ks:=ks++[((0+(j:Int),bs):Kp')]) (a7:=ς (I (0+(j:Int)))) (fun i hi=>hj i (.tail _ hi)) (by rw[qr2];simpa[qd8] using W) (fun q Z=>by rcases qf5.mp Z with Z|Z;exact hk q Z;simp at Z;subst Z;exact hbs) (by simp;lia)
   exact⟨O,a7',qz1 (cT rfl e) i1,i2,i3⟩
theorem yG{l:η Int}(h:0<l.length):∃v,ixV ch (.g (.e (l.map .int))) (.int (-1))=ς (I v):=by
 have:atI (l.map Dt.int) (-1)=ς (.int (l.getD (l.length-1) 0)):=by unfold atI ixN;rw[if_neg Ω,qa4,if_pos Θ,qa0,show((-1:Int)+(l.length:Int)).toNat=l.length-1 by lia,qa8,gQ Θ,qc3,gQ Θ];rfl
 refine⟨l.getD (l.length-1) 0,?_⟩;show(ixD _ _).map CV.g=_;simp[ixD,az,gIx,this]
theorem C5{cs:η Hd}{R:η Rw}{xs:η Str}(c:Int)(hn:xs.Nodup)(hx:xs.length<=6)(hR:0<R.length/\R.length<=98):∃bg ks,(bg.Nodup/\bg.length<=6)/\(ks.map (·.1)).Nodup/\(∀k∈ks,k.2.Nodup/\k.2.length<=6)/\F10 [.g (pgm cs ss R),I c,.g (.e (xs.map .str))] ch=ς (.g (cod bg ks),ch):=by
 obtain⟨vs,hv1,hv2,hv3⟩:=bV (ch:=ch) c (R.length+2) Θ
 have U:∃st:Int,0<st/\aO 5 (eIx (eLs .v (aCn (eK (.int 2)) (aCn (eK (.int 3)) (aCn (eK (.int 5)) aNl)))) (e2 .v oMod.g (eIx (eV 4) (eK (.int 0))) (eK (.int 3)))) [ς (.g (pgm cs ss R)),ς (I c),ς (.g (.e (xs.map .str))),ς (.g (.t (R.map Rw.d))),ς (.g (.e (vs.map .int))),ψ,ψ,ψ] ch=ς (.nx [ς (.g (pgm cs ss R)),ς (I c),ς (.g (.e (xs.map .str))),ς (.g (.t (R.map Rw.d))),ς (.g (.e (vs.map .int))),ς (I st),ψ,ψ] ch):=by
  have W:ixV ch (.g (.e (vs.map .int))) (.int 0)=ς (I (vs.getD 0 0)):=by show(ixD _ _).map CV.g=_;have:=ixI (xs:=vs) (k:=0) Θ;have e:ixD (.e (vs.map .int)) (.int 0)=ς (.int (vs.getD 0 0)):=this;rw[e];rfl
  generalize vs.getD 0 0=y at W;have ix:∀{l:η Dt}{i:Int},ixV ch (.g (.e l)) (.int i)=(ixD (.e l) (.int i)).map CV.g:=fun {l i}=>rfl
  generalize hV:Dt.e (vs.map .int)=V at W ⊢;rcases(show y%3=0∨y%3=1∨y%3=2 by lia)with q|q|q
  .refine⟨2,Θ,?_⟩;simp! only[];simp[lent,vw,fin,T.d,CV.kp,W,oMod,aA,dats,finL,qa7,q,ix,ixD,az,gIx,atI,ixN]
  .refine⟨3,Θ,?_⟩;simp! only[];simp[lent,vw,fin,T.d,CV.kp,W,oMod,aA,dats,finL,qa7,q,ix,ixD,az,gIx,atI,ixN]
  .refine⟨5,Θ,?_⟩;simp! only[];simp[lent,vw,fin,T.d,CV.kp,W,oMod,aA,dats,finL,qa7,q,ix,ixD,az,gIx,atI,ixN]
 obtain⟨st,Z,s3⟩:=U
 obtain⟨ks,a7,k1,k2,k3⟩:=iL (ch:=ch) (s0:=ς (.g (pgm cs ss R))) (s1:=ς (I c)) (R:=R) (vs:=vs) (xs:=xs) Z Θ hn hx Θ (js:=qd7 R.length) (ks:=[]) (a7:=ψ) (fun j hj=>qe9.mp hj) (by simp only[qe0,qh7];exact qm8 _ (fun a b h q=>h Θ) qn4) Ξ (by simp;lia)
 obtain⟨v,hv⟩:=yG (ch:=ch) (l:=vs) Θ;obtain⟨bg,hbg,hb⟩:=pI (ch:=ch) v hn hx;refine⟨bg,ks,hbg,k2,k3,?_⟩;have lR:bLen.g [.t (R.map Rw.d)]=ς (.f (.int R.length)):=by simp[bLen,kf]
 have O:∀ δ:Sl,δ[3]?=ς (ς (.g (.t (R.map Rw.d))))->eB .v bLen.g (aCn (eV 3) aNl) δ ch=ς (I R.length,ch):=fun δ h=>by
  have h3:eV 3 δ ch=ς (.g (.t (R.map Rw.d)),ch):=by unfold eV;rw[h];rfl
  exact pH (m:=.v) (ds:=[.t (R.map Rw.d)]) (aS h3) lR
 have s1:aO 3 (eIx (eV 0) (eK (.int 2))) [ς (.g (pgm cs ss R)),ς (I c),ς (.g (.e (xs.map .str))),ψ,ψ,ψ,ψ,ψ] ch=ς (.nx [ς (.g (pgm cs ss R)),ς (I c),ς (.g (.e (xs.map .str))),ς (.g (.t (R.map Rw.d))),ψ,ψ,ψ,ψ] ch):=rfl
 have hl2:e2 .v oAdd.g (eB .v bLen.g (aCn (eV 3) aNl)) (eK (.int 2)) [ς (.g (pgm cs ss R)),ς (I c),ς (.g (.e (xs.map .str))),ς (.g (.t (R.map Rw.d))),ψ,ψ,ψ,ψ] ch=ς (I ((R.length+2:Nat):Int),ch):=by rw[show((R.length+2:Nat):Int)=(R.length:Int)+2 by push_cast;rfl];exact cH (dx:=.int R.length) (dy:=.int 2) (t:=.f (.int (R.length+2))) (O _ rfl) rfl rfl rfl rfl
 have s2:=aF (i:=4) (aY (n:=2) (F:=F2) (cs:=[I c,I ((R.length+2:Nat):Int)]) (aU (f:=eV 1) (c:=I c) rfl (aS hl2)) ⟨rfl,rfl⟩ hv1) rfl;have s4:aO 6 (eLs .w aNl) [ς (.g (pgm cs ss R)),ς (I c),ς (.g (.e (xs.map .str))),ς (.g (.t (R.map Rw.d))),ς (.g (.e (vs.map .int))),ς (I st),ψ,ψ] ch=ς (.nx [ς (.g (pgm cs ss R)),ς (I c),ς (.g (.e (xs.map .str))),ς (.g (.t (R.map Rw.d))),ς (.g (.e (vs.map .int))),ς (I st),ς (.own θ (.e [])),ψ] ch):=rfl;have s5:=bH (fi:=iR 1 (aCn (eB .v bLen.g (aCn (eV 3) aNl)) aNl)) (ds:=aD 0 R.length) (dA (aS (O [ς (.g (pgm cs ss R)),ς (I c),ς (.g (.e (xs.map .str))),ς (.g (.t (R.map Rw.d))),ς (.g (.e (vs.map .int))),ς (I st),ς (.own θ (.e [])),ψ] rfl)) (aN Θ)) k1
 have x1:eIx (eV 4) (eNg (eK (.int 1))) [ς (.g (pgm cs ss R)),ς (I c),ς (.g (.e (xs.map .str))),ς (.g (.t (R.map Rw.d))),ς (.g (.e (vs.map .int))),ς (I st),ς (.own θ (.e (ks.map Kp'.d))),a7] ch=ς (I v,ch):=by generalize hV:Dt.e (vs.map .int)=V at hv ⊢;simp[eIx,eV,lent,eNg,eK,bO,vw,hv]
 have x2:=aY (n:=2) (F:=F9) (cs:=[I v,.g (.e (xs.map .str))]) (aU x1 (aS (f:=eV 2) (c:=.g (.e (xs.map .str))) rfl)) ⟨rfl,rfl⟩ hb;have x3:eB .v bTup.g (aCn (eV 6) aNl) [ς (.g (pgm cs ss R)),ς (I c),ς (.g (.e (xs.map .str))),ς (.g (.t (R.map Rw.d))),ς (.g (.e (vs.map .int))),ς (I st),ς (.own θ (.e (ks.map Kp'.d))),a7] ch=ς (.g (.t (ks.map Kp'.d)),ch):=rfl;rw[q10];exact aT (ae s1 (ae s2 (ae s3 (ae s4 (ae s5 (bR (ck (zQ (ds:=[.t (bg.map .str),.t (ks.map Kp'.d)]) (aU x2 (aS x3)) (by rw[qa7];simp)) rfl)))))))
end
section
variable{ch:CH}
abbrev fB:Fs:=aj (aO 3 (eCa 2 F2 (aCn (eV 2) (aCn (eK (.int 3)) aNl)))) (aj (aO 4 (e2 .v oMod.g (eIx (eV 3) (eK (.int 0))) (eK (.int 15)))) (aj (sIf (aL (e2 .v oEq.g (e2 .v oMod.g (eIx (eV 3) (eK (.int 2))) (eK (.int 5))) (eK (.int 0)))) (aj (aO 4 (e2 .v oMod.g (eIx (eV 3) (eK (.int 0))) (eK (.int 100)))) ar) ar) (aj (sAs 1 (eTu (aCn (eV 4) (aCn (eCa 1 F3 (aCn (eIx (eV 3) (eK (.int 1))) aNl)) aNl)))) ar)))
theorem FA{c:Int}(hl:l.length<=1000):∃(f:Fl)(a3' a4':ζ CV),(f.1<100/\Vi (.int f.2))/\fB [s0,ς (.own θ (.e l)),ς (I c),a3,a4] ch=ς (.nx [s0,ς (.own θ (.e (l++[f.d]))),ς (I c),a3',a4'] ch):=by
 obtain⟨vs,hv1,hv2,hv3⟩:=bV (ch:=ch) c 3 Θ
 have Z:∀k:Nat,k<3->ixV ch (.g (.e (vs.map .int))) (.int k)=ς (I (vs.getD k 0)):=fun k hk=>by show(ixD _ _).map CV.g=_;rw[ixI Θ];rfl
 have x0:ixV ch (.g (.e (vs.map .int))) (.int 0)=ς (I (vs.getD 0 0)):=Z 0 Θ;have x1:ixV ch (.g (.e (vs.map .int))) (.int 1)=ς (I (vs.getD 1 0)):=Z 1 Θ;have x2:ixV ch (.g (.e (vs.map .int))) (.int 2)=ς (I (vs.getD 2 0)):=Z 2 Θ;clear Z hv3 hv2;generalize vs.getD 0 0=W at x0;generalize vs.getD 1 0=y1 at x1;generalize vs.getD 2 0=y2 at x2;generalize Dt.e (vs.map .int)=V at*
 obtain⟨v,hv,hf⟩:=fC (ch:=ch) y1;have O:F2 [I c,.g (.int 3)] ch=ς (.g V,ch):=hv1;have U:l.length<16777216:=by lia
 by_cases h:y2%5=0
 .obtain⟨n,hn⟩:∃n:Nat,(n:Int)=W%100:=⟨(W%100).toNat,Θ⟩;refine⟨(n,v),ς (.g V),ς (I n),⟨by show n<100;lia,hv⟩,?_⟩
  .simp! only[sAs,Fl.d];simp[lent,vw,fin,T.d,bN,CV.old,CV.kp,O,x0,x1,x2,h,hf,oMod,aA,oEq,gEq,eqD,dats,qa7,b7,lG,U,hn]
 .obtain⟨n,hn⟩:∃n:Nat,(n:Int)=W%15:=⟨(W%15).toNat,Θ⟩;refine⟨(n,v),ς (.g V),ς (I n),⟨by show n<100;lia,hv⟩,?_⟩
  .simp! only[sAs,Fl.d];simp[lent,vw,fin,T.d,bN,CV.old,CV.kp,O,x0,x1,x2,h,hf,oMod,aA,oEq,gEq,eqD,dats,qa7,b7,lG,U,hn]
theorem mt{s0:ζ CV}:∀{cs:η Int}{fs:η Fl}{a2 a3 a4:ζ CV},(∀f∈fs,f.1<100/\Vi (.int f.2))->fs.length+cs.length<=1000->∃(fs':η Fl)(W O U:ζ CV),bK (bnd (.one 2)) fB (cs.map .int) [s0,ς (.own θ (.e (fs.map Fl.d))),a2,a3,a4] ch=ς (.nx [s0,ς (.own θ (.e (fs'.map Fl.d))),W,O,U] ch)/\(∀f∈fs',f.1<100/\Vi (.int f.2))/\fs'.length=fs.length+cs.length
 |[],fs,a2,a3,a4,h,_=>⟨fs,a2,a3,a4,rfl,h,rfl⟩
 |c::cs,fs,a2,a3,a4,h,hl=>by
  simp only[qb8]at hl;obtain⟨f,b3,b4,hf,e⟩:=FA (ch:=ch) (s0:=s0) (a3:=a3) (a4:=a4) (c:=c) (l:=fs.map Fl.d) (by simp;lia);obtain⟨fs',W,O,U,i1,i2,i3⟩:=mt (s0:=s0) (cs:=cs) (fs:=fs++[f]) (a2:=ς (I c)) (a3:=b3) (a4:=b4) (fun g Z=>by rcases qf5.mp Z with Z|Z;exact h g Z;simp at Z;subst Z;exact hf) (by simp;lia);have hm:fs.map Fl.d++[f.d]=(fs++[f]).map Fl.d:=by simp
  rw[hm]at e;exact⟨fs',W,O,U,qz1 (cT rfl e) i1,i2,by rw[i3];simp;lia⟩
theorem vh(cs:η Int)(hl:cs.length<=100):∃fs:η Fl,F11 [.g (.e (cs.map .int))] ch=ς (.g (.e (fs.map Fl.d)),ch)/\(∀f∈fs,f.1<100/\Vi (.int f.2))/\fs.length=cs.length:=by obtain⟨fs,a2,a3,a4,W,O,U⟩:=mt (ch:=ch) (s0:=ς (.g (.e (cs.map .int)))) (cs:=cs) (fs:=[]) (a2:=ψ) (a3:=ψ) (a4:=ψ) Ξ (by simp;lia);refine⟨fs,?_,O,by rw[U];simp⟩;rw[q11];exact aT (ae (δ':=[ς (.g (.e (cs.map .int))),ς (.own θ (.e [])),ψ,ψ,ψ]) (ch1:=ch) rfl (ae (bH (ds:=cs.map .int) rfl W) rfl))
theorem vj{α:Type}(f:α->Dt)(l:η α)(a b:ζ Int):∃m:η α,gSl (.e (l.map f)) a b=ς (.e (m.map f))/\m.length<=l.length/\∀x∈m,x∈l:=by
 refine⟨(l.drop (HT.sIx (l.map f).length 0 a)).take (HT.sIx (l.map f).length (l.map f).length b-HT.sIx (l.map f).length 0 a),?_,?_,fun x O=>List.mem_of_mem_drop (qp2 O)⟩
 .show ς (T.e (fQ (l.map f) a b))=_;unfold fQ;rw[ze8,List.map_drop]
 .simp only[qk9,qt2];lia
theorem mw{α:Type}(f:α->Dt)(l:η α)(b:Int)(hb:0<=b):gSl (.e (l.map f)) ψ (ς b)=ς (.e ((l.take b.toNat).map f)):=by obtain⟨k,rfl⟩:=qf9 hb;show ς (T.e (fQ (l.map f) ψ (ς (k:Int))))=_;unfold fQ;rw[HT.FC];simp only[HT.sIx,qa4,zf8,List.drop_zero,qi4];rw[ze8,List.take_eq_take_min,qa4];simp
end
section
variable{cs ss:η Hd}{R:η Rw}{bg:η Str}{ks:η Kp'}{inc:η Dt}
theorem C6{cs:CH}(h:At ρ cs b)(L:CH):At ρ cs (b++L):=⟨h.inj,fun hi=>by have:=h.get hi;rw[gL (ao this)];exact this⟩
theorem Pr.mkH(P:Pr cs ss R bg ks inc)(ch:CH):∃(L:CH)(ρ:Nat->Nat),ρ 0=ch.length/\(∀i,ch.length<=ρ i)/\At ρ (c (shC cs++shS ss) (st0 cs ss R bg ks inc)) (ch++L)/\∀(fs:FM (η CV))(δ:Sl),fs δ ch=ς ([.g (pgm cs ss R),.g (cod bg ks),.g (.e inc)],ch)->eMk 3 4 F22 fs δ ch=ς (.ref ch.length,ch++L):=by
 obtain⟨B,σ,O,k2,W⟩:=P.house;have U:0<B.length:=by have:=k2.lt (i:=0) ma;lia
 refine⟨B.map (rnO (ch.length + ·)),fun i=>ch.length+σ i,by show ch.length+σ 0=_;rw[W];rfl,fun i=>Nat.le_add_right _ _,At.comp o4 k2,fun fs δ h=>?_⟩;exact eZ (F:=F22) (c:=3) (n:=4) (ds:=[pgm cs ss R,cod bg ks,.e inc]) (aB _) h rfl O U
theorem mx{k:Nat}:F54 [I k,I k] ch=ς (.g (.bl θ),ch):=by generalize (k:Int)=z;simp! only[q54,eAn,eNt];simp! []
theorem vm(fs:η Fl):aC 20 (.e (fs.map Fl.d))=θ:=qc0.mpr fun d O=>by obtain⟨f,_,rfl⟩:=qc8.mp O;rfl
theorem vn (P:Pr cs ss R bg ks inc) {most:Nat} (hm:most<=1000) {fs:η Fl} (hf:∀ f∈fs,Vi (.int f.2)) (hl:fs.length<=63) {ns:η Str} (hns:ns.length<1000) (ch:CH):∃ (L:CH) (k:Nat) (b1 b2:CH) (p q:Nat),
  (∀(g:FM (η CV))(δ:Sl)(ch':CH),ch'=ch->g δ ch=ς ([.g (pgm cs ss R),.g (cod bg ks),.g (.e inc)],ch)->eMk 3 4 F22 g δ ch=ς (.ref p,ch++L))∧
  (∃M:CH,(∀(g:FM (η CV))(δ:Sl),g δ (ch++L)=ς ([.g (pgm cs ss R),.g (cod bg ks),.g (.e inc)],ch++L)->eMk 3 4 F22 g δ (ch++L)=ς (.ref q,ch++L++M))∧F53 [.ref p,.g (.e (fs.map Fl.d)),I most] (ch++L++M)=ς (I k,b1))∧
  F55 [.ref q,.g (.e (fs.map Fl.d)),I most] b1=ς (I k,b2)∧
  F67 [.ref p,.ref q,.g (pgm cs ss R),.g (.e (ns.map .str))] b2=ς (.g (.bl θ),b2):=by
 obtain⟨L,ρ1,z1,_,A1,m1⟩:=P.mkH ch;obtain⟨M,ρ2,z2,l2,A2,m2⟩:=P.mkH (ch++L);have X:=P.xr;have A1':=C6 A1 M
 have W:∀i j,i<(c (shC cs++shS ss) (st0 cs ss R bg ks inc)).length->j<(c (shC cs++shS ss) (st0 cs ss R bg ks inc)).length->ρ1 i≠ρ2 j:=fun i j hi hj e=>by have:=A1.lt hi;have:=l2 j;lia
 obtain⟨dr,G1,N1⟩:=uI X (most:=most) Θ (r:=fs) hf P.g0 (by simp;lia);have hd:=yh X (most:=most) Θ (r:=fs) hf P.g0 (by simp;lia);obtain⟨ρ1',b1,r1,v1⟩:=dr.mv A1';have A2':=v1.fr.at A2 W;obtain⟨ρ2',b2,r2,v2⟩:=hd.mv A2';have U:=v1.sb.apart W fun j hj=>A2.lt hj
 have Z:=v2.fr.at v1.at_ fun i j hi hj e=>U j i hj hi e.symm
 have O:=yo (cs:=cs) (ss:=ss) (rw:=.t (R.map Rw.d)) (ns:=ns) X G1 (by have:=N1;simp at this;lia) Z v2.at_ (fun h hh=>C1 (qc8.mpr ⟨h,hh,rfl⟩)) (fun h hh=>vp_s P.sv (qc8.mpr ⟨h,hh,rfl⟩)) hns;rw[v1.zero,z1,v2.zero,z2]at O;have r1':F53 [.ref (ρ1 0),.g (.e (fs.map Fl.d)),I most] (ch++L++M)=ς (I (dv (fx cs ss R ks inc) R (shC cs++shS ss) most fs (10,st0 cs ss R bg ks inc)).1,b1):=r1;have r2':F55 [.ref (ρ2 0),.g (.e (fs.map Fl.d)),I most] b1=ς (I (dv (fx cs ss R ks inc) R (shC cs++shS ss) most fs (10,st0 cs ss R bg ks inc)).1,b2):=r2;rw[z1]at r1';rw[z2]at r2';exact⟨L,_,b1,b2,ch.length,(ch++L).length,fun g δ _ _ h=>m1 g δ h,⟨M,fun g δ h=>m2 g δ h,r1'⟩,r2',O⟩
end
variable{Y N' PR:Dt}
section
theorem my:∀l:η Int,nn (l.map .int)=ς l
 |[]=>rfl
 |i::l=>by simp only[qa3,nn,my l,qb2]
theorem yH{W CO:Dt}{fs:η Fl}{vs:η Int}(hv:vs.length=4)(hvs:∀v∈vs,Sm' v)(hf:∀f∈fs,f.1<100):∃most:Nat,most<=1000/\∀r,aj (aO 7 (e2 .v oMod.g (eIx (eV 6) (eK (.int 0))) (eK (.int 151)))) (aj (sIf (aL (e2 .v oEq.g (e2 .v oMod.g (eIx (eV 6) (eK (.int 1))) (eK (.int 2))) (eK (.int 0)))) (aj (aO 7 (eB .v bSum.g (aCn (eCo .v [ψ,ψ] (iE (eSl .v (eV 5) ψ (ς (e2 .v oMod.g (eIx (eV 6) (eK (.int 2))) (eK (.int 5)))))) (bnd (.many [0,1])) tYs (eV 0)) aNl))) ar) ar) r) [ς (.g Y),ς (.g W),ς (.g N'),ς (.g PR),ς (.g CO),ς (.g (.e (fs.map Fl.d))),ς (.g (.e (vs.map .int))),ψ,ψ,ψ,ψ,ψ] []=r [ς (.g Y),ς (.g W),ς (.g N'),ς (.g PR),ς (.g CO),ς (.g (.e (fs.map Fl.d))),ς (.g (.e (vs.map .int))),ς (I most),ψ,ψ,ψ,ψ] []:=by
 have xv:∀k:Nat,k<4->ixV [] (.g (.e (vs.map .int))) (.int k)=ς (I (vs.getD k 0)):=fun k hk=>by show(ixD _ _).map CV.g=_;rw[ixI Θ];rfl
 have x0:ixV [] (.g (.e (vs.map .int))) (.int 0)=ς (I (vs.getD 0 0)):=xv 0 Θ;have x1:ixV [] (.g (.e (vs.map .int))) (.int 1)=ς (I (vs.getD 1 0)):=xv 1 Θ;have x2:ixV [] (.g (.e (vs.map .int))) (.int 2)=ς (I (vs.getD 2 0)):=xv 2 Θ;generalize vs.getD 0 0=y0 at x0;generalize vs.getD 1 0=y1 at x1;generalize vs.getD 2 0=y2 at x2;generalize Dt.e (vs.map .int)=V at*
 obtain⟨m0,hm0⟩:∃m:Nat,(m:Int)=y0%151:=⟨(y0%151).toNat,Θ⟩
 have s1:aO 7 (e2 .v oMod.g (eIx (eV 6) (eK (.int 0))) (eK (.int 151))) [ς (.g Y),ς (.g W),ς (.g N'),ς (.g PR),ς (.g CO),ς (.g (.e (fs.map Fl.d))),ς (.g V),ψ,ψ,ψ,ψ,ψ] []=ς (.nx [ς (.g Y),ς (.g W),ς (.g N'),ς (.g PR),ς (.g CO),ς (.g (.e (fs.map Fl.d))),ς (.g V),ς (I m0),ψ,ψ,ψ,ψ] []):=by rw[hm0];simp! only[];simp[lent,vw,fin,T.d,CV.kp,x0,oMod,aA]
 by_cases h:y1%2=0
 .obtain⟨g,U⟩:∃g:η Fl,g=fs.take (y2%5).toNat:=⟨_,rfl⟩;have hgl:g.length<=4:=by rw[U,qk9];lia
  have hgm:∀f∈g,f.1<100:=fun f h=>hf f (qp2 (by rw[<- U];exact h))
  have O:=mw Fl.d fs (y2%5) Θ;rw[<- U]at O;have e1:=b9 (pt:=.many [0,1]) (ft:=tYs) (fe:=eV 0) (δ:=[ψ,ψ]) (ch:=[]) (f:=Fl.d) (g:=fun f:Fl=>.int f.1) (l:=g) fun f _=>⟨[ς (I f.1),ς (I f.2)],rfl,rfl,rfl⟩
  obtain⟨m,hm⟩:∃m:Nat,m=(g.map (·.1)).sum:=⟨_,rfl⟩
  have hml:m<=1000:=by
   have:∀l:η Fl,(∀f∈l,f.1<100)->(l.map (·.1)).sum<=100*l.length:=fun l=>by
    induction l with
    |nil=>intro _;simp
    |cons f l ih=>
     intro h;have:=ih fun g U=>h g (.tail _ U)
     have:=h f (.head _);simp;lia
   have:=this g hgm;lia
  have Z:bSum.g [.e (g.map fun f=>.int f.1)]=ς (.f (.int m)):=by
   have e:(g.map fun f:Fl=>(.int f.1:Dt))=(g.map fun f=>(f.1:Int)).map .int:=by simp
   have e2':(g.map fun f=>(f.1:Int)).sum=m:=by
    rw[hm];clear O e1 hm hml hgl hgm U e;induction g with
    |nil=>rfl
    |cons f l ih=>simp only[qa3,List.sum_cons,ih];push_cast;rfl
   simp only[bSum,oN,e,my,qb2,e2']
  refine⟨m,hml,fun r=>?_⟩
  have hco:eCo .v [ψ,ψ] (iE (eSl .v (eV 5) ψ (ς (e2 .v oMod.g (eIx (eV 6) (eK (.int 2))) (eK (.int 5)))))) (bnd (.many [0,1])) tYs (eV 0) [ς (.g Y),ς (.g W),ς (.g N'),ς (.g PR),ς (.g CO),ς (.g (.e (fs.map Fl.d))),ς (.g V),ς (I m0),ψ,ψ,ψ,ψ] []=ς (.g (.e (g.map fun f=>.int f.1)),[]):=by refine ef (ds:=g.map Fl.d) (zO (d:=.e (g.map Fl.d)) ?_ rfl) rfl (by rw[qd4];exact e1) (by rw[qa4,qa7];lia);generalize Dt.e (fs.map Fl.d)=Q at O ⊢;simp[eSl,fOp,eV,lent,e2,eIx,eK,vw,x2,oMod,aA,fin,T.d,bO,O]
  have hs:=pH (m:=.v) (g:=bSum.g) (ds:=[.e (g.map fun f=>.int f.1)]) (aS hco) Z;have s2:=aF (i:=7) (c:=I m) hs rfl;unfold aj at*
  rw[s1,qa0];dsimp only
  have ht:aL (e2 .v oEq.g (e2 .v oMod.g (eIx (eV 6) (eK (.int 1))) (eK (.int 2))) (eK (.int 0))) [ς (.g Y),ς (.g W),ς (.g N'),ς (.g PR),ς (.g CO),ς (.g (.e (fs.map Fl.d))),ς (.g V),ς (I m0),ψ,ψ,ψ,ψ] []=ς (θ,[]):=by simp! only[];simp[lent,vw,fin,T.d,bN,x1,oMod,aA,oEq,gEq,eqD,h]
  unfold sIf;rw[ht,qa0];dsimp only;rw[if_pos rfl,s2,qa0];rfl
 .refine⟨m0,Θ,fun r=>?_⟩;unfold aj;rw[s1,qa0];dsimp only
  have ht:aL (e2 .v oEq.g (e2 .v oMod.g (eIx (eV 6) (eK (.int 1))) (eK (.int 2))) (eK (.int 0))) [ς (.g Y),ς (.g W),ς (.g N'),ς (.g PR),ς (.g CO),ς (.g (.e (fs.map Fl.d))),ς (.g V),ς (I m0),ψ,ψ,ψ,ψ] []=ς (ξ,[]):=by simp! only[];simp[lent,vw,fin,T.d,bN,x1,oMod,aA,oEq,gEq,eqD,h]
  unfold sIf;rw[ht,qa0];rfl
end
section
theorem C7{g:Fs}(h1:f δ b=ς (ξ,b')):sIf f g ar δ b=ς (.nx δ b'):=by unfold sIf;rw[h1,qa0];rfl
theorem f78:F78=F53:=q78.trans q53.symm
theorem vo{W CO FS V IN F4':Dt}{k k2 p2 q2:Nat}{L M b2 b3 U M2 b4 b5:CH}{e:Bool}
 (hW:∀ch,ixV ch (.g W) (.int 3)=ς (.g IN)) (hls:bList.g [FS]=ς (.f FS)∨∃l,FS=.e l) (hFl:∃l,FS=.e l)
 (hcut:gSl FS ψ (ς 4)=ς (.f F4')∨∃l,F4'=.e l/\gSl FS ψ (ς 4)=ς (.e l))
 (heq:oEq.g FS FS=ς (.f (.bl θ)))
 (m1:∀(g:FM (η CV))(δ:Sl),g δ []=ς ([.g PR,.g CO,.g IN],[])->eMk 3 4 F22 g δ []=ς (.ref p,L))
 (m2:∀(g:FM (η CV))(δ:Sl),g δ L=ς ([.g PR,.g CO,.g IN],L)->eMk 3 4 F22 g δ L=ς (.ref q,M))
 (r1:F53 [.ref p,.g FS,I most] M=ς (I k,b1)) (r2:F55 [.ref q,.g FS,I most] b1=ς (I k,b2)) (r3:F67 [.ref p,.ref q,.g PR,.g N'] b2=ς (.g (.bl θ),b2))
 (he:F77 [.g PR,.g IN] b2=ς (.g (.bl e),b3))
 (m3:∀(g:FM (η CV))(δ:Sl),g δ b3=ς ([.g PR,.g CO,.g IN],b3)->eMk 3 4 F22 g δ b3=ς (.ref p2,U))
 (m4:∀(g:FM (η CV))(δ:Sl),g δ U=ς ([.g PR,.g CO,.g IN],U)->eMk 3 4 F22 g δ U=ς (.ref q2,M2))
 (r4:F53 [.ref p2,.g F4',I 1000] M2=ς (I k2,b4)) (r5:F55 [.ref q2,.g F4',I 1000] b4=ς (I k2,b5)) (r6:F67 [.ref p2,.ref q2,.g PR,.g N'] b5=ς (.g (.bl θ),b5)):∃ch',(aj (aO 8 (eB .v bList.g (aCn (eV 5) aNl))) (aj (aO 9 (eMk 3 4 F22 (aCn (eV 3) (aCn (eV 4) (aCn (eIx (eV 1) (eK (.int 3))) aNl))))) (aj (aO 10 (eMk 3 4 F22 (aCn (eV 3) (aCn (eV 4) (aCn (eIx (eV 1) (eK (.int 3))) aNl))))) (aj (aO 11 (eCa 3 F53 (aCn (eV 9) (aCn (eV 8) (aCn (eV 7) aNl))))) (aj (sIf (iT (tNt (cq (eCa 2 F54 (aCn (eV 11) (aCn (eCa 3 F55 (aCn (eV 10) (aCn (eV 5) (aCn (eV 7) aNl)))) aNl))))) (tNt (cq (eCa 4 F67 (aCn (eV 9) (aCn (eV 10) (aCn (eV 3) (aCn (eV 2) aNl)))))))) (aj (sRt (eK (.bl ξ))) ar) ar) (aj (sIf (tNt (cq (eCa 2 F77 (aCn (eV 3) (aCn (eIx (eV 1) (eK (.int 3))) aNl))))) (aj (sRt (e2 .v oEq.g (eV 8) (eV 5))) ar) ar) (aj (aO 9 (eMk 3 4 F22 (aCn (eV 3) (aCn (eV 4) (aCn (eIx (eV 1) (eK (.int 3))) aNl))))) (aj (aO 10 (eMk 3 4 F22 (aCn (eV 3) (aCn (eV 4) (aCn (eIx (eV 1) (eK (.int 3))) aNl))))) (aj (aO 11 (eCa 3 F78 (aDf 1000 (aCn (eV 9) (aCn (eSl .v (eV 8) ψ (ς (eK (.int 4)))) aNl))))) (aj (sIf (tNt (cq (eCa 2 F54 (aCn (eV 11) (aCn (eCa 3 F55 (aCn (eV 10) (aCn (eSl .v (eV 5) ψ (ς (eK (.int 4)))) (aCn (eK (.int 1000)) aNl)))) aNl))))) (aj (sRt (eK (.bl ξ))) ar) ar) (aj (sRt (eAn (eCa 4 F67 (aCn (eV 9) (aCn (eV 10) (aCn (eV 3) (aCn (eV 2) aNl))))) (e2 .v oEq.g (eV 8) (eV 5)))) ar))))))))))) [ς (.g Y),ς (.g W),ς (.g N'),ς (.g PR),ς (.g CO),ς (.g FS),ς (.g V),ς (I most),ψ,ψ,ψ,ψ] []=ς (.rt (.g (.bl θ)) ch'):=by
 have ag:∀(a6 a7 a8 a9 O Z:ζ CV)(ch:CH),aCn (eV 3) (aCn (eV 4) (aCn (eIx (eV 1) (eK (.int 3))) aNl)) [ς (.g Y),ς (.g W),ς (.g N'),ς (.g PR),ς (.g CO),ς (.g FS),a6,a7,a8,a9,O,Z] ch=ς ([.g PR,.g CO,.g IN],ch):=fun a6 a7 a8 a9 O Z ch=>by simp[aCn,eV,lent,eIx,eK,vw,hW,aNl]
 have s1:aO 8 (eB .v bList.g (aCn (eV 5) aNl)) [ς (.g Y),ς (.g W),ς (.g N'),ς (.g PR),ς (.g CO),ς (.g FS),ς (.g V),ς (I most),ψ,ψ,ψ,ψ] []=ς (.nx [ς (.g Y),ς (.g W),ς (.g N'),ς (.g PR),ς (.g CO),ς (.g FS),ς (.g V),ς (I most),ς (.g FS),ψ,ψ,ψ] []):=by obtain⟨l,rfl⟩:=hFl;rfl
 have s2:=aF (i:=9) (m1 _ _ (ag (ς (.g V)) (ς (I most)) (ς (.g FS)) ψ ψ ψ [])) rfl;have s3:=aF (i:=10) (m2 _ _ (ag (ς (.g V)) (ς (I most)) (ς (.g FS)) (ς (.ref p)) ψ ψ L)) rfl;have s4:=aF (i:=11) (aY (n:=3) (F:=F53) (ch:=M) (δ:=[ς (.g Y),ς (.g W),ς (.g N'),ς (.g PR),ς (.g CO),ς (.g FS),ς (.g V),ς (I most),ς (.g FS),ς (.ref p),ς (.ref q),ψ]) (fs:=aCn (eV 9) (aCn (eV 8) (aCn (eV 7) aNl))) (cs:=[.ref p,.g FS,I most]) rfl ⟨rfl,rfl⟩ r1) rfl
 have t5:iT (tNt (cq (eCa 2 F54 (aCn (eV 11) (aCn (eCa 3 F55 (aCn (eV 10) (aCn (eV 5) (aCn (eV 7) aNl)))) aNl))))) (tNt (cq (eCa 4 F67 (aCn (eV 9) (aCn (eV 10) (aCn (eV 3) (aCn (eV 2) aNl))))))) [ς (.g Y),ς (.g W),ς (.g N'),ς (.g PR),ς (.g CO),ς (.g FS),ς (.g V),ς (I most),ς (.g FS),ς (.ref p),ς (.ref q),ς (I k)] b1=ς (ξ,b2):=by have w:=mx (k:=k) (ch:=b2);simp[iT,tNt,cq,eCa,kCa,aCn,eV,lent,aNl,CV.old,vw,j9,r2,w,r3]
 have t6:tNt (cq (eCa 2 F77 (aCn (eV 3) (aCn (eIx (eV 1) (eK (.int 3))) aNl)))) [ς (.g Y),ς (.g W),ς (.g N'),ς (.g PR),ς (.g CO),ς (.g FS),ς (.g V),ς (I most),ς (.g FS),ς (.ref p),ς (.ref q),ς (I k)] b2=ς (!e,b3):=by simp[tNt,cq,eCa,kCa,aCn,eV,lent,eIx,eK,aNl,CV.old,vw,hW,j9,he]
 have q5:∀(a6 a7 a9 O Z:ζ CV)(ch:CH),e2 .v oEq.g (eV 8) (eV 5) [ς (.g Y),ς (.g W),ς (.g N'),ς (.g PR),ς (.g CO),ς (.g FS),a6,a7,ς (.g FS),a9,O,Z] ch=ς (.g (.bl θ),ch):=fun a6 a7 a9 O Z ch=>cH (x:=.g FS) (y:=.g FS) rfl rfl rfl rfl heq
 have i5:=C7 (g:=aj (sRt (eK (.bl ξ))) ar) t5;cases e with
 |false=>refine⟨b3,ae s1 (ae s2 (ae s3 (ae s4 (ae i5 (bR ?_)))))⟩;unfold sIf;rw[t6,qa0];exact bR (ck (q5 (ς (.g V)) (ς (I most)) (ς (.ref p)) (ς (.ref q)) (ς (I k)) b3) rfl)
 |true=>
  have i6:=C7 (g:=aj (sRt (e2 .v oEq.g (eV 8) (eV 5))) ar) t6;have s7:=aF (i:=9) (m3 _ _ (ag (ς (.g V)) (ς (I most)) (ς (.g FS)) (ς (.ref p)) (ς (.ref q)) (ς (I k)) b3)) rfl;have s8:=aF (i:=10) (m4 _ _ (ag (ς (.g V)) (ς (I most)) (ς (.g FS)) (ς (.ref p2)) (ς (.ref q)) (ς (I k)) U)) rfl
  have cut:∀(i:Nat)(δ:Sl)(ch:CH),δ[i]?=ς (ς (.g FS))->eSl .v (eV i) ψ (ς (eK (.int 4))) δ ch=ς (.g F4',ch):=fun i δ ch h=>by rcases hcut with hc|⟨l,rfl,hc⟩<;>simp[eSl,fOp,eV,h,lent,eK,bO,vw,hc,fin,T.d]
  have s9:aO 11 (eCa 3 F78 (aDf 1000 (aCn (eV 9) (aCn (eSl .v (eV 8) ψ (ς (eK (.int 4)))) aNl)))) [ς (.g Y),ς (.g W),ς (.g N'),ς (.g PR),ς (.g CO),ς (.g FS),ς (.g V),ς (I most),ς (.g FS),ς (.ref p2),ς (.ref q2),ς (I k)] M2=ς (.nx [ς (.g Y),ς (.g W),ς (.g N'),ς (.g PR),ς (.g CO),ς (.g FS),ς (.g V),ς (I most),ς (.g FS),ς (.ref p2),ς (.ref q2),ς (I k2)] b4):=by
   have c8:=cut 8 [ς (.g Y),ς (.g W),ς (.g N'),ς (.g PR),ς (.g CO),ς (.g FS),ς (.g V),ς (I most),ς (.g FS),ς (.ref p2),ς (.ref q2),ς (I k)] M2 rfl
   have a:aDf 1000 (aCn (eV 9) (aCn (eSl .v (eV 8) ψ (ς (eK (.int 4)))) aNl)) [ς (.g Y),ς (.g W),ς (.g N'),ς (.g PR),ς (.g CO),ς (.g FS),ς (.g V),ς (I most),ς (.g FS),ς (.ref p2),ς (.ref q2),ς (I k)] M2=ς ([.ref p2,.g F4',I 1000],M2):=by unfold aDf;rw[aU (f:=eV 9) (c:=.ref p2) rfl (aS c8)];rfl
   exact aF (aY (n:=3) (F:=F78) a ⟨rfl,rfl⟩ (by rw[f78];exact r4)) rfl
  have t10:tNt (cq (eCa 2 F54 (aCn (eV 11) (aCn (eCa 3 F55 (aCn (eV 10) (aCn (eSl .v (eV 5) ψ (ς (eK (.int 4)))) (aCn (eK (.int 1000)) aNl)))) aNl)))) [ς (.g Y),ς (.g W),ς (.g N'),ς (.g PR),ς (.g CO),ς (.g FS),ς (.g V),ς (I most),ς (.g FS),ς (.ref p2),ς (.ref q2),ς (I k2)] b4=ς (ξ,b5):=by have w:=mx (k:=k2) (ch:=b5);have c5:=cut 5 [ς (.g Y),ς (.g W),ς (.g N'),ς (.g PR),ς (.g CO),ς (.g FS),ς (.g V),ς (I most),ς (.g FS),ς (.ref p2),ς (.ref q2),ς (I k2)] b4 rfl;simp[tNt,cq,eCa,kCa,aCn,c5,aNl,CV.old,vw,j9,eV,lent,eK,r5,w]
  have i10:=C7 (g:=aj (sRt (eK (.bl ξ))) ar) t10;refine⟨b5,ae s1 (ae s2 (ae s3 (ae s4 (ae i5 (ae i6 (ae s7 (ae s8 (ae s9 (ae i10 (bR (ck ?_ rfl)))))))))))⟩;unfold eAn;rw[aY (n:=4) (F:=F67) (cs:=[.ref p2,.ref q2,.g PR,.g N']) (ch:=b5) rfl ⟨rfl,rfl⟩ r6,qa0];exact q5 (ς (.g V)) (ς (I most)) (ς (.ref p2)) (ς (.ref q2)) (ς (I k2)) b5
end
theorem main(ns:η Int)(hns:ns.length<=63):∃ch',FF gc t80 [.g (.e (ns.map .int))] []=ς (.g (.bl θ),ch'):=by
 obtain⟨bx,cs,ss,inc,W,hw⟩:=vf (ch:=[]) ns;obtain⟨c0,g0⟩:=dL (ch:=[]) ns 0;obtain⟨c3,g3⟩:=dL (ch:=[]) ns 3;obtain⟨c4,g4⟩:=dL (ch:=[]) ns 4;obtain⟨xs,hx1,hx2,hx3⟩:=mr (ch:=[]) c0;obtain⟨sm,hs1,hs2,_⟩:=vj Dt.int ns (ς 5) (ς 25);obtain⟨la,hla,fla⟩:=kX (ch:=[]) (c3%2147483629) (xs:=bx) (by intro e;have:=W.b4;rw[e]at this;cases this);obtain⟨R,hR1,hR2,hR3,hR4,hR⟩:=yF (ch:=[]) W sm Θ la hla;have hRl:R.length<=98:=by lia
 have hcutN:=pF Dt.str xs 5 11 Θ Θ;have hN6:((xs.drop 5).take (11-5)).Nodup:=(qo9 _ _).nodup ((List.drop_sublist _ _).nodup hx3);obtain⟨bg,ks,hbg,hk1,hk2,hC⟩:=C5 (ch:=[]) (cs:=cs) (ss:=ss) (R:=R) c4 hN6 (by simp[hx2]) ⟨hR1.1,hRl⟩;obtain⟨fc,hf1,hf2,_⟩:=vj Dt.int ns (ς 25) (ς 45);obtain⟨fs,hF,hfa,hfl⟩:=vh (ch:=[]) fc Θ;obtain⟨vs,hv1,hv2,hv3⟩:=bV (ch:=[]) c3 4 Θ;have P:Pr cs ss R bg ks (inc.map .int):=⟨(by intro e;have:=W.c0.1;rw[e]at this;cases this),(by intro e;have:=W.s0.1;rw[e]at this;cases this),(by have:=W.c0.2;have:=W.s0.2;lia),W.nd,W.cv,fun h hh=>(by have:=W.sv h hh;lia),hR1,hR2,hR3,hbg,hk1,hk2,fun d hd=>by obtain⟨i,hi,rfl⟩:=qc8.mp hd;exact W.inc i hi⟩;obtain⟨most,hm,hmost⟩:=yH (Y:=.e (ns.map .int)) (W:=wdD bx cs ss inc) (N':=.e (xs.map .str)) (PR:=pgm cs ss R) (CO:=cod bg ks) (fs:=fs) hv2 hv3 fun f hf=>(hfa f hf).1
 obtain⟨L,k,b1,b2,p,q,m1,⟨M,m2,r1⟩,r2,r3⟩:=vn P hm (fs:=fs) (fun f hf=>(hfa f hf).2) Θ (ns:=xs) Θ [];obtain⟨e,a',he⟩:=yw P;have tF:TrD F77:=aB _;have he':=TrD.tail (ch:=b2) @tF he;obtain⟨L2',k2,b4,b5,p2,q2,m3,⟨M2,m4,r4⟩,r5,r6⟩:=vn P (most:=1000) Θ (fs:=fs.take 4) (fun f hf=>(hfa f (qp2 hf)).2) (by simp;lia) (ns:=xs) Θ (b2++a'.map (rnO (b2.length + ·)))
 obtain⟨ch',ht⟩:=vo (Y:=.e (ns.map .int)) (W:=wdD bx cs ss inc) (N':=.e (xs.map .str)) (PR:=pgm cs ss R) (CO:=cod bg ks) (FS:=.e (fs.map Fl.d)) (V:=.e (vs.map .int)) (IN:=.e (inc.map .int)) (F4':=.e ((fs.take 4).map Fl.d)) (most:=most) (k:=k) (k2:=k2) (p:=p) (q:=q) (p2:=p2) (q2:=q2) (L:=L) (M:=L++M) (b1:=b1) (b2:=b2) (e:=e)
  (fun ch=>rfl) (.inr ⟨_,rfl⟩) ⟨_,rfl⟩ (.inr ⟨_,rfl,mw Fl.d fs 4 Θ⟩) (mh (vm fs))
  (fun g δ h=>m1 g δ [] rfl h) (fun g δ h=>m2 g δ h) r1 r2 r3 (by simpa[rn] using he') (fun g δ h=>m3 g δ _ rfl h) (fun g δ h=>m4 g δ h) r4 r5 r6
 refine⟨ch',?_⟩;show F79 [.g (.e (ns.map .int))] []=_;obtain⟨Y,hY⟩:∃Y:Dt,Y=.e (ns.map .int):=⟨_,rfl⟩;rw[<- hY]at hw g0 g3 g4 hs1 hf1 hmost ht ⊢;have cell:∀(k:Nat)(v:Int)(δ:Sl),F1 [.g Y,I k] []=ς (I v,[])->δ[0]?=ς (ς (.g Y))->eCa 2 F1 (aCn (eV 0) (aCn (eK (.int k)) aNl)) δ []=ς (I v,[]):=fun k v δ h h0=>aY (cs:=[.g Y,I k]) (aU (by unfold eV;rw[h0];rfl) (aS rfl)) ⟨rfl,rfl⟩ h
 have s1:=aF (i:=1) (aY (n:=1) (F:=F4) (fs:=aCn (eV 0) aNl) (δ:=[ς (.g Y),ψ,ψ,ψ,ψ,ψ,ψ,ψ,ψ,ψ,ψ,ψ]) (cs:=[.g Y]) rfl ⟨rfl,rfl⟩ hw) rfl;have s2:=aF (i:=2) (aY (n:=2) (F:=F0) (cs:=[I c0,I 12]) (aU (cell 0 c0 [ς (.g Y),ς (.g (wdD bx cs ss inc)),ψ,ψ,ψ,ψ,ψ,ψ,ψ,ψ,ψ,ψ] g0 rfl) (aS (f:=eK (.int 12)) rfl)) ⟨rfl,rfl⟩ hx1) rfl
 have sl:∀(a b:Int)(m:η Int)(δ:Sl),gSl Y (ς a) (ς b)=ς (.e (m.map .int))->δ[0]?=ς (ς (.g Y))->eSl .v (eV 0) (ς (eK (.int a))) (ς (eK (.int b))) δ []=ς (.g (.e (m.map .int)),[]):=fun a b m δ h h0=>by simp[eSl,fOp,eV,h0,lent,eK,bO,vw,h,fin,T.d]
 have em:e2 .v oMod.g (eCa 2 F1 (aCn (eV 0) (aCn (eK (.int 3)) aNl))) (eK (.int 2147483629)) [ς (.g Y),ς (.g (wdD bx cs ss inc)),ς (.g (.e (xs.map .str))),ψ,ψ,ψ,ψ,ψ,ψ,ψ,ψ,ψ] []=ς (I (c3%2147483629),[]):=cH (x:=I c3) (y:=I 2147483629) (dx:=.int c3) (dy:=.int 2147483629) (t:=.f (.int (c3%2147483629))) (cell 3 c3 _ g3 rfl) rfl rfl rfl rfl;have am:eCa 2 F5 (aCn (e2 .v oMod.g (eCa 2 F1 (aCn (eV 0) (aCn (eK (.int 3)) aNl))) (eK (.int 2147483629))) (aCn (eIx (eV 1) (eK (.int 0))) aNl)) [ς (.g Y),ς (.g (wdD bx cs ss inc)),ς (.g (.e (xs.map .str))),ψ,ψ,ψ,ψ,ψ,ψ,ψ,ψ,ψ] []=ς (.g (ak la),[]):=aY (cs:=[I (c3%2147483629),.g (.e (bx.map .str))]) (aU em (aS (f:=eIx (eV 1) (eK (.int 0))) (c:=.g (.e (bx.map .str))) rfl)) ⟨rfl,rfl⟩ fla;have s3:=aF (i:=3) (aY (n:=3) (F:=F8) (cs:=[.g (.e (sm.map .int)),.g (wdD bx cs ss inc),.g (ak la)]) (aU (sl 5 25 sm [ς (.g Y),ς (.g (wdD bx cs ss inc)),ς (.g (.e (xs.map .str))),ψ,ψ,ψ,ψ,ψ,ψ,ψ,ψ,ψ] hs1 rfl) (aU (f:=eV 1) (c:=.g (wdD bx cs ss inc)) rfl (aS am))) ⟨rfl,rfl⟩ hR) rfl
 have sN:eSl .v (eV 2) (ς (eK (.int 5))) (ς (eK (.int 11))) [ς (.g Y),ς (.g (wdD bx cs ss inc)),ς (.g (.e (xs.map .str))),ς (.g (pgm cs ss R)),ψ,ψ,ψ,ψ,ψ,ψ,ψ,ψ] []=ς (.g (.e (((xs.drop 5).take (11-5)).map .str)),[]):=by have h:gSl (.e (xs.map .str)) (ς 5) (ς 11)=ς (.e (((xs.drop 5).take (11-5)).map .str)):=hcutN;generalize Dt.e (xs.map .str)=Q at h ⊢;simp only[eSl,fOp,eV,qd2,qh8,lent,eK,bO,vw,h,fin,T.d,qa0,qb2]
 have s4:=aF (i:=4) (aY (n:=3) (F:=F10) (cs:=[.g (pgm cs ss R),I c4,.g (.e (((xs.drop 5).take (11-5)).map .str))]) (aU (f:=eV 3) (c:=.g (pgm cs ss R)) rfl (aU (cell 4 c4 [ς (.g Y),ς (.g (wdD bx cs ss inc)),ς (.g (.e (xs.map .str))),ς (.g (pgm cs ss R)),ψ,ψ,ψ,ψ,ψ,ψ,ψ,ψ] g4 rfl) (aS sN))) ⟨rfl,rfl⟩ hC) rfl;have s5:=aF (i:=5) (aY (n:=1) (F:=F11) (cs:=[.g (.e (fc.map .int))]) (aS (sl 25 45 fc [ς (.g Y),ς (.g (wdD bx cs ss inc)),ς (.g (.e (xs.map .str))),ς (.g (pgm cs ss R)),ς (.g (cod bg ks)),ψ,ψ,ψ,ψ,ψ,ψ,ψ] hf1 rfl)) ⟨rfl,rfl⟩ hF) rfl;have s6:=aF (i:=6) (aY (n:=2) (F:=F2) (cs:=[I c3,I 4]) (aU (cell 3 c3 [ς (.g Y),ς (.g (wdD bx cs ss inc)),ς (.g (.e (xs.map .str))),ς (.g (pgm cs ss R)),ς (.g (cod bg ks)),ς (.g (.e (fs.map Fl.d))),ψ,ψ,ψ,ψ,ψ,ψ] g3 rfl) (aS (f:=eK (.int 4)) rfl)) ⟨rfl,rfl⟩ hv1) rfl;rw[q79];exact aT (ae s1 (ae s2 (ae s3 (ae s4 (ae s5 (ae s6 ((hmost _).trans ht)))))))
end L2
open PySem PySem.W PyProof.Rows in
set_option maxRecDepth 100000 in
set_option maxHeartbeats 0 in
theorem PySem.Challenge.cw_dimhouse_k76_driven_holds : PySem.Challenge.rw_dimhouse_k76_driven.Holds := by
 w_on; o_law
 refine holds_open (q := P76H.seen) (loose := [PySem.Str.ofString "drive"]) (Xt := fun s => xlAt P76H.seen [] s && recOk (RowW.records (OpenRow.toRowW PySem.Challenge.rw_dimhouse_k76_driven.row)) s) (XP := XL P76H.seen []) (Yf := Hook.obs P76H.hook) (Ya := Hook.val P76H.hook) (YP := Hook.says P76H.hook) (N := 7626) ?hl (Hook.of P76H.hook) (Hook.keeps P76H.hook) (fun s e => xl_of s (Bool.and_eq_true_iff.mp e).1) XL.keeps (by rfl) (by rfl) (by rfl) (fun s e => recFacts_of (Bool.and_eq_true_iff.mp e).2) (by rfl) (by first | assumption | decide +kernel) (by decide +kernel) ⟨rfl, rfl, rfl, rfl, rfl, by decide +kernel⟩ ?hw ?hc
 case hl => exact LeftO.of_split "special-get-raises" fun w => P76H.map_two (ZH.tp3 (P76H.ra_false w) (P76H.rb_false w) (P76H.rc_false w)) (ZH.tp3 (P76H.ra_true w) (P76H.rb_true w) (P76H.rc_true w))
 case hw => w_witness2
 delta P76H.hook
 k_fill
 refine L2.zwalk (l:=PySem.Challenge.rw_dimhouse_k76_driven) (x:="_law_script") L2.L L2.gc L2.main ⟨rfl,rfl,rfl⟩ ?R rfl rfl (fun w h Y=>PySem.W.kIn_of Y) (fun w=>by kernel_rfl) ?C
 case R=>exact ⟨rfl,by decide +kernel,by decide +kernel⟩
 case C=>intro w;kernel_rfl
