import PyProof.Rows.All
import Wide.All
import OpenK.AllK
import Wide.FinOn
import Lean
import PyProof.EqAt
import PyProof.EqKinds
import PyProof.TupleCall
import PyProof.EnumFor
import PyProof.EnumMake
import PyProof.EnumStmt
import PyProof.WalksEnum
import PyProof.NeKinds
import PyProof.CompFree
import PyProof.CompMap
import PyProof.Rows.Range3
import PyProof.Rows.ChunkEnd
import PyProof.Rows.StrCase
import PyProof.Rows.StrIndexOr
import PyProof.StrLawsIn
import PyProof.StrLawsIdx
import PyProof.SliceStr2
import PyProof.StrWalks
import PyProof.StationsW
import PyProof.ExcClass3
import PyProof.RulesAs
import PyProof.NsDelKeeps
import PyProof.ExcInit
import PyProof.ExcArgsOwn
import PyProof.InstStore
import PyProof.InstLoad
import PyProof.ExcBaseAll.ValueError
import PyProof.InstStoreFacts
import PyProof.ExcAttrAll.ValueError
import PyProof.Rows.StrJoinMade
import PyProof.ConsumeWalk
import PyProof.DictIter
import PyProof.DictWalks
import PyProof.Rows.SortStr
import PyProof.MeetsSeq
import KE.KRevIter
import PyProof.Rows.StrRev
import PyProof.StrOps2
import PyProof.Rows.RuleIs
import PyProof.ExcClass2
import PyProof.SumAny
import PyProof.Rows.FStrParts
import PyProof.Rows.StrNews2
import PyProof.Rows.StrWeight2
import PyProof.CallStr
import KE.KLam
import KE.KNestM
import PyProof.Conv_int_bool
import KE.KIntText
import PyProof.StrReplace2
import PyProof.Rows.StrSplitMax
import PyProof.ZipIter
import PyProof.Rows.MatchSeqLen
import KE.KDictList
import KE.KDictOf
import PyProof.AttrMissHeap
import PyProof.Rows.SortShell
import KE.KSortTup
import PyProof.Rows.MinMaxN
import PySem.Challenge.RW_findcourt_k16_whole_pouring
set_option Elab.async false
set_option linter.all false
set_option maxRecDepth 100000
abbrev j6:=PySem.W.Frag
def l8:=@Nat.le_refl
def Rt:=@Nat.le_succ_of_le
def E7:=@Nat.le_trans
def NN:=@Sum.inl.inj
def X8:=@decide_eq_false
def NH:=@beq_eq_false_iff_ne
def JC:=@Sum.inr.inj
def XQ:=@PySem.Paired.length
def R7:=@Option.some.inj
def A1:=@PySem.Heap.lt_size
def E9:=@Nat.lt_of_lt_of_le
def Cd:=@Nat.lt_irrefl
def u9:=@Nat.ne_of_lt
def V9:=@List.mem_filter
def Mj:=@List.mem_range
def EI:=@Nat.le_of_lt
def VE:=@List.filterMap_cons
def A5:=@List.mem_cons_self
def B1:=@List.mem_cons_of_mem
def C8:=@List.mem_cons
def D9:=@Ne.symm
def D8:=@List.mem_append
def Mi:=@List.mem_append_left
def u4:=@List.getElem?_eq_some_iff
def PR:=@List.getElem?_set_self
def Vr:=@List.getElem?_set_ne
def I9:=@PySem.wpAny_mono
def PQ:=@PySem.wpAny_Name
def Vh:=@PySem.wpAny_loadName_local
def Vc:=@PySem.Calls.Name_function_global
def Zy:=@PySem.Calls.loadGlobal_global
def EH:=@PySem.wpAny_truthy_bool
def X9:=@Array.length_toList
def Mh:=@PySem.wpAny_execs_nil
def Mg:=@PySem.wpAny_execs_cons
def PP:=@PySem.wpAny_Assign_Name
def Gh:=@PySem.wpAny_passesOwn
def K3:=@Bool.false_ne_true
def Av:=@Nat.ne_of_gt
def l0:=@PySem.wpAny_pure
def e8:=@PySem.wpAny_bind
def Gg:=@PySem.wpAny_pyIter_list
def q0:=@PySem.Heap.get?_push_of_some
def C7:=@PySem.Heap.get?_push_size
def Io:=@PyProof.Rows.callWith_type1
def Zx:=@List.mem_filterMap
def AS:=@List.mem_append_right
def o8:=@Nat.zero_le
def Zw:=@PyProof.noPylong_small
def Do:=@Bool.eq_iff_iff
def B9:=@PySem.sizeLine_eq
def C6:=@List.size_toArray
def Zv:=@Array.find?_toList
def Zu:=@List.any_eq_false
def UT:=@PySem.W.plainGet_of
def Zt:=@PySem.W.findObj_own
def Dn:=@beq_iff_eq
def US:=@PySem.wpAny_loadPart
def Zs:=@PySem.W.looks_findIn
def i4:=@List.length_map
def EG:=@PySem.Heap.size_push
def EF:=@Nat.le_of_eq
def UR:=@Nat.lt_succ_self
def Zr:=@PySem.plainObj_wpAny_Assign_Attribute
def AR:=@PySem.W.kia_one
def Zq:=@PySem.W.kitx_list
def Zp:=@PySem.W.kitx_dict
def Mf:=@PySem.Calls.spliced_nil
def Im:=@PySem.Calls.spliced_cons
def Dm:=@PySem.wpAny_call
def Dk:=@PySem.codeAny_mono
def Gf:=@PySem.wpAny_Call_Name_kw
def Il:=@PySem.W.callWith_K
def Zo:=@PySem.W.methodCall_KW
def Cc:=@Nat.le_succ
def O4:=@List.nodup_cons
def Me:=@List.of_mem_zip
def PN:=@PySem.W.cellsFrom_some
def Zn:=@Option.isSome_iff_exists
def A4:=@List.length_take
def Dj:=@PySem.mem_of_lookup
def Ik:=@List.getElem?_append_right
def PM:=@List.getElem?_append_left
def u8:=@List.getElem?_map
def UQ:=@List.take_sublist
def E8:=@List.mem_of_getElem?
def y9:=@List.length_append
def Zm:=@List.length_replicate
def UP:=@PySem.codeAny_call_function
def UO:=@PySem.W.codeRec_of
def UN:=@PySem.wpAny_newFunctionEnv_cells
def Md:=@Int.toNat_natCast
def UM:=@Nat.min_le_right
def AQ:=@List.length_drop
def PL:=@PySem.typeIs_str
def Ij:=@Option.getD_none
def Ih:=@PySem.SeqAt.EqAt.same
def UL:=@PySem.SeqAt.EqAt.int_int
def UK:=@PySem.SeqAt.EqAt.str_str
def UJ:=@List.all_cons
def Q7:=@Bool.and_eq_true
def BC:=@List.any_cons
def Kp:=@PySem.Calls.callWith_builtin
def Op:=@PySem.Calls.evalArgs_plain
def Al:=@List.flatten_cons
def C9:=@List.append_assoc
def Ko:=@List.foldl_cons
def Eo:=@PySem.Heap.get?_update_other
def En:=@PySem.call_meets
def G3:=@List.length_singleton
def B7:=@decide_eq_true
def u7:=@PySem.W.mg_of
def VL:=@Nat.lt_of_le_of_lt
def Oo:=@List.forIn_cons
def P0:=@List.lookup_cons
def Em:=@List.all_eq_true
def A2:=@of_decide_eq_true
def On:=@Bool.or_eq_true
def Kn:=@PySem.wpAny_standAt
def x8:=@List.mem_singleton
def GG:=@PySem.wpAny_newObj_type
def VJ:=@PySem.wpAny_comprehension_free
def GF:=@PySem.Around.in1_units
def E5:=@List.getElem?_eq_getElem
def n8:=@List.mem_map
def Om:=@List.ext_getElem?
def Y3:=@List.getElem?_take
def Ak:=@List.getElem?_drop
def CC:=@List.getElem?_eq_none
def Aj:=@List.take_zero
def Ol:=@List.take_succ_cons
def VI:=@List.drop_succ_cons
def Km:=@Array.getElem?_eq_some_iff
def Gz:=@PySem.wpAny_setField
def Kl:=@PySem.Heap.get?_update_self
def Oj:=@PySem.Obj.isFreed_of_fields
def El:=@PySem.Obj.data_mapFields
def O9:=@PySem.wpAny_field
def BB:=@PySem.Value.ref.inj
def CB:=@PySem.wpAny_loadPart_at
def Y2:=@PySem.wpAny_holding
def VH:=@PySem.F.store_ValueError
def Kk:=@PySem.W.looks_findIn
def VG:=@PySem.W.looks_mroIn
def Gy:=@PySem.wpAny_onRaise
def VF:=@Option.isSome_some
def Gx:=@PySem.wpAny_attempt
def CA:=@Bool.eq_false_iff
def Oi:=@List.getD_eq_getElem?_getD
def BA:=@List.mem_iff_getElem?
def Oh:=@List.getElem_mem
def Ek:=@List.find?_cons
def Og:=@Bool.true_or
def Kj:=@Option.map_some
def Of:=@Option.isSome_map
def Ki:=@Nat.lt_trans
def o7:=@Option.map_eq_some_iff
def Gw:=@PySem.tupleKind_room_in1
def Ai:=@List.nodup_nil
def Gv:=@PySem.call_meetsIn
def Oe:=@PySem.F.slot_dict_get
def VD:=@PySem.F.entry_dict_get
def VC:=@PySem.F.args_dict_get_3
def Bz:=@PySem.F.plainAttrs_dict
def Ej:=@Prod.ext
def Kh:=@PySem.wpAny_callSpecial?_slot
def Kg:=@PySem.F.slot_tuple_iterator_next
def Cz:=@PySem.wpAny_call_entry
def VB:=@PySem.F.entry_tuple_iterator_next
def VA:=@PySem.F.args_tuple_iterator_next_1
def By:=@PySem.wpAny_seqItems
def Ah:=@PySem.wpAny_rule
def Ei:=@PySem.wpAny_setField_rec
def Od:=@List.zipIdx_cons
def Oc:=@PySem.wpAny_updateSeq_pair
def Kf:=@PySem.Heap.IsTuple.at
def Ke:=@PySem.wpAny_pyIter_tuple
def Kd:=@PySem.Heap.IsList.at
def Kc:=@PySem.F.slot_zip_next
def Bx:=@List.not_mem_nil
def Kb:=@or_false
def Eh:=@Nat.le_add_right
def Ka:=@PySem.codeAny_builtin
def JZ:=@PySem.Around.under_plainId
def Ob:=@PySem.plainId_quiet
def Vz:=@PySem.F.plain_list_iadd
def Vy:=@List.getElem?_eq_none_iff
def i7:=@PyProof.Rows.wpS_pure
def j3:=@PyProof.Rows.wpS_bind
def Ag:=@PyProof.Rows.wpS_get
def Cy:=@PyProof.Rows.wpS_lift
def Gu:=@Array.getElem?_eq_getElem
def L8:=@PyProof.Rows.wpS_forRange
def JY:=@Nat.add_sub_cancel
def Oa:=@Nat.max_eq_right
def Eg:=@Nat.min_eq_left
def AM:=@PyProof.Rows.KeyOrd.kle_trans
def Bw:=@List.perm_append_comm
def U2:=@List.drop_eq_getElem_cons
def x6:=@List.take_add_one
def NZ:=@List.Perm.append_left
def Af:=@List.pairwise_append
def JX:=@List.pairwise_singleton
def Cw:=@List.pairwise_cons
def O8:=@List.take_append_drop
def Vx:=@List.Perm.append_right
def Cu:=@List.Perm.refl
def Ef:=@List.mem_of_mem_drop
def Ct:=@PyProof.Rows.wpS_modify
def Ee:=@List.pairwise_iff_getElem
def Bv:=@PyProof.Rows.KeyOrd.kle_refl
def Ed:=@List.take_of_length_le
def Ec:=@Array.getElem?_toList
def NY:=@Array.toList_push
def Q6:=@Array.toList_append
def Gs:=@List.drop_eq_nil_of_le
def Bu:=@beq_self_eq_true
def Vw:=@List.reverse_append
def JW:=@List.mem_reverse
def JV:=@Array.toList_reverse
def Y1:=@List.mem_of_mem_take
def Eb:=@Nat.zero_add
def Vv:=@Array.toList_setIfInBounds
def JU:=@List.drop_drop
def Vu:=@Array.size_extract
def JT:=@Nat.sub_self
def JS:=@Array.perm_iff_toList_perm
def NW:=@Array.Perm.refl
def JR:=@PySem.wpAny_newList
def Ea:=@PySem.Heap.get?_push_ne
def NV:=@PySem.Heap.size_update
def Gr:=@Nat.lt_succ_of_lt
def NU:=@PySem.Calls.call_function_entry
def Vt:=@List.mem_iff_getElem
def DZ:=@PySem.F.slot_dict_keys
def Cs:=@List.eq_nil_of_length_eq_zero
def DY:=@Nat.succ.inj
def JQ:=@List.Perm.eq_of_pairwise
def JP:=@Int.le_antisymm
def Gq:=@Int.le_of_lt
def NT:=@PySem.F.slot_list_getattribute
def y8:=@List.take_length
def n6:=@List.map_append
def AL:=@List.nodup_append
def N7:=@List.map_map
def Bt:=@of_decide_eq_false
def JO:=@List.map_congr_left
def NS:=@List.mem_of_find?_eq_some
def DX:=@List.cons.inj
def Vs:=@PySem.F.slot_dict_values
def V6:=@Option.getD_some
def Gp:=@List.foldl_append
def Vq:=@List.cons_lt_cons_iff
def B3:=@PySem.PassesOwn.never
def Y0:=@PySem.boot_len
def o9:=@and_self
def T4:=@PySem.F.plainAttrs_list
def V5:=@PySem.F.slot_list_append
def V4:=@PySem.F.type_list_append
def JN:=@PySem.F.plainAttrs_str
def Vp:=@PySem.F.slot_str_lower
def Vo:=@PySem.F.type_str_lower
def JM:=@List.drop_zero
def NR:=@Int.zero_add
def G2:=@Classical.byContradiction
def JL:=@Option.map_eq_none_iff
def JK:=@List.map_drop
def Bs:=@List.drop_sublist
def JJ:=@PyProof.Rows.boot_list
def DW:=@Int.emod_nonneg
def DU:=@Int.emod_lt_of_pos
def NP:=@List.map_take
def Vn:=@PySem.F.slot_str_join
def Vm:=@PySem.F.type_str_join
def Vl:=@PyProof.Rows.ltCps_eq
def DT:=@List.not_lt
def JI:=@List.Sublist.refl
def Vk:=@PyProof.Rows.boot_min
def Vj:=@List.mem_erase_of_ne
def Vi:=@List.length_erase_of_mem
def Vg:=@List.length_pos_of_mem
def Go:=@PySem.F.type_dict_keys
def Vf:=@List.nodup_iff_count
def Ve:=@List.count_pos_iff
def Vd:=@List.count_eq_zero_of_not_mem
def DS:=@List.flatMap_cons
def DR:=@List.length_filter_le
def Cr:=@Option.toList_some
def DQ:=@List.filter_append
def JH:=@List.filter_cons_of_pos
def JG:=@List.filter_nil
def JF:=@List.filter_cons_of_neg
def Vb:=@List.map_eq_nil_iff
def JE:=@List.flatMap_eq_nil_iff
def Gn:=@List.mem_flatMap
def Va:=@List.filter_eq_self
def UZ:=@List.filter_eq_nil_iff
def UY:=@List.flatMap_append
def NO:=@Nat.mul_le_mul_right
def Cq:=@List.mem_flatten
def Gm:=@List.pairwise_map
def Gk:=@PySem.PassesOwn.leaving
def Cp:=@List.flatten_append
def Gj:=@List.filter_congr
def JD:=@decide_eq_decide
def UX:=@List.Pairwise.of_map
def UW:=@decide_eq_true_iff
def Gi:=@List.filter_sublist
def NL:=@List.getElem?_append
def UV:=@List.drop_of_length_le
def UU:=@Int.toNat_of_nonneg
def NK:=@List.length_range
def Co:=@List.flatten_singleton
def DP:=@List.length_reverse
def NJ:=@List.getElem?_reverse
def Q5:=@PySem.W.mg_none_of
local macro_rules
 | `(tactic|omega)=> `(tactic|first|lia|omega (config:={}))
namespace L2
open PySem
theorem DD{M:Model}{Γ:Ctx}{p:Pos}{t:Sem Fin}{fs:List Frame}{s s':Shared}{e:End}(h:Runs M Γ p t fs s e s'):s.toks<=s'.toks:=by
 induction h<;>first
  |exact l8 _
  |assumption
  |omega
  |(simp only[Shared.setGen] at*;omega)
theorem Mw{M:Model}{Γ:Ctx}{p:Pos}{g:Nat}{r:Resume}{s s':Shared}{res:GenResult}(h:Wakes M Γ p g r s res s'):s.toks<=s'.toks:=by
 unfold Wakes at h
 split at h
 ·exact h.elim
 ·split at h
  ·obtain⟨e₁,s₁,h1,_,_,rfl⟩:=h
   exact(show (s.setGen g .running).toks<=s₁.toks from DD h1)
  ·obtain⟨_,rfl⟩:=h;exact l8 _
  ·obtain⟨_,rfl⟩:=h;exact l8 _
 ·obtain⟨e₁,s₁,h1,_,_,rfl⟩:=h
  exact(show (s.setGen g .running).toks<=s₁.toks from DD h1)
 ·obtain⟨_,rfl⟩:=h;exact l8 _
 ·obtain⟨_,rfl⟩:=h;exact l8 _
theorem ZG{α:Type}{M:Model}{Γ:Ctx}(n:Nat)(t:Sem α){Q:α->Pos->Shared->Prop}{E:Value->Pos->Shared->Prop}:∀{p:Pos} {s:Shared},n<=s.toks->Sem.wp M Γ t Q E p s->
  Sem.wp M Γ t (fun a p' s'=>n<=s'.toks/\Q a p' s') (fun e p' s'=>n<=s'.toks/\E e p' s') p s:=by
 induction t with
 |pure a=>intro p s z h;rw[Sem.wp] at h⊢;exact⟨z,h⟩
 |raise e=>intro p s z h;rw[Sem.wp] at h⊢;exact⟨z,h⟩
 |load a _ k ih=>intro p s z h;rw[Sem.wp] at h⊢;obtain⟨o,e,h⟩:=h;exact⟨o,e,ih _ z h⟩
 |update a _ f k ih=>intro p s z h;rw[Sem.wp] at h⊢;exact⟨h.1,ih _ (by exact z) h.2⟩
 |fresh k ih=>intro p s z h;rw[Sem.wp] at h⊢;exact ih _ (Rt z) h
 |choose src m k ih=>intro p s z h;rw[Sem.wp] at h⊢;exact⟨h.1,ih _ (by exact z) h.2⟩
 |call c hd g l k ih=>
  intro p s z h
  rw[Sem.wp] at h⊢
  obtain⟨r,s1,h1,h2⟩:=h
  exact⟨r,s1,h1,ih _ (E7 z (DD h1)) h2⟩
 |genState g k ih=>intro p s z h;rw[Sem.wp] at h⊢;obtain⟨st,e,h⟩:=h;exact⟨st,e,ih _ z h⟩
 |resume g r l k ih=>
  intro p s z h
  rw[Sem.wp] at h⊢
  obtain⟨res,s1,h1,h2⟩:=h
  exact⟨res,s1,h1,ih _ (E7 z (Mw h1)) h2⟩
 |_=>first
  |(intro p s z h;rw[Sem.wp] at h;exact h.elim)
  |(rename_i ih;intro p s z h;rw[Sem.wp] at h⊢;exact ih _ (by exact z) h)
theorem K7{α:Type}{M:Model}{A:Around}{t:Sem α}{Q:α->Shared->Prop}{E:Value->Shared->Prop}{s:Shared}(z:0<s.toks)
  (h:wpAny M A t (fun a s'=>0<s'.toks->Q a s') (fun e s'=>0<s'.toks->E e s') s):wpAny M A t Q E s:=fun Γ p hΓ=>
 Sem.wp_mono M Γ t (fun _ _ _ ⟨z',q⟩=>q z') (fun _ _ _ ⟨z',q⟩=>q z') p s (ZG 1 t z (h Γ p hΓ))
end L2
namespace L2
open PySem PySem.Spec PyProof.Rows
abbrev A0:=Sum Int Str
def FI:A0->Value->Bool
 | .inl k,v=>Value.isInt k v
 | .inr x,v=>Value.isStrOf x v
def QcI(w:World):A0->Int
 | .inl k=>hashInt k
 | .inr x=>hashStr w x
theorem E2:∀{k:A0} {v:Value},FI k v=true->(∃i t,k=Sum.inl i/\v=Value.int i t)\/(∃x t,k=Sum.inr x/\v=Value.str x t)
 | .inl i,v,h=>by
  obtain⟨t,e⟩:=Value.isInt_shape (k:=i) (v:=v) h
  exact .inl ⟨i,t,rfl,e⟩
 | .inr x,v,h=>by
  obtain⟨t,e⟩:=Value.isStrOf_shape (x:=x) (v:=v) h
  exact .inr ⟨x,t,rfl,e⟩
theorem QH(i:Int)(t:Tok):FI (.inl i) (.int i t)=true:=by simp [FI,Value.isInt]
theorem QG(x:Str)(t:Tok):FI (.inr x) (.str x t)=true:=by simp [FI,Value.isStrOf]
theorem Qa8(a b:Int):decide ((Sum.inl a:A0)=Sum.inl b)=(a==b):=by
 by_cases e:a=b
 ·subst e;simp
 ·have h:¬(Sum.inl a:A0)=Sum.inl b:=fun q=>e (NN q)
  rw[X8 h]
  exact(NH.mpr e).symm
theorem Qa5(a b:Str):decide ((Sum.inr a:A0)=Sum.inr b)=decide (a=b):=by
 by_cases e:a=b
 ·subst e;simp
 ·have h:¬(Sum.inr a:A0)=Sum.inr b:=fun q=>e (JC q)
  rw[X8 h,X8 e]
theorem Qa7(a:Int)(b:Str):decide ((Sum.inl a:A0)=Sum.inr b)=false:=X8 (fun q=>nomatch q)
theorem Qa6(a:Str)(b:Int):decide ((Sum.inr a:A0)=Sum.inl b)=false:=X8 (fun q=>nomatch q)
def o6(prog:Program)(w:World):PySem.KeyKind prog w A0 where
 is:=FI
 hash:=QcI w
 inj:=fun v a b ha hb=>by
  rcases E2 ha with ⟨i,t,rfl,rfl⟩|⟨x,t,rfl,rfl⟩
  ·rcases E2 hb with ⟨j,u,rfl,e⟩|⟨y,u,rfl,e⟩
   ·injection e with e1 _;rw[e1]
   ·exact nomatch e
  ·rcases E2 hb with ⟨j,u,rfl,e⟩|⟨y,u,rfl,e⟩
   ·exact nomatch e
   ·injection e with e1 _;rw[e1]
 byValue:=fun k v h=>by
  rcases E2 h with ⟨i,t,rfl,rfl⟩|⟨x,t,rfl,rfl⟩<;>rfl
 pyHash:=fun hv h=>by
  rcases E2 hv with ⟨i,t,rfl,rfl⟩|⟨x,t,rfl,rfl⟩
  ·exact wpAny_pyHash_int h
  ·exact wpAny_pyHash_str h
 eqBool:=fun hu hv h=>by
  rcases E2 hu with ⟨i,t,rfl,rfl⟩|⟨x,t,rfl,rfl⟩
  ·rcases E2 hv with ⟨j,u,rfl,rfl⟩|⟨y,u,rfl,rfl⟩
   ·rw[Qa8] at h;exact wpAny_eqBool_int h
   ·rw[Qa7] at h;exact SeqAt.EqAt.int_str i t y u _ _ _ _ h
  ·rcases E2 hv with ⟨j,u,rfl,rfl⟩|⟨y,u,rfl,rfl⟩
   ·rw[Qa6] at h;exact SeqAt.EqAt.str_int x t j u _ _ _ _ h
   ·rw[Qa5] at h;exact wpAny_eqBool_str h
 «strs»:=fun k x t v h=>by
  rcases E2 h with ⟨i,u,rfl,e⟩|⟨y,u,rfl,e⟩
  ·exact nomatch e
  ·injection e with e1 _
   subst e1
   cases v<;>rfl
theorem MY(prog:Program)(w:World)(k:A0)(v:Value):(o6 prog w).is k v=FI k v:=rfl
theorem Lz(prog:Program)(w:World)(i:Int)(t:Tok):(o6 prog w).is (.inl i) (.int i t)=true:=QH i t
theorem Ly(prog:Program)(w:World)(x:Str)(t:Tok):(o6 prog w).is (.inr x) (.str x t)=true:=QG x t
inductive V where
 |non|bl (b:Bool)|int (i:Int)|str (x:Str)|byt (b:Array UInt8)|flt (b:UInt64)|ref (a:Addr)|ty (n:String)
 deriving DecidableEq
def RelV:V->Value->Prop
 | .non,u=>u=Value.none
 | .bl b,u=>u=Value.bool b
 | .int i,u=>∃t,u=Value.int i t
 | .str x,u=>∃t,u=Value.str x t
 | .byt b,u=>∃t,u=Value.bytes b t
 | .flt b,u=>∃t,u=Value.float b t
 | .ref a,u=>u=Value.ref a
 | .ty n,u=>u=Value.type n
abbrev u3:List V->List Value->Prop:=Paired RelV
theorem u3.length{xs:List V}{us:List Value}(r:u3 xs us):xs.length=us.length:=XQ r
theorem u3.get:∀{xs:List V} {us:List Value} {i:Nat} {x:V},u3 xs us->xs[i]? =some x->∃u,us[i]? =some u/\RelV x u
 |_,_,_,_, .nil,e=>by simp at e
 |_,_,0,_, .cons r _,e=>by simp at e;subst e;exact⟨_,rfl,r⟩
 |_,_,i+1,x, .cons _ t,e=>by
  obtain⟨u,h1,h2⟩:=u3.get (i:=i) (x:=x) t (by simpa using e)
  exact⟨u,by simpa using h1,h2⟩
theorem u3.append:∀{xs ys:List V} {us ws:List Value},u3 xs us->u3 ys ws->u3 (xs++ys) (us++ws)
 |_,_,_,_, .nil,s=>s
 |_,_,_,_, .cons r t,s=> .cons r (u3.append t s)
theorem u3.take:∀{xs:List V} {us:List Value} (n:Nat),u3 xs us->u3 (xs.take n) (us.take n)
 |_,_,0,_=> .nil
 |_,_,_+1, .nil=> .nil
 |_,_,n+1, .cons r t=> .cons r (u3.take n t)
theorem u3.drop:∀{xs:List V} {us:List Value} (n:Nat),u3 xs us->u3 (xs.drop n) (us.drop n)
 |_,_,0,r=>r
 |_,_,_+1, .nil=> .nil
 |_,_,n+1, .cons _ t=>u3.drop n t
def Ax:Option V->Option Value->Prop
 |some v,some u=>RelV v u
 |none,none=>True
 |_,_=>False
def KV{κ:Type}:List (κ×V)->List (κ×Value)->Prop:=Paired fun(p:κ×V) (q:κ×Value)=>p.1=q.1/\RelV p.2 q.2
def kV:A0->V
 | .inl i=> .int i
 | .inr x=> .str x
inductive HO where
 /-- a list -/
 |lst (xs:List V)
 /-- a tuple (never changes) -/
 |tup (xs:List V)
 /-- a dict whose keys are ints and texts; one whose keys are tuples of ints and texts (the empty one is both) -/
 |dK (kvs:List (A0×V))|dT (kvs:List (List A0×V))
 /-- a set of ints: n5 members, n5 size -/
 |set (S:Int->Bool) (n:Nat)
 /-- an instance of the class at C, n5 dict at dx, n5 attributes -/
 |ins (C dx:Addr) (fs:List (Str×V))
 /-- the dict of the instance at x -/
 |own (x:Addr)
 /-- the dict of an exception -/
 |xd (fs:List (Str×V))
 /-- a bound method, f of x -/
 |met (f x:Addr)
 /-- a range object lo, lo + 1, .. below hi -/
 |rng (lo hi:Int)
 /-- a thing that is known to the object (the script; a dict while a loop walks it): read, never written while it is so -/
 |frz (o:Obj) (u:HO)
 /-- a code object's table -/
 |tbl (ps:Array Value)
 /-- any other thing, by what is true of n5 one object (a def of one's own: SetO a S n := HO.ext fun h => ..) -/
 |ext (φ:Heap->Prop)
abbrev Hp:=Addr->Option HO
def i8(H:Hp)(a:Addr)(o:HO):Hp:=fun b=>if b=a then some o else H b
theorem c6{H:Hp}{a:Addr}{o:HO}:i8 H a o a=some o:=by unfold i8;rw[if_pos rfl]
theorem g9{H:Hp}{a b:Addr}{o:HO}(h:b≠a):i8 H a o b=H b:=by unfold i8;rw[if_neg h]
theorem Iy{H:Hp}{a:Addr}{o u:HO}:i8 (i8 H a o) a u=i8 H a u:=by
 funext b;unfold i8;split<;>rfl
theorem Ex{H:Hp}{a b:Addr}{o u:HO}(h:H a=some o)(h':H b=some u)(d:o≠u):a≠b:=by
 intro e;subst e;rw[h] at h';exact d (R7 h')
theorem j4{H:Hp}{a b:Addr}{o:HO}(h:H a=some o)(h':H b=none):a≠b:=by
 intro e;subst e;rw[h] at h';cases h'
section
variable (P:Program) (w:World)
def D0(H:Hp)(h:Heap)(a:Addr):HO->Prop
 | .lst xs=>xs.length<=sizeLine/\∃(n5:List Value) (n:Nat),u3 xs n5/\h.get? a=some {cls:= .type "list",data:= .seq n5.toArray n}
 | .tup xs=>xs.length<=sizeLine/\∃n5:List Value,u3 xs n5/\IsTup h a n5.toArray
 | .dK kvs=>kvs.length<=sizeLine/\(a==sysModules)=false/\∃vs,KV kvs vs/\h.DictOf (o6 P w) a vs
 | .dT kvs=>kvs.length<=sizeLine/\(a==sysModules)=false/\∃xs:List (List A0×Addr×Value),
   Paired (fun(p:List A0×V) (q:List A0×Addr×Value)=>p.1=q.1/\H q.2.1=some (.tup (p.1.map kV))/\RelV p.2 q.2.2) kvs xs/\
   ∃o es ep,h.get? a=some o/\o.ExactDict/\o.data= .dict es ep/\es.toList=xs.map (entryOfKey (tupleKind (o6 P w)))/\(xs.map (·.1)).Nodup
 | .set S n=>h.SetOf (intKind P w) a S n
 | .ins C dx fs=>H dx=some (.own a)/\fs.length<=1000/\dx≠a/\h.get? a=some (PySem.W.instObj C dx)/\
   ∃mA,h.Ns1 dx mA/\(∀f,Ax (fs.lookup f) (mA f))/\PySem.Within mA (fs.map (·.1))
 | .own _=>∃o,h.get? a=some o
 | .xd fs=>∃mA,h.Ns1 a mA/\∀f,Ax (fs.lookup f) (mA f)
 | .rng lo hi=>∃t u v,h.get? a=some {cls:= .type "range",data:= .fields #[.int lo t, .int hi u, .int 1 v]}
 | .frz o u=>h.get? a=some o/\D0 H h a u
 | .tbl ps=>h.get? a=some {cls:= .none,data:= .fields ps}
 | .met f x=>h.get? a=some (PySem.W.methodObj (.ref f) (.ref x))
 | .ext φ=>φ h/\(∃o,h.get? a=some o)/\∀h1 h2:Heap,φ h1->(∀o,h1.get? a=some o->h2.get? a=some o)->φ h2
def AZ(H:Hp)(h:Heap):Prop:=∀a o,H a=some o->D0 P w H h a o
end
section
variable {P:Program} {w:World} {H H':Hp} {h h':Heap} {a:Addr} {o:HO}
theorem D0.lt(x:D0 P w H h a o):a<h.objs.size:=by
 cases o with
 |lst xs=>obtain⟨_,_,_,_,e⟩:=x;exact A1 e
 |tup xs=>obtain⟨_,_,_,p⟩:=x;exact p.lt
 |dK kvs=>obtain⟨_,_,_,_,o,_,_,e,_⟩:=x;exact A1 e
 |dT kvs=>obtain⟨_,_,_,_,o,_,_,e,_⟩:=x;exact A1 e
 |set S n=>obtain⟨o,_,_,_,e,_⟩:=x;exact A1 e
 |ins C dx fs=>obtain⟨_,_,_,e,_⟩:=x;exact A1 e
 |own y=>obtain⟨_,e⟩:=x;exact A1 e
 |xd fs=>obtain⟨_,⟨_,_,_,e,_⟩,_⟩:=x;exact A1 e
 |rng lo hi=>obtain⟨_,_,_,e⟩:=x;exact A1 e
 |frz ob u=>obtain⟨e,_⟩:=x;exact A1 e
 |tbl ps=>exact A1 (show h.get? a=some _ from x)
 |met f y=>exact A1 (show h.get? a=some _ from x)
 |ext φ=>obtain⟨_,⟨_,e⟩,_⟩:=x;exact A1 e
theorem Paired.mapP{α β:Type}{F G:α->β->Prop}:∀{l₁:List α} {l₂:List β},Paired F l₁ l₂->(∀a b,F a b->G a b)->Paired G l₁ l₂
 |_,_, .nil,_=> .nil
 |_,_, .cons r t,f=> .cons (f _ _ r) (Paired.mapP t f)
theorem D0.stay(x:D0 P w H h a o)(k:∀b u,(b=a\/H b=some (.own a))->h.get? b=some u->h'.get? b=some u)
  (ho:∀b,H b=some (.own a)->H' b=some (.own a))(ht:∀b xs,H b=some (.tup xs)->H' b=some (.tup xs)):D0 P w H' h' a o:=by
 induction o with
 |lst xs=>obtain⟨z,n5,n,r,e⟩:=x;exact⟨z,n5,n,r,k _ _ (.inl rfl) e⟩
 |tup xs=>obtain⟨z,n5,r,ob,e,c⟩:=x;exact⟨z,n5,r,ob,k _ _ (.inl rfl) e,c⟩
 |dK kvs=>obtain⟨z,y,vs,r,ob,es,ep,e,c⟩:=x;exact⟨z,y,vs,r,ob,es,ep,k _ _ (.inl rfl) e,c⟩
 |dT kvs=>
  obtain⟨z,y,xs,r,ob,es,ep,e,c⟩:=x
  exact⟨z,y,xs,Paired.mapP r fun p q z=>⟨z.1,ht _ _ z.2.1,z.2.2⟩,ob,es,ep,k _ _ (.inl rfl) e,c⟩
 |set S n=>obtain⟨ob,es,ep,t,e,c⟩:=x;exact⟨ob,es,ep,t,k _ _ (.inl rfl) e,c⟩
 |ins C dx fs=>
  obtain⟨d,z,ne,e,mA,⟨od,es,ep,e2,c⟩,r⟩:=x
  exact⟨ho _ d,z,ne,k _ _ (.inl rfl) e,mA,⟨od,es,ep,k _ _ (.inr d) e2,c⟩,r⟩
 |own y=>obtain⟨ob,e⟩:=x;exact⟨ob,k _ _ (.inl rfl) e⟩
 |xd fs=>obtain⟨mA,⟨od,es,ep,e,c⟩,r⟩:=x;exact⟨mA,⟨od,es,ep,k _ _ (.inl rfl) e,c⟩,r⟩
 |rng lo hi=>obtain⟨t,u,v,e⟩:=x;exact⟨t,u,v,k _ _ (.inl rfl) e⟩
 |frz ob u ih=>obtain⟨e,q⟩:=x;exact⟨k _ _ (.inl rfl) e,ih q⟩
 |tbl ps=>
  have e:h.get? a=some {cls:= .none,data:= .fields ps}:=x
  show h'.get? a=some {cls:= .none,data:= .fields ps}
  exact k a _ (.inl rfl) e
 |met f y=>
  have e:h.get? a=some (PySem.W.methodObj (.ref f) (.ref y)):=x
  show h'.get? a=some (PySem.W.methodObj (.ref f) (.ref y))
  exact k a _ (.inl rfl) e
 |ext φ=>obtain⟨p,⟨o,e⟩,st⟩:=x;exact⟨st _ _ p fun o q=>k _ _ (.inl rfl) q,⟨o,k _ _ (.inl rfl) e⟩,st⟩
theorem AZ.lt(x:AZ P w H h)(e:H a=some o):a<h.objs.size:=(x a o e).lt
theorem AZ.fresh(x:AZ P w H h)(e:h.objs.size<=a):H a=none:=by
 cases q:H a with
 |none=>rfl
 |some u=>exact absurd (E9 (x.lt q) e) (Cd _)
theorem AZ.kept(x:AZ P w H h)(k:∀b u,h.get? b=some u->h'.get? b=some u):AZ P w H h':=fun a o e=>
 (x a o e).stay (fun b u _ q=>k b u q) (fun _ q=>q) fun _ _ q=>q
theorem AZ.laid(x:AZ P w H h)(k:∀b u,h.get? b=some u->h'.get? b=some u)(hp:h.objs.size<=a)(new:D0 P w (i8 H a o) h' a o):AZ P w (i8 H a o) h':=fun b u e=>by
 have hn:=x.fresh hp
 by_cases hb:b=a
 ·subst hb;rw[c6] at e;cases e;exact new
 ·rw[g9 hb] at e
  exact(x b u e).stay (fun c v _ q=>k c v q) (fun c q=>by rw[g9 (j4 q hn)];exact q) fun c xs q=>by rw[g9 (j4 q hn)];exact q
end
def Rd(H:Hp)(a:Addr)(u:HO):Prop:=H a=some u\/∃o,H a=some (.frz o u)
theorem Rd.ok{P:Program}{w:World}{H:Hp}{h:Heap}{a:Addr}{u:HO}(r:Rd H a u)(x:AZ P w H h):D0 P w H h a u:=by
 rcases r with r|⟨o,r⟩
 ·exact x a u r
 ·obtain⟨_,q⟩:=x a _ r
  exact q
def Mut:Option HO->Prop
 |some (.lst _)=>True
 |some (.dK _)=>True
 |some (.dT _)=>True
 |some (.set _ _)=>True
 |some (.ins _ _ _)=>True
 |some (.ext _)=>True
 |_=>False
section
variable {P:Program} {w:World} {H:Hp} {h h':Heap} {x e:Addr} {o':HO}
theorem AZ.write(ok:AZ P w H h)(mu:Mut (H x))(he:e=x\/H e=some (.own x))(k:∀b u,b≠e->h.get? b=some u->h'.get? b=some u)(heo:∃u,h'.get? e=some u)
  (new:D0 P w (i8 H x o') h' x o'):AZ P w (i8 H x o') h':=fun b u q=>by
 have nown:∀c y,H c=some (.own y)->c≠x:=fun c y r z=>by subst z;rw[r] at mu;exact mu
 have ntup:∀c xs,H c=some (.tup xs)->c≠x:=fun c xs r z=>by subst z;rw[r] at mu;exact mu
 by_cases hb:b=x
 ·subst hb;rw[c6] at q;cases q;exact new
 ·rw[g9 hb] at q
  by_cases Jk:b=e
  ·have q':H b=some (.own x):=by
    rcases he with z|z
    ·exact absurd (Jk.trans z) hb
    ·rw[Jk];exact z
   rw[q] at q';cases q'
   obtain⟨v,hv⟩:=heo
   exact⟨v,by rw[Jk];exact hv⟩
  ·refine(ok b u q).stay (fun c v hc r=>k c v ?_ r) (fun c r=>by rw[g9 (nown c b r)];exact r) fun c xs r=>by rw[g9 (ntup c xs r)];exact r
   rcases hc with rfl|hc
   ·exact Jk
   ·rintro rfl
    rcases he with z|z
    ·exact nown c b hc z
    ·rw[hc] at z;cases z;exact hb rfl
end
structure Un(fs ex:List Addr)(H H':Hp)(h h':Heap):Prop where
 keep:∀b o,h.get? b=some o->H b=none->b∉fs->b∉ex->h'.get? b=some o
 slot:∀b o,h.get? b=some o->H b=none->b∈fs->b∉ex->∃sl,h'.get? b=some {o with slots:=sl}
 free:∀b o,h.get? b=some o->H b=none->b∉ex->H' b=none
 there:∀b o,h.get? b=some o->b∉ex->∃o',h'.get? b=some o'
 tups:∀b xs,H b=some (.tup xs)->H' b=some (.tup xs)
 frzs:∀b o u,H b=some (.frz o u)->H' b=some (.frz o u)
 tbls:∀b ps,H b=some (.tbl ps)->∃more,H' b=some (.tbl (ps++more))
section
variable {fs fs' ex ex':List Addr} {H H1 H2:Hp} {h h1 h2 h':Heap} {a x e:Addr} {o:HO}
theorem Un.any(u:Un fs ex H H1 h h1){b:Addr}{ob:Obj}(q:h.get? b=some ob)(n:H b=none)(hx:b∉ex):∃sl,h1.get? b=some {ob with slots:=sl}:=by
 by_cases hb:b∈fs
 ·exact u.slot b ob q n hb hx
 ·exact⟨ob.slots,u.keep b ob q n hb hx⟩
theorem Un.kept(k:∀b u,h.get? b=some u->h'.get? b=some u):Un fs ex H H h h':=
 ⟨fun b ob q _ _ _=>k b ob q,fun b ob q _ _ _=>⟨ob.slots,k b ob q⟩,fun _ _ _ n _=>n,fun b ob q _=>⟨ob,k b ob q⟩,fun _ _ q=>q,fun _ _ _ q=>q,fun _ ps q=>⟨#[],by rw[q];simp⟩⟩
theorem Un.refl:Un fs ex H H h h:=Un.kept fun _ _ q=>q
theorem Un.laid(k:∀b u,h.get? b=some u->h'.get? b=some u)(hp:h.objs.size<=a)(hn:H a=none):Un fs ex H (i8 H a o) h h' where
 keep:=fun b u q _ _ _=>k b u q
 slot:=fun b u q _ _ _=>⟨u.slots,k b u q⟩
 free:=fun b u q n _=>by rw[g9 (u9 (E9 (A1 q) hp))];exact n
 there:=fun b u q _=>⟨u,k b u q⟩
 tups:=fun b xs q=>by rw[g9 (j4 q hn)];exact q
 frzs:=fun b u xs q=>by rw[g9 (j4 q hn)];exact q
 tbls:=fun b ps q=>⟨#[],by rw[g9 (j4 q hn),q];simp⟩
theorem Un.write(mu:Mut (H x))(he:e=x\/H e=some (.own x))(k:∀b u,b≠e->h.get? b=some u->h'.get? b=some u)(heo:∃u,h'.get? e=some u):Un fs ex H (i8 H x o) h h':=by
 have hx:∀b,H b=none->b≠x:=fun b n z=>by subst z;rw[n] at mu;exact mu
 have hb:∀b,H b=none->b≠e:=fun b n z=>by
  subst z
  rcases he with r|r
  ·exact hx b n r
  ·rw[n] at r;cases r
 have hm:∀b u,H b=some u->¬Mut (some u)->b≠x:=fun b u q nm z=>by subst z;rw[q] at mu;exact nm mu
 refine⟨fun b u q n _ _=>k b u (hb b n) q,fun b u q n _ _=>⟨u.slots,k b u (hb b n) q⟩,fun b u q n _=>by rw[g9 (hx b n)];exact n,fun b u q _=> ?_,
  fun b xs q=>by rw[g9 (hm b _ q fun z=>z)];exact q,fun b u xs q=>by rw[g9 (hm b _ q fun z=>z)];exact q,fun b ps q=>⟨#[],by rw[g9 (hm b _ q fun z=>z),q];simp⟩⟩
 by_cases Jk:b=e
 ·subst Jk;exact heo
 ·exact⟨u,k b u Jk q⟩
end
def trk(h:Heap)(H:Hp):List Addr:=(List.range h.objs.size).filter fun a=>(H a).isSome
def Jh(h:Heap)(H:Hp):Heap:=PySem.W.hideAll h (trk h H)
theorem QP(h:Heap)(H:Hp):(Jh h H).objs.size=h.objs.size:=PySem.W.hideAll_size _ _
theorem Uh{h:Heap}{H:Hp}{b:Addr}{o:Obj}(e:h.get? b=some o)(n:H b=none):(Jh h H).get? b=some o:=
 PySem.W.hideAll_get _ e fun hm=>by
  have q:(H b).isSome=true:=(V9.mp hm).2
  rw[n] at q;simp at q
theorem WV{h:Heap}{H:Hp}{b:Addr}{o:Obj}(e:(Jh h H).get? b=some o):h.get? b=some o/\H b=none:=by
 have e':h.get? b=some o:=PySem.W.of_hideAll (trk h H) e
 refine⟨e',?_⟩
 cases q:H b with
 |none=>rfl
 |some x=>
  have hm:b∈trk h H:=V9.mpr ⟨Mj.mpr (A1 e'),by simp [q]⟩
  have z:(Jh h H).get? b=none:=PySem.W.hideAll_none (trk h H) hm
  rw[z] at e;cases e
def XM(g h:Heap)(L:Addr):List (Addr×Obj):=(List.range h.objs.size).filterMap fun a=>if a=L\/(g.get? a).isSome=true then none else (h.get? a).map fun o=>(a,o)
def C3(g h:Heap)(L d:Addr):List (Addr×Obj):=(XM g h L).filter fun p=>decide (p.1≠d)
structure Mod(K:j6)(mg:Str->Option Value)(base:Heap):Prop where
 kin:K.In base
 glob:base.Ns mainGlobals mg
 blt:∃mb,base.Ns builtinsNs mb/\∀x:Str,x≠"__name__"->mb x=bootBuiltins x
 nolimit:base.NoLimit
structure Cx where
 prog:Program
 w:World
 K:j6
 mg:Str->Option Value
 base:Heap
 A:Around
 N:List Str
 s₀:Shared
 H₀:Hp
 env:Env
 outer:List Env
 stack:List Env
 ex:List Addr
 fn:Str->Bool
 calm:Bool
 pn:List (Addr×Obj)
 xe:Value->Shared->Prop
def Jn(l:List Env):List Addr:=l.filterMap (·.frame)
abbrev Cx.fs(X:Cx):List Addr:=Jn X.outer
def Vis(sc:Scope)(x:Str):Prop:=sc.names.lookup x=some .local\/sc.names.lookup x=some .cell\/sc.names.lookup x=some .free
def Loc(sc:Scope)(x:Str):Prop:=sc.names.lookup x=some .local\/sc.names.lookup x=some .cell
def Look(env:Env)(h:Heap)(m:Str->Option Value)(x:Str)(u:Value):Prop:=
 (env.kindOf x=some .local/\m x=some u)\/((env.kindOf x=some .cell\/env.kindOf x=some .free)/\∃c,env.cells.lookup x=some c/\h.IsCell c (some u))
structure Cx.Ok(X:Cx):Prop where
 mod:Mod X.K X.mg X.base
 kind:X.env.scope.kind= .function
 glob:X.env.globals=mainGlobals
 blt:X.env.builtins=builtinsNs
 above:X.s₀.heap.objs.size<=X.env.locals
 inj:∀x y c,X.env.cells.lookup x=some c->X.env.cells.lookup y=some c->x=y
 has:∀x,(X.env.kindOf x=some .cell\/X.env.kindOf x=some .free)->∃c,X.env.cells.lookup x=some c
 cab:∀x c,X.fn x=true->X.env.cells.lookup x=some c->X.s₀.heap.objs.size<=c
 hd:X.calm=true->X.A.handled=none
 frames:X.A.frames=some X.stack
 stk:X.stack=X.outer\/(X.stack=X.env::X.outer/\X.env.frame=some X.env.locals)
 exf:∀b∈X.ex,b≠X.env.locals/\∀x c,X.env.cells.lookup x=some c->c≠b
 bs:∀b o,X.base.get? b=some o->X.s₀.heap.get? b=some o/\X.H₀ b=none
 bsz:X.base.objs.size<=X.s₀.heap.objs.size
 noex:∀b o,X.base.get? b=some o->b∉X.ex
 exfs:∀b∈X.ex,b∉X.fs
 funs:X.s₀.heap.FunFrames X.base X.outer
 frf:∀b∈X.fs,X.H₀ b=none
structure Inw(X:Cx)(c4:List (Addr×Obj))(σ:List (Option V))(H:Hp)(s:Shared):Prop where
 ok:X.Ok
 os:s.os=X.s₀.os
 bare:AllBare s.gens
 base:Un X.fs X.ex X.H₀ H X.s₀.heap s.heap
 loc:∃m,s.heap.Ns X.env.locals m/\∀(i:Nat) (x:Str) (v:V),X.N[i]? =some x->σ[i]? =some (some v)->Vis X.env.scope x->∃u,RelV v u/\Look X.env s.heap m x u
 cell:∀x c,X.env.cells.lookup x=some c->∃v,s.heap.IsCell c v
 free:H X.env.locals=none
 freeC:∀x c,X.env.cells.lookup x=some c->H c=none
 pin:∀p∈X.pn++c4,s.heap.get? p.1=some p.2/\H p.1=none/\p.1≠X.env.locals/\p.1∉X.fs/\∀v,p.2.data≠ .cell v
 hok:AZ X.prog X.w H s.heap
 len:σ.length=X.N.length
section
variable {X:Cx} {c4:List (Addr×Obj)} {σ:List (Option V)} {H H':Hp} {s:Shared} {h':Heap}
theorem Cx.Ok.nofr(ok:X.Ok){b:Addr}{o:Obj}(e:X.base.get? b=some o):b∉X.fs:=fun hb=>by
 have:=(ok.funs.mem hb).1
 rw[e] at this;cases this
theorem Inw.bs(I:Inw X c4 σ H s):∀b o,X.base.get? b=some o->s.heap.get? b=some o/\H b=none:=fun b o e=>
 ⟨I.base.keep b o (I.ok.bs b o e).1 (I.ok.bs b o e).2 (I.ok.nofr e) (I.ok.noex b o e),I.base.free b o (I.ok.bs b o e).1 (I.ok.bs b o e).2 (I.ok.noex b o e)⟩
theorem Inw.bk(I:Inw X c4 σ H s):∀b o,X.base.get? b=some o->s.heap.get? b=some o:=fun b o e=>(I.bs b o e).1
theorem Inw.mod(I:Inw X c4 σ H s):Mod X.K X.mg X.base:=I.ok.mod
theorem Inw.kIn(I:Inw X c4 σ H s):X.K.In s.heap:=I.ok.mod.kin.keeps I.bk
theorem Inw.lt(I:Inw X c4 σ H s):X.env.locals<s.heap.objs.size:=let ⟨_,hn,_⟩:=I.loc;hn.lt
theorem Inw.sz(I:Inw X c4 σ H s):X.s₀.heap.objs.size<=s.heap.objs.size:=E7 I.ok.above (EI I.lt)
theorem Inw.nofs(I:Inw X c4 σ H s){a:Addr}(h:s.heap.objs.size<=a):a∉X.fs:=fun hb=>by
 obtain⟨_,o,ho,_⟩:=I.ok.funs.mem hb
 exact absurd (E9 (A1 ho) (E7 I.sz h)) (Cd _)
theorem Inw.cne(I:Inw X c4 σ H s):∀x c,X.env.cells.lookup x=some c->c≠X.env.locals:=fun x c e z=>by
 obtain⟨v,o,ho,hd⟩:=I.cell x c e
 obtain⟨m,⟨o',es,ep,ho',hd',_⟩,_⟩:=I.loc
 rw[z,ho'] at ho;cases ho;rw[hd'] at hd;cases hd
theorem Inw.funs(I:Inw X c4 σ H s):s.heap.FunFrames X.base X.outer:=by
 have all:∀(l:List Env),(∀b∈Jn l,b∈X.fs)->X.s₀.heap.FunFrames X.base l->s.heap.FunFrames X.base l:=by
  intro l
  induction l with
  |nil=>intro _ _;trivial
  |cons env r ih=>
   intro hs hl
   obtain⟨hk,⟨L,o,hf,hn,ho,hd⟩,hr⟩:=hl
   have hL:L∈X.fs:=hs L (by unfold Jn;rw[VE,hf];exact A5)
   obtain⟨sl,e⟩:=I.base.slot L o ho (I.ok.frf L hL) hL fun z=>I.ok.exfs L z hL
   exact⟨hk,⟨L,_,hf,hn,e,hd⟩,ih (fun b hb=>hs b (by unfold Jn;rw[VE,hf];exact B1 _ hb)) hr⟩
 exact all X.outer (fun _ hb=>hb) I.ok.funs
theorem Inw.stack(I:Inw X c4 σ H s):s.heap.FunFrames X.base X.stack:=by
 rcases I.ok.stk with e|⟨e,hf⟩
 ·rw[e];exact I.funs
 ·rw[e]
  obtain⟨m,hn,_⟩:=I.loc
  refine .cons (by rw[I.ok.kind];decide) hf hn ?_ I.funs
  exact Heap.get?_none_of_le (E7 I.ok.bsz I.ok.above)
theorem Inw.stkSub(I:Inw X c4 σ H s):∀b∈Jn X.stack,b∈X.env.locals::X.fs:=fun b hb=>by
 rcases I.ok.stk with e|⟨e,hf⟩
 ·rw[e] at hb;exact B1 _ hb
 ·rw[e] at hb
  unfold Jn at hb
  rw[VE,hf] at hb
  exact hb
theorem Inw.stkFree(I:Inw X c4 σ H s):∀b∈Jn X.stack,H b=none:=fun b hb=>by
 rcases C8.mp (I.stkSub b hb) with e|hb
 ·rw[e];exact I.free
 ·obtain⟨_,o,ho,_⟩:=I.ok.funs.mem hb
  exact I.base.free b o ho (I.ok.frf b hb) fun z=>I.ok.exfs b z hb
theorem Inw.step{g':Array GenState}{t':Nat}{d':Drawn}{ch:List Addr}(I:Inw X c4 σ H s)
  (Wa:∀b∈ch,(b∈X.ex\/X.s₀.heap.objs.size<=b)/\b≠X.env.locals/\(∀x c,X.env.cells.lookup x=some c->c≠b)/\∀p∈X.pn++c4,p.1≠b)
  (keep:∀b o,b≠X.env.locals->b∉X.fs->b∉ch->s.heap.get? b=some o->H b=none->h'.get? b=some o)
  (slot:∀b o,b≠X.env.locals->b∈X.fs->b∉ch->s.heap.get? b=some o->H b=none->∃sl,h'.get? b=some {o with slots:=sl})(free:∀b o,b∉ch->s.heap.get? b=some o->H b=none->H' b=none)
  (there:∀b o,b∉ch->s.heap.get? b=some o->∃o',h'.get? b=some o')
  (tups:∀b xs,H b=some (.tup xs)->H' b=some (.tup xs))(frzs:∀b o u,H b=some (.frz o u)->H' b=some (.frz o u))(tbls:∀b ps,H b=some (.tbl ps)->∃more,H' b=some (.tbl (ps++more)))
  (ns:∀m,s.heap.Ns X.env.locals m->h'.Ns X.env.locals m)(hok:AZ X.prog X.w H' h')(hg:AllBare g'):
  Inw X c4 σ H' {s with heap:=h',gens:=g',drawn:=d',toks:=t'}:=by
 have neL:∀b o,X.s₀.heap.get? b=some o->b≠X.env.locals:=fun b o e=>u9 (E9 (A1 e) I.ok.above)
 have neC:∀b o,X.s₀.heap.get? b=some o->b∉X.ex->b∉ch:=fun b o e hx hb=>by
  rcases(Wa b hb).1 with z|z
  ·exact hx z
  ·exact absurd (E9 (A1 e) z) (Cd _)
 have cellK:∀x c,X.env.cells.lookup x=some c->∀v,s.heap.IsCell c v->h'.IsCell c v:=fun x c e v ⟨o,ho,hd⟩=>by
  have nch:c∉ch:=fun z=>(Wa c z).2.2.1 x c e rfl
  by_cases hc:c∈X.fs
  ·obtain⟨sl,q⟩:=slot c o (I.cne x c e) hc nch ho (I.freeC x c e)
   exact⟨_,q,hd⟩
  ·exact⟨o,keep c o (I.cne x c e) hc nch ho (I.freeC x c e),hd⟩
 refine⟨I.ok,I.os,hg,⟨fun b o e n hb hx=> ?_,fun b o e n hb hx=> ?_,fun b o e n hx=> ?_,fun b o e hx=> ?_,fun b xs e=>tups b xs (I.base.tups b xs e),fun b o xs e=>frzs b o xs (I.base.frzs b o xs e),fun b ps e=> ?_⟩,?_,fun x c e=> ?_,?_,fun x c e=> ?_,fun p hp=> ?_,hok,I.len⟩
 ·exact keep b o (neL b o e) hb (neC b o e hx) (I.base.keep b o e n hb hx) (I.base.free b o e n hx)
 ·obtain⟨sl,e1⟩:=I.base.slot b o e n hb hx
  obtain⟨sl',e2⟩:=slot b _ (neL b o e) hb (neC b o e hx) e1 (I.base.free b o e n hx)
  exact⟨sl',e2⟩
 ·obtain⟨o',e1⟩:=I.base.there b o e hx
  exact free b o' (neC b o e hx) e1 (I.base.free b o e n hx)
 ·obtain⟨o',e1⟩:=I.base.there b o e hx
  exact there b o' (neC b o e hx) e1
 ·obtain⟨m1,e1⟩:=I.base.tbls b ps e
  obtain⟨m2,e2⟩:=tbls b _ e1
  exact⟨m1++m2,by rw[e2,Array.append_assoc]⟩
 ·obtain⟨m,hn,hl⟩:=I.loc
  refine⟨m,ns m hn,fun i x v e1 e2 e3=> ?_⟩
  obtain⟨u,r,l⟩:=hl i x v e1 e2 e3
  refine⟨u,r,?_⟩
  rcases l with l|⟨k,c,e,z⟩
  ·exact .inl l
  ·exact .inr ⟨k,c,e,cellK x c e _ z⟩
 ·obtain⟨v,z⟩:=I.cell x c e
  exact⟨v,cellK x c e v z⟩
 ·obtain⟨m,⟨o,_,_,ho,_⟩,_⟩:=I.loc
  exact free _ o (fun z=>(Wa _ z).2.1 rfl) ho I.free
 ·obtain⟨v,o,ho,hd⟩:=I.cell x c e
  exact free c o (fun z=>(Wa c z).2.2.1 x c e rfl) ho (I.freeC x c e)
 ·obtain⟨e,n,ne,nf,d⟩:=I.pin p hp
  have nch:p.1∉ch:=fun z=>(Wa p.1 z).2.2.2 p hp rfl
  exact⟨keep p.1 p.2 ne nf nch e n,free p.1 p.2 nch e n,ne,nf,d⟩
theorem Inw.un{t':Nat}(I:Inw X c4 σ H s)(u:Un X.fs [] H H' s.heap h')(hok:AZ X.prog X.w H' h'):Inw X c4 σ H' {s with heap:=h',toks:=t'}:=by
 obtain⟨m,⟨o,es,ep,ho,r⟩,_⟩:=id I.loc
 obtain⟨sl,hL⟩:=u.any ho I.free (by simp)
 exact I.step (g':=s.gens) (d':=s.drawn) (ch:=[]) (fun _ z=>nomatch z) (fun b o _ hb _ e n=>u.keep b o e n hb (by simp)) (fun b o _ hb _ e n=>u.slot b o e n hb (by simp)) (fun b o _ e n=>u.free b o e n (by simp)) (fun b o _ e=>u.there b o e (by simp)) u.tups u.frzs u.tbls (fun m' hm=>by
  obtain⟨o',es',ep',ho',r'⟩:=hm
  rw[ho] at ho';cases ho'
  exact⟨_,es',ep',hL,r'⟩) hok I.bare
theorem Inw.call{g':Array GenState}{t':Nat}{d':Drawn}{ch:List Addr}(I:Inw X c4 σ H s)(u:Un (Jn X.stack) ch H H' s.heap h')(hok:AZ X.prog X.w H' h')(hg:AllBare g')
  (Wa:∀b∈ch,(b∈X.ex\/X.s₀.heap.objs.size<=b)/\b≠X.env.locals/\(∀x c,X.env.cells.lookup x=some c->c≠b)/\∀p∈X.pn++c4,p.1≠b):
  Inw X c4 σ H' {s with heap:=h',gens:=g',drawn:=d',toks:=t'}:=by
 obtain⟨m,⟨o,es,ep,ho,r⟩,_⟩:=id I.loc
 obtain⟨sl,hL⟩:=u.any ho I.free fun z=>(Wa _ z).2.1 rfl
 exact I.step (ch:=ch) Wa (fun b o hL hb hc e n=>u.keep b o e n (fun z=>(C8.mp (I.stkSub b z)).elim hL hb) hc) (fun b o _ _ hc e n=>u.any e n hc) (fun b o hc e n=>u.free b o e n hc) (fun b o hc e=>u.there b o e hc) u.tups u.frzs u.tbls (fun m' hm=>by
  obtain⟨o',es',ep',ho',r'⟩:=hm
  rw[ho] at ho';cases ho'
  exact⟨_,es',ep',hL,r'⟩) hok hg
theorem Inw.turned{t':Nat}{it:Addr}(I:Inw X c4 σ H s)(k:∀b o,b≠it->s.heap.get? b=some o->h'.get? b=some o)(hn:H it=none)(hL:it≠X.env.locals)
  (h1:it∈X.ex\/X.s₀.heap.objs.size<=it)(h2:∀x c,X.env.cells.lookup x=some c->c≠it)(h3:∀p∈X.pn++c4,p.1≠it):Inw X c4 σ H {s with heap:=h',toks:=t'}:=by
 have nit:∀b u,H b=some u->b≠it:=fun b u e z=>by rw[z,hn] at e;cases e
 refine I.step (g':=s.gens) (d':=s.drawn) (ch:=[it]) (fun b hb=> ?_) (fun b o _ _ hc e _=>k b o (fun z=>hc (by simp [z])) e) (fun b o _ _ hc e _=>⟨o.slots,k b o (fun z=>hc (by simp [z])) e⟩) (fun _ _ _ _ n=>n)
  (fun b o hc e=>⟨o,k b o (fun z=>hc (by simp [z])) e⟩) (fun _ _ e=>e) (fun _ _ _ e=>e) (fun b ps e=>⟨#[],by rw[e];simp⟩) (fun m hm=> ?_) (fun b u e=> ?_) I.bare
 ·have e:b=it:=by simpa using hb
  subst e
  exact⟨h1,hL,h2,h3⟩
 ·obtain⟨o,es,ep,ho,r⟩:=hm
  exact⟨o,es,ep,k _ o (D9 hL) ho,r⟩
 ·refine(I.hok b u e).stay (fun c v hc q=>k c v ?_ q) (fun _ q=>q) fun _ _ q=>q
  rcases hc with z|z
  ·rw[z];exact nit b u e
  ·exact nit c _ z
theorem Inw.tok(I:Inw X c4 σ H s)(t:Nat):Inw X c4 σ H {s with toks:=t}:=I.un (h':=s.heap) (t':=t) Un.refl I.hok
theorem Inw.kept{t':Nat}(I:Inw X c4 σ H s)(k:∀b u,s.heap.get? b=some u->h'.get? b=some u):Inw X c4 σ H {s with heap:=h',toks:=t'}:=I.un (Un.kept k) (I.hok.kept k)
theorem Inw.laid{a:Addr}{o:HO}{t':Nat}(I:Inw X c4 σ H s)(k:∀b u,s.heap.get? b=some u->h'.get? b=some u)(hp:s.heap.objs.size<=a)(new:D0 X.prog X.w (i8 H a o) h' a o):
  Inw X c4 σ (i8 H a o) {s with heap:=h',toks:=t'}:=I.un (Un.laid k hp (I.hok.fresh hp)) (I.hok.laid k hp new)
theorem Inw.write{x e:Addr}{o:HO}{t':Nat}(I:Inw X c4 σ H s)(mu:Mut (H x))(he:e=x\/H e=some (.own x))(k:∀b u,b≠e->s.heap.get? b=some u->h'.get? b=some u)(heo:∃u,h'.get? e=some u)
  (new:D0 X.prog X.w (i8 H x o) h' x o):Inw X c4 σ (i8 H x o) {s with heap:=h',toks:=t'}:=I.un (Un.write mu he k heo) (I.hok.write mu he k heo new)
theorem Inw.pins_of{pins':List (Addr×Obj)}(I:Inw X c4 σ H s)(h:∀p∈pins',s.heap.get? p.1=some p.2/\H p.1=none/\p.1≠X.env.locals/\p.1∉X.fs/\∀v,p.2.data≠ .cell v):Inw X pins' σ H s:=
 ⟨I.ok,I.os,I.bare,I.base,I.loc,I.cell,I.free,I.freeC,fun p hp=>(D8.mp hp).elim (fun z=>I.pin p (Mi _ z)) (h p),I.hok,I.len⟩
theorem FH{N:List Str}(hN:N.Nodup){i j:Nat}{x:Str}(a:N[i]? =some x)(b:N[j]? =some x):i=j:=by
 obtain⟨h1,e1⟩:=u4.mp a
 obtain⟨h2,e2⟩:=u4.mp b
 exact(List.getElem_inj hN).mp (e1.trans e2.symm)
theorem Ht{M:Model}{A:Around}{E:Value->Shared->Prop}{i:Nat}{x:Str}{v:V}{u:Value}{Q:Unit->Shared->Prop}(I:Inw X c4 σ H s)(hN:X.N.Nodup)(hi:X.N[i]? =some x)(hx:Loc X.env.scope x)(r:RelV v u)
  (h:∀s',Inw X c4 (σ.set i (some v)) H s'->(∃a,Heap.SameBut a s.heap s'.heap/\(a=X.env.locals\/X.env.cells.lookup x=some a))->Q () s')(hf:X.fn x=true\/X.env.scope.names.lookup x=some .local:=by first|exact .inl rfl|exact .inr rfl|assumption):wpAny M A (storeName X.env x u) Q E s:=by
 obtain⟨m,hn,hl⟩:=id I.loc
 have hcls:(X.env.scope.kind== .class||(X.env.scope.kind== .module&&X.env.locals != X.env.globals))=false:=by rw[I.ok.kind];rfl
 have hiσ:i<σ.length:=by rw[I.len];exact(u4.mp hi).1
 have cne:=I.cne
 have tracked:∀{a:Addr} {h':Heap},(∃o,s.heap.get? a=some o/\H a=none)->Heap.SameBut a s.heap h'->AZ X.prog X.w H h':=fun{a h'} ha hs b ob e=>by
  obtain⟨_,_,hfree⟩:=ha
  refine(I.hok b ob e).stay (fun c w' hc q=>(hs.2 c ?_).trans q) (fun _ q=>q) fun _ _ q=>q
  rintro rfl
  rcases hc with rfl|hc
  ·rw[hfree] at e;cases e
  ·rw[hfree] at hc;cases hc
 rcases hx with hk|hk
 ·refine wpAny_storeName_local hk hn (fun h' hn' hs=> ?_) hcls
  obtain⟨oL,_,_,hoL,_⟩:=id hn
  refine h _ ⟨I.ok,I.os,I.bare,⟨fun b o e n hb hx=> ?_,fun b o e n hb hx=> ?_,I.base.free,fun b o e hx=> ?_,I.base.tups,I.base.frzs,I.base.tbls⟩,⟨_,hn',fun j y v' e1 e2 e3=> ?_⟩,fun y c e=> ?_,I.free,I.freeC,fun p hp=> ?_,tracked ⟨oL,hoL,I.free⟩ hs,by simpa using I.len⟩ ⟨_,hs, .inl rfl⟩
  ·exact(hs.2 b (u9 (E9 (A1 e) I.ok.above))).trans (I.base.keep b o e n hb hx)
  ·obtain⟨sl,e1⟩:=I.base.slot b o e n hb hx
   exact⟨sl,(hs.2 b (u9 (E9 (A1 e) I.ok.above))).trans e1⟩
  ·obtain⟨o',e1⟩:=I.base.there b o e hx
   exact⟨o',(hs.2 b (u9 (E9 (A1 e) I.ok.above))).trans e1⟩
  ·by_cases hj:j=i
   ·subst hj
    rw[hi] at e1;cases e1
    rw[PR hiσ] at e2
    cases e2
    exact⟨u,r, .inl ⟨hk,by simp⟩⟩
   ·rw[Vr (D9 hj)] at e2
    obtain⟨u',r',q⟩:=hl j y v' e1 e2 e3
    refine⟨u',r',?_⟩
    rcases q with ⟨k,e⟩|⟨k,c,e,z⟩
    ·refine .inl ⟨k,?_⟩
     have:y≠x:=fun e=>hj (FH hN e1 (e▸hi))
     simp [this,e]
    ·exact .inr ⟨k,c,e,z.sameBut hs (cne y c e)⟩
  ·obtain⟨w',z⟩:=I.cell y c e
   exact⟨w',z.sameBut hs (cne y c e)⟩
  ·obtain⟨e,n,ne,nf,d⟩:=I.pin p hp
   exact⟨(hs.2 p.1 ne).trans e,n,ne,nf,d⟩
 ·have hfn:X.fn x=true:=by
   rcases hf with z|z
   ·exact z
   ·rw[z] at hk;cases hk
  obtain⟨c,hc⟩:=I.ok.has x (.inl hk)
  obtain⟨w',z⟩:=I.cell x c hc
  refine wpAny_storeName_cell I.ok.kind hk hc z (fun h' hc' hs=> ?_)
  obtain⟨oc,hoc,hocd⟩:=id z
  refine h {s with heap:=h'} ⟨I.ok,I.os,I.bare,⟨fun b o e n hb hx=> ?_,fun b o e n hb hx=> ?_,I.base.free,fun b o e hx=> ?_,I.base.tups,I.base.frzs,I.base.tbls⟩,⟨m,hn.sameBut hs (D9 (cne x c hc)),fun j y v' e1 e2 e3=> ?_⟩,fun y c' e=> ?_,I.free,I.freeC,fun p hp=> ?_,tracked ⟨oc,hoc,I.freeC x c hc⟩ hs,by simpa using I.len⟩ ⟨c,hs, .inr hc⟩
  ·exact(hs.2 b (u9 (E9 (A1 e) (I.ok.cab x c hfn hc)))).trans (I.base.keep b o e n hb hx)
  ·obtain⟨sl,e1⟩:=I.base.slot b o e n hb hx
   exact⟨sl,(hs.2 b (u9 (E9 (A1 e) (I.ok.cab x c hfn hc)))).trans e1⟩
  ·obtain⟨o',e1⟩:=I.base.there b o e hx
   exact⟨o',(hs.2 b (u9 (E9 (A1 e) (I.ok.cab x c hfn hc)))).trans e1⟩
  ·by_cases hj:j=i
   ·subst hj
    rw[hi] at e1;cases e1
    rw[PR hiσ] at e2
    cases e2
    exact⟨u,r, .inr ⟨.inl hk,c,hc,hc'⟩⟩
   ·rw[Vr (D9 hj)] at e2
    obtain⟨u',r',q⟩:=hl j y v' e1 e2 e3
    refine⟨u',r',?_⟩
    rcases q with q|⟨k,c',e,z'⟩
    ·exact .inl q
    ·refine .inr ⟨k,c',e,z'.sameBut hs ?_⟩
     rintro rfl
     exact hj (FH hN e1 (I.ok.inj _ _ _ e hc▸hi))
  ·by_cases hcc:c'=c
   ·subst hcc;exact⟨_,hc'⟩
   ·obtain⟨w2,z2⟩:=I.cell y c' e
    exact⟨w2,z2.sameBut hs hcc⟩
  ·obtain⟨e,n,ne,nf,d⟩:=I.pin p hp
   refine⟨(hs.2 p.1 ?_).trans e,n,ne,nf,d⟩
   intro q
   rw[q,hoc] at e
   have q':oc=p.2:=R7 e
   exact d w' (by rw[<-q'];exact hocd)
theorem U6{M:Model}{A:Around}{E:Value->Shared->Prop}{i:Nat}{x:Str}{v:V}{u:Value}{Q:Unit->Shared->Prop}(I:Inw X c4 σ H s)(hN:X.N.Nodup)(hi:X.N[i]? =some x)(hx:Loc X.env.scope x)(r:RelV v u)
  (h:∀s',Inw X c4 (σ.set i (some v)) H s'->Q () s')(hf:X.fn x=true\/X.env.scope.names.lookup x=some .local:=by first|exact .inl rfl|exact .inr rfl|assumption):wpAny M A (storeName X.env x u) Q E s:=
 Ht I hN hi hx r (fun s' I' _=>h s' I') hf
theorem Inw.call'{s':Shared}{ch:List Addr}(I:Inw X c4 σ H s)(ho:s'.os=s.os)(u:Un (Jn X.stack) ch H H' s.heap s'.heap)(hok:AZ X.prog X.w H' s'.heap)(hg:AllBare s'.gens)
  (Wa:∀b∈ch,(b∈X.ex\/X.s₀.heap.objs.size<=b)/\b≠X.env.locals/\(∀x c,X.env.cells.lookup x=some c->c≠b)/\∀p∈X.pn++c4,p.1≠b):Inw X c4 σ H' s':=by
 obtain⟨h',g',d',t',o'⟩:=s'
 have e:o'=s.os:=ho
 subst e
 exact I.call (g':=g') (t':=t') (d':=d') u hok hg Wa
end
abbrev XK:=Value->Option Addr->Hp->Prop
abbrev St:=List (Option V)
abbrev VK:=V->Hp->Prop
abbrev TE:=St->Hp->VK->Prop
abbrev TT:=St->Hp->(Bool->Hp->Prop)->Prop
abbrev TA:=St->Hp->(List V->Hp->Prop)->Prop
structure Ends where
 nx:St->Hp->Prop
 rt:VK
 bk:St->Hp->Prop:=fun _ _=>False
 ct:St->Hp->Prop:=fun _ _=>False
abbrev TS:=Ends->St->Hp->Prop
def EP(X:Cx)(c4:List (Addr×Obj))(σ:St)(Q:VK)(u:Value)(s':Shared):Prop:=∃v H',Inw X c4 σ H' s'/\RelV v u/\Q v H'
def TP(X:Cx)(c4:List (Addr×Obj))(σ:St)(Q:Bool->Hp->Prop)(b:Bool)(s':Shared):Prop:=∃H',Inw X c4 σ H' s'/\Q b H'
def AP(X:Cx)(c4:List (Addr×Obj))(σ:St)(Q:List V->Hp->Prop)(us:List Value)(s':Shared):Prop:=∃vs H',Inw X c4 σ H' s'/\u3 vs us/\Q vs H'
def SP(X:Cx)(c4:List (Addr×Obj))(D:Ends)(f:Flow)(s':Shared):Prop:=
 match f with
 | .next=>∃σ' H',Inw X c4 σ' H' s'/\D.nx σ' H'
 | .brk=>∃σ' H',Inw X c4 σ' H' s'/\D.bk σ' H'
 | .cont=>∃σ' H',Inw X c4 σ' H' s'/\D.ct σ' H'
 | .ret u=>∃v σ' H',Inw X c4 σ' H' s'/\RelV v u/\D.rt v H'
structure Inv(X:Cx)(c4:List (Addr×Obj))(σ:List (Option V))(H:Hp)(s:Shared):Prop extends Inw X c4 σ H s where
 pos:0<s.toks
instance {X:Cx} {c4:List (Addr×Obj)} {σ:List (Option V)} {H:Hp} {s:Shared}:CoeOut (Inv X c4 σ H s) (Inw X c4 σ H s):=⟨Inv.toInw⟩
def EPs(X:Cx)(c4:List (Addr×Obj))(σ:St)(Q:VK)(u:Value)(s':Shared):Prop:=∃v H',Inv X c4 σ H' s'/\RelV v u/\Q v H'
def TPs(X:Cx)(c4:List (Addr×Obj))(σ:St)(Q:Bool->Hp->Prop)(b:Bool)(s':Shared):Prop:=∃H',Inv X c4 σ H' s'/\Q b H'
def APs(X:Cx)(c4:List (Addr×Obj))(σ:St)(Q:List V->Hp->Prop)(us:List Value)(s':Shared):Prop:=∃vs H',Inv X c4 σ H' s'/\u3 vs us/\Q vs H'
def RF(X:Cx)(c4:List (Addr×Obj))(D:Ends)(f:Flow)(s':Shared):Prop:=
 match f with
 | .next=>∃σ' H',Inv X c4 σ' H' s'/\D.nx σ' H'
 | .brk=>∃σ' H',Inv X c4 σ' H' s'/\D.bk σ' H'
 | .cont=>∃σ' H',Inv X c4 σ' H' s'/\D.ct σ' H'
 | .ret u=>∃v σ' H',Inv X c4 σ' H' s'/\RelV v u/\D.rt v H'
theorem RF.w{X:Cx}{c4:List (Addr×Obj)}{D:Ends}{f:Flow}{s:Shared}(h:RF X c4 D f s):SP X c4 D f s:=by
 cases f with
 |next=>obtain⟨σ,H,I,q⟩:=h;exact⟨σ,H,I.toInw,q⟩
 |brk=>obtain⟨σ,H,I,q⟩:=h;exact⟨σ,H,I.toInw,q⟩
 |cont=>obtain⟨σ,H,I,q⟩:=h;exact⟨σ,H,I.toInw,q⟩
 |ret u=>obtain⟨v,σ,H,I,r,q⟩:=h;exact⟨v,σ,H,I.toInw,r,q⟩
def PE(X:Cx)(e:Expr)(t:TE):Prop:=
 ∀(c4:List (Addr×Obj)) (s:Shared) (σ:St) (H:Hp) (Q:VK),Inv X c4 σ H s->t σ H Q->wpAny (model X.prog X.w) X.A (eval e X.env) (EP X c4 σ Q) X.xe s
def PT(X:Cx)(e:Expr)(t:TT):Prop:=
 ∀(c4:List (Addr×Obj)) (s:Shared) (σ:St) (H:Hp) (Q:Bool->Hp->Prop),Inv X c4 σ H s->t σ H Q->wpAny (model X.prog X.w) X.A (isTrue e X.env (eval e X.env)) (TP X c4 σ Q) X.xe s
def PW(X:Cx)(e:Expr)(t:TT):Prop:=
 ∀(Ba:Sem Value) (c4:List (Addr×Obj)) (s:Shared) (σ:St) (H:Hp) (Q:Bool->Hp->Prop),Inv X c4 σ H s->t σ H Q->wpAny (model X.prog X.w) X.A (isTrue e X.env Ba) (TP X c4 σ Q) X.xe s
theorem PW.pt{X:Cx}{e:Expr}{t:TT}(h:PW X e t):PT X e t:=h _
def PA(X:Cx)(es:List Expr)(t:TA):Prop:=
 ∀(pos:Pos) (c4:List (Addr×Obj)) (s:Shared) (σ:St) (H:Hp) (Q:List V->Hp->Prop),Inv X c4 σ H s->t σ H Q->wpAny (model X.prog X.w) X.A (spliced (backTo pos (starEach es X.env))) (AP X c4 σ Q) X.xe s
def PS(X:Cx)(st:Stmt)(t:TS):Prop:=
 ∀(c4:List (Addr×Obj)) (s:Shared) (σ:St) (H:Hp) (D:Ends),Inv X c4 σ H s->t D σ H->wpAny (model X.prog X.w) X.A (exec st X.env) (SP X c4 D) X.xe s
def Hm(X:Cx)(st:List Stmt)(t:TS):Prop:=
 ∀(c4:List (Addr×Obj)) (s:Shared) (σ:St) (H:Hp) (D:Ends),Inv X c4 σ H s->t D σ H->wpAny (model X.prog X.w) X.A (execs st X.env) (SP X c4 D) X.xe s
structure WP{β:Type}(M:Model)(A:Around)(t:Sem β)(Q:β->Shared->Prop)(E:Value->Shared->Prop)(s:Shared):Prop where
 pos:0<s.toks
 run:wpAny M A t Q E s
instance {β:Type} {M:Model} {A:Around} {t:Sem β} {Q:β->Shared->Prop} {E:Value->Shared->Prop} {s:Shared}:CoeOut (WP M A t Q E s) (wpAny M A t Q E s):=⟨WP.run⟩
class Up {α:Type} (Q:α->Shared->Prop) (Qp:outParam (α->Shared->Prop)):Prop where
 up:∀a s,0<s.toks->Q a s->Qp a s
instance (priority:=low) {α:Type} {Q:α->Shared->Prop}:Up Q Q:=⟨fun _ _ _ h=>h⟩
instance {α β:Type} {M:Model} {A:Around} {t:α->Sem β} {Q:α->β->Shared->Prop} {E:Value->Shared->Prop}:Up (fun v s=>wpAny M A (t v) (Q v) E s) (fun v s=>WP M A (t v) (Q v) E s):=⟨fun _ _ z h=>⟨z,h⟩⟩
instance {X:Cx} {c4:List (Addr×Obj)} {σ:St} {Q:VK}:Up (EP X c4 σ Q) (EPs X c4 σ Q):=⟨fun _ _ z ⟨v,H,I,r,q⟩=>⟨v,H,⟨I,z⟩,r,q⟩⟩
instance {X:Cx} {c4:List (Addr×Obj)} {σ:St} {Q:Bool->Hp->Prop}:Up (TP X c4 σ Q) (TPs X c4 σ Q):=⟨fun _ _ z ⟨H,I,q⟩=>⟨H,⟨I,z⟩,q⟩⟩
instance {X:Cx} {c4:List (Addr×Obj)} {σ:St} {Q:List V->Hp->Prop}:Up (AP X c4 σ Q) (APs X c4 σ Q):=⟨fun _ _ z ⟨v,H,I,r,q⟩=>⟨v,H,⟨I,z⟩,r,q⟩⟩
instance {X:Cx} {c4:List (Addr×Obj)} {D:Ends}:Up (SP X c4 D) (RF X c4 D):=⟨fun f _ z h=>by
 cases f with
 |next=>obtain⟨σ,H,I,q⟩:=h;exact⟨σ,H,⟨I,z⟩,q⟩
 |brk=>obtain⟨σ,H,I,q⟩:=h;exact⟨σ,H,⟨I,z⟩,q⟩
 |cont=>obtain⟨σ,H,I,q⟩:=h;exact⟨σ,H,⟨I,z⟩,q⟩
 |ret u=>obtain⟨v,σ,H,I,r,q⟩:=h;exact⟨v,σ,H,⟨I,z⟩,r,q⟩⟩
instance {α:Type} {X:Cx} {c4:List (Addr×Obj)} {Q:St->Hp->Prop}:Up (fun(_:α) s'=>∃σ' H',Inw X c4 σ' H' s'/\Q σ' H') (fun _ s'=>∃σ' H',Inv X c4 σ' H' s'/\Q σ' H'):=⟨fun _ _ z ⟨σ,H,I,q⟩=>⟨σ,H,⟨I,z⟩,q⟩⟩
instance {α:Type} {X:Cx} {c4:List (Addr×Obj)} {σ:St} {Q:Hp->Prop}:Up (fun(_:α) s'=>∃H',Inw X c4 σ H' s'/\Q H') (fun _ s'=>∃H',Inv X c4 σ H' s'/\Q H'):=⟨fun _ _ z ⟨H,I,q⟩=>⟨H,⟨I,z⟩,q⟩⟩
theorem G7{α:Type}{t:Sem α}{Q Qp Q':α->Shared->Prop}[u:Up Q Qp]{M:Model}{A:Around}{E:Value->Shared->Prop}{s:Shared}(h:wpAny M A t Q E s)(hQ:∀a s,Qp a s->Q' a s)(z:0<s.toks:=by first|assumption|exact Inv.pos (by assumption)|exact WP.pos (by assumption)):wpAny M A t Q' E s:=
 K7 z (I9 h (fun a s' q z'=>hQ a s' (u.up a s' z' q)) fun _ _ x _=>x)
theorem Wh{α:Type}{t:Sem α}{Q Q':α->Shared->Prop}{M:Model}{A:Around}{E:Value->Shared->Prop}{s:Shared}(h:wpAny M A t Q E s)(hQ:∀a s,Q a s->Q' a s):wpAny M A t Q' E s:=I9 h hQ fun _ _ x=>x
theorem IB{α:Type}{t:Sem α}{Q Q':α->Shared->Prop}{M:Model}{A:Around}{E:Value->Shared->Prop}{s:Shared}(z:0<s.toks)(h:wpAny M A t Q E s)(hQ:∀a s,0<s.toks->Q a s->Q' a s):wpAny M A t Q' E s:=
 K7 z (I9 h (fun a s' q z'=>hQ a s' z' q) fun _ _ x _=>x)
section
variable {X:Cx}
theorem bin{a b:Expr}{ta tb:TE}(ha:PE X a ta)(hb:PE X b tb){c4:List (Addr×Obj)}{s:Shared}{σ:St}{H:Hp}{R:V->V->Hp->Prop}(I:Inv X c4 σ H s)(h:ta σ H fun x H1=>tb σ H1 fun y H2=>R x y H2)
  {α:Type}{Q:α->Shared->Prop}{f:Value->Value->Sem α}
  (hf:∀v u s2 x y H2,Inv X c4 σ H2 s2->RelV x v->RelV y u->R x y H2->wpAny (model X.prog X.w) X.A (f v u) Q X.xe s2):
  wpAny (model X.prog X.w) X.A (eval a X.env) (fun v s₁=>wpAny (model X.prog X.w) X.A (eval b X.env) (fun u s₂=>wpAny (model X.prog X.w) X.A (f v u) Q X.xe s₂) X.xe s₁) X.xe s:=by
 refine G7 (ha c4 s σ H _ I h) fun v s1 ⟨x,H1,I1,r1,q1⟩=> ?_
 refine G7 (hb c4 s1 σ H1 _ I1 q1) fun u s2 ⟨y,H2,I2,r2,q2⟩=> ?_
 exact hf v u s2 x y H2 I2 r1 r2 q2
def CI(i:Nat):TE:=fun σ H Q=>∃v,σ[i]? =some (some v)/\Q v H
def tC(v:V):TE:=fun _ H Q=>Q v H
theorem Tn{i:Nat}{x:Str}{pos:Pos}(hN:X.N[i]? =some x)(hv:Vis X.env.scope x)(hd:(x==("__debug__":Str))=false:=by decide)(DL:(x==("__classdict__":Str))=false:=by decide):PE X (.Name x pos) (CI i):=by
 intro c4 s σ H Q I h
 obtain⟨v,e,h⟩:=h
 obtain⟨m,hn,hl⟩:=I.loc
 obtain⟨u,r,l⟩:=hl i x v hN e hv
 have fin:EP X c4 σ Q u s:=⟨v,H,I,r,h⟩
 rcases l with ⟨hk,hm⟩|⟨hk,c,hc,hcell⟩
 ·exact PQ (Vh I.ok.kind hk hn hm fin) hd
 ·rcases hk with hk|hk
  ·exact PQ (wpAny_loadName_cell I.ok.kind hk hc hcell fin) hd
  ·exact PQ (wpAny_loadName_free I.ok.kind hk hc hcell fin DL) hd
theorem j5{i j pos}:PE X (.Constant (.int i) j pos) (tC (.int i)):=fun _ _ _ H _ I h=>wpAny_Constant_int ⟨.int i,H,I.tok _,⟨_,rfl⟩,h⟩
theorem S7{b j pos}:PE X (.Constant (.bool b) j pos) (tC (.bl b)):=fun _ _ _ H _ I h=>Constant_bool ⟨.bl b,H,I,rfl,h⟩
theorem IU{j pos}:PE X (.Constant .none j pos) (tC .non):=fun _ _ _ H _ I h=>Constant_none ⟨.non,H,I,rfl,h⟩
theorem K0{x j pos}:PE X (.Constant (.str x) j pos) (tC (.str x)):=fun _ _ _ H _ I h=>Calls.Constant_str ⟨.str x,H,I.tok _,⟨_,rfl⟩,h⟩
def Gl(X:Cx)(x:Str):Prop:=X.env.kindOf x=some .globalImplicit
theorem AE{E:Value->Shared->Prop}{c4:List (Addr×Obj)}{s:Shared}{σ:St}{H:Hp}{x:Str}{u:Value}{pos:Pos}{Q:Value->Shared->Prop}(I:Inv X c4 σ H s)(hg:Gl X x)(hm:X.mg x=some u)(h:Q u s)
  (hd:(x==("__debug__":Str))=false:=by decide):wpAny (model X.prog X.w) X.A (eval (.Name x pos) X.env) Q E s:=
 Vc I.ok.kind hg (Zy (by rw[I.ok.glob];exact I.mod.glob.keeps I.bk) hm h) hd
theorem Bm{E:Value->Shared->Prop}{c4:List (Addr×Obj)}{s:Shared}{σ:St}{H:Hp}{x:Str}{u:Value}{pos:Pos}{Q:Value->Shared->Prop}(I:Inv X c4 σ H s)(hg:Gl X x)(hm:X.mg x=none)(hv:bootBuiltins x=some u)(h:Q u s)
  (hn:x≠"__name__":=by decide)(hd:(x==("__debug__":Str))=false:=by decide):wpAny (model X.prog X.w) X.A (eval (.Name x pos) X.env) Q E s:=by
 obtain⟨mb,h1,h2⟩:=I.mod.blt
 exact Vc I.ok.kind hg (Calls.loadGlobal_builtin (by rw[I.ok.glob];exact I.mod.glob.keeps I.bk) hm (by rw[I.ok.blt];exact h1.keeps I.bk) ((h2 x hn).trans hv) h) hd
theorem EV{x:Str}{v:V}{u:Value}{pos:Pos}(hg:Gl X x)(hm:X.mg x=none)(hv:bootBuiltins x=some u)(r:RelV v u)(hn:x≠"__name__":=by decide)(hd:(x==("__debug__":Str))=false:=by decide):PE X (.Name x pos) (tC v):=
 fun _ _ _ H _ I h=>Bm I hg hm hv ⟨v,H,I,r,h⟩ hn hd
variable {a b:Expr} {ta tb:TE} {pos:Pos}
def PC(X:Cx)(op:CmpOp)(a b:Expr)(t:TE):Prop:=
 ∀(c4:List (Addr×Obj)) (s:Shared) (σ:St) (H:Hp) (Q:VK),Inv X c4 σ H s->t σ H Q->
  wpAny (model X.prog X.w) X.A (eval a X.env) (fun v s₁=>wpAny (model X.prog X.w) X.A (eval b X.env) (fun u s₂=>wpAny (model X.prog X.w) X.A (compareOp op v u) (EP X c4 σ Q) X.xe s₂) X.xe s₁) X.xe s
theorem Tz(b:Expr){op:CmpOp}(h:op≠ .In)(h2:op≠ .NotIn):behindInMarks op b=false:=by
 have e1:(op==CmpOp.In)=false:=by cases op<;>first|rfl|exact absurd rfl h
 have e2:(op==CmpOp.NotIn)=false:=by cases op<;>first|rfl|exact absurd rfl h2
 cases b<;>simp [behindInMarks,e1,e2]
def tB(t:TE):TT:=fun σ H Q=>t σ H fun x H1=>∃c,x= .bl c/\Q c H1
theorem IP{op:CmpOp}{t:TE}(h:PC X op a b t)(h1:behindInMarks op b=false:=by first|exact Tz _ (by decide) (by decide)|rfl):PT X (.Compare a [op] [b] pos) (tB t):=by
 intro c4 s σ H Q I hw
 refine wpAny_isTrue_Compare1 (G7 (h c4 s σ H _ I hw) fun v s1 g1=> ?_) h1
 refine G7 g1.run fun u s2 h2=> ?_
 refine G7 h2.run fun c s3 ⟨x,H1,I1,r1,q1⟩=> ?_
 obtain⟨d,rfl,q⟩:=q1
 cases r1
 exact EH ⟨H1,I1,q⟩
theorem N0{e:Expr}{t:TE}(h:PE X e t)(he:∀Ba,isTrue e X.env Ba=(do let v<-Ba;standAt e.pos;holding [v] (truthy v)):=by intro _;rfl):PT X e (tB t):=by
 intro c4 s σ H Q I hw
 refine isTrue_plain (G7 (h c4 s σ H _ I hw) fun v s1 ⟨x,H1,I1,r1,q1⟩=> ?_) (he _)
 obtain⟨d,rfl,q⟩:=q1
 cases r1
 exact EH ⟨H1,I1,q⟩
variable {tA tB':TT} {C3:List Expr}
def ZP(t u:TT):TT:=fun σ H Q=>t σ H fun c H1=>if c=true then u σ H1 Q else Q false H1
def tOr(t u:TT):TT:=fun σ H Q=>t σ H fun c H1=>if c=true then Q true H1 else u σ H1 Q
def ZN(t:TT):TT:=fun σ H Q=>t σ H fun c H1=>Q (!c) H1
theorem OQ(ha:PT X a tA):PW X (.BoolOp .And [a] pos) tA:=by
 intro wh c4 s σ H Q I h
 refine isTrue_and (Wh (ha c4 s σ H Q I h) fun c s1 e=> ?_)
 cases c with
 |true=>exact isTrue_and_nil e
 |false=>exact e
theorem DE(ha:PT X a tA):PW X (.BoolOp .Or [a] pos) tA:=by
 intro wh c4 s σ H Q I h
 refine isTrue_or (Wh (ha c4 s σ H Q I h) fun c s1 e=> ?_)
 cases c with
 |false=>exact isTrue_or_nil e
 |true=>exact e
theorem IN(ha:PT X a tA)(hb:PW X (.BoolOp .And (b::C3) pos) tB'):PW X (.BoolOp .And (a::b::C3) pos) (ZP tA tB'):=by
 intro wh c4 s σ H Q I h
 refine isTrue_and (G7 (ha c4 s σ H _ I h) fun c s1 ⟨H1,I1,q1⟩=> ?_)
 cases c with
 |true=>exact hb wh c4 s1 σ H1 Q I1 q1
 |false=>exact⟨H1,I1,q1⟩
theorem BY(ha:PT X a tA)(hb:PW X (.BoolOp .Or (b::C3) pos) tB'):PW X (.BoolOp .Or (a::b::C3) pos) (tOr tA tB'):=by
 intro wh c4 s σ H Q I h
 refine isTrue_or (G7 (ha c4 s σ H _ I h) fun c s1 ⟨H1,I1,q1⟩=> ?_)
 cases c with
 |true=>exact⟨H1,I1,q1⟩
 |false=>exact hb wh c4 s1 σ H1 Q I1 q1
theorem W8(ha:PT X a tA):PT X (.UnaryOp .Not a pos) (ZN tA):=by
 intro c4 s σ H Q I h
 exact isTrue_not (ha c4 s σ H (fun c H1=>Q (!c) H1) I h)
def Sn(ta tb:TE):TE:=fun σ H Q=>ta σ H fun x H1=>∃c,x= .bl c/\if c=true then tb σ H1 Q else Q (.bl false) H1
def ZM(ta tb:TE):TE:=fun σ H Q=>ta σ H fun x H1=>∃c,x= .bl c/\if c=true then Q (.bl true) H1 else tb σ H1 Q
def Sg(ta:TE):TE:=fun σ H Q=>ta σ H fun x H1=>∃c,x= .bl c/\Q (.bl (!c)) H1
theorem IT{op}{t:TE}(h:PE X a t):PE X (.BoolOp op [a] pos) t:=fun c4 s σ H Q I hw=>BoolOp_one (h c4 s σ H Q I hw)
theorem MV(ha:PE X a ta)(hb:PE X (.BoolOp .And (b::C3) pos) tb):PE X (.BoolOp .And (a::b::C3) pos) (Sn ta tb):=by
 intro c4 s σ H Q I h
 refine BoolOp_and (G7 (ha c4 s σ H _ I h) fun v s1 ⟨x,H1,I1,r1,q1⟩=> ?_)
 obtain⟨c,rfl,q1⟩:=q1
 cases r1
 refine EH ?_
 cases c with
 |true=>exact hb c4 s1 σ H1 Q I1 q1
 |false=>exact⟨.bl false,H1,I1,rfl,q1⟩
theorem YD(ha:PE X a ta)(hb:PE X (.BoolOp .Or (b::C3) pos) tb):PE X (.BoolOp .Or (a::b::C3) pos) (ZM ta tb):=by
 intro c4 s σ H Q I h
 refine BoolOp_or (G7 (ha c4 s σ H _ I h) fun v s1 ⟨x,H1,I1,r1,q1⟩=> ?_)
 obtain⟨c,rfl,q1⟩:=q1
 cases r1
 refine EH ?_
 cases c with
 |false=>exact hb c4 s1 σ H1 Q I1 q1
 |true=>exact⟨.bl true,H1,I1,rfl,q1⟩
theorem QaC(ha:PE X a ta):PE X (.UnaryOp .Not a pos) (Sg ta):=by
 intro c4 s σ H Q I h
 refine UnaryOp_ (G7 (ha c4 s σ H _ I h) fun v s1 ⟨x,H1,I1,r1,q1⟩=> ?_)
 obtain⟨c,rfl,q1⟩:=q1
 cases r1
 exact not_of (EH ⟨.bl (!c),H1,I1,rfl,q1⟩)
def tIf(t:TT)(ta tb:TE):TE:=fun σ H Q=>t σ H fun c H1=>if c=true then ta σ H1 Q else tb σ H1 Q
end
def l7(K:j6)(H:Hp)(a:Addr)(xs:List V):Prop:=
 Rd H a (.lst xs)\/
  ∃(o:Obj) (n5:Array Value) (n:Nat),K.lookup a=some o/\o.cls= .type "list"/\o.dict=none/\o.data= .seq n5 n/\n5.size<=sizeLine/\u3 xs n5.toList
def W3(K:j6)(H:Hp)(a:Addr)(xs:List V):Prop:=
 Rd H a (.tup xs)\/
  ∃(o:Obj) (n5:Array Value) (n:Nat),K.lookup a=some o/\o.cls= .type "tuple"/\o.data= .seq n5 n/\n5.size<=sizeLine/\u3 xs n5.toList
def QcR:Value->Option V
 | .none=>some .non
 | .bool b=>some (.bl b)
 | .int i _=>some (.int i)
 | .str x _=>some (.str x)
 | .bytes b _=>some (.byt b)
 | .float b _=>some (.flt b)
 | .ref a=>some (.ref a)
 | .type n=>some (.ty n)
 |_=>none
theorem RelV.abs{x:V}{u:Value}(r:RelV x u):QcR u=some x:=by
 cases x with
 |non=>cases r;rfl
 |bl _=>cases r;rfl
 |int _=>obtain⟨t,rfl⟩:=r;rfl
 |str _=>obtain⟨t,rfl⟩:=r;rfl
 |byt _=>obtain⟨t,rfl⟩:=r;rfl
 |flt _=>obtain⟨t,rfl⟩:=r;rfl
 |ref _=>cases r;rfl
 |ty _=>cases r;rfl
theorem RelV.inj{x y:V}{u:Value}(r:RelV x u)(q:RelV y u):x=y:=R7 (r.abs.symm.trans q.abs)
theorem u3.inj:∀{xs ys:List V} {us:List Value},u3 xs us->u3 ys us->xs=ys
 |_,_,_, .nil, .nil=>rfl
 |_,_,_, .cons r t, .cons r' t'=>by rw[r.inj r',u3.inj t t']
section
variable {X:Cx} {c4:List (Addr×Obj)} {σ:St} {H:Hp} {s:Shared} {a:Addr} {xs ys:List V}
theorem l7.of{K:j6}(h:H a=some (.lst xs)):l7 K H a xs:= .inl (.inl h)
theorem W3.of{K:j6}(h:H a=some (.tup xs)):W3 K H a xs:= .inl (.inl h)
theorem Inw.list(I:Inw X c4 σ H s)(h:l7 X.K H a xs):∃n5:List Value,u3 xs n5/\PlainL s.heap a n5.toArray/\xs.length<=sizeLine:=by
 rcases h with h|⟨o,n5,n,hk,hc,hd,hs,hz,r⟩
 ·obtain⟨z,n5,n,r,e⟩:=h.ok I.hok
  exact⟨n5,r,⟨_,n,e,rfl,rfl,rfl⟩,z⟩
 ·refine⟨n5.toList,r,⟨o,n,I.kIn a o hk,hc,hd,by simpa using hs⟩,?_⟩
  have e:=r.length
  simp only[X9] at e
  omega
theorem Inw.tuple(I:Inw X c4 σ H s)(h:W3 X.K H a xs):∃n5:List Value,u3 xs n5/\IsTup s.heap a n5.toArray/\xs.length<=sizeLine:=by
 rcases h with h|⟨o,n5,n,hk,hc,hs,hz,r⟩
 ·obtain⟨z,n5,r,p⟩:=h.ok I.hok
  exact⟨n5,r,p,z⟩
 ·refine⟨n5.toList,r,⟨o,I.kIn a o hk,hc,n,by simpa using hs⟩,?_⟩
  have e:=r.length
  simp only[X9] at e
  omega
theorem Inw.list_inj(I:Inw X c4 σ H s)(h:l7 X.K H a xs)(h':l7 X.K H a ys):xs=ys:=by
 obtain⟨n5,r,⟨o,n,e,_,_,d⟩,_⟩:=I.list h
 obtain⟨its',r',⟨o',n',e',_,_,d'⟩,_⟩:=I.list h'
 rw[e] at e';cases e'
 rw[d] at d'
 injection d' with d1 _
 have:n5=its':=by simpa using congrArg Array.toList d1
 subst this
 exact r.inj r'
end
abbrev Cx.wish(X:Cx)(E:Value->Shared->Prop):Cx:={X with xe:=E}
abbrev Cx.nox(X:Cx):Cx:=X.wish fun _ _=>False
theorem Cx.Ok.wish{X:Cx}(ok:X.Ok)(E:Value->Shared->Prop):(X.wish E).Ok:=
 ⟨ok.mod,ok.kind,ok.glob,ok.blt,ok.above,ok.inj,ok.has,ok.cab,ok.hd,ok.frames,ok.stk,ok.exf,ok.bs,ok.bsz,ok.noex,ok.exfs,ok.funs,ok.frf⟩
theorem Cx.Ok.unwish{X:Cx}{E:Value->Shared->Prop}(ok:(X.wish E).Ok):X.Ok:=
 ⟨ok.mod,ok.kind,ok.glob,ok.blt,ok.above,ok.inj,ok.has,ok.cab,ok.hd,ok.frames,ok.stk,ok.exf,ok.bs,ok.bsz,ok.noex,ok.exfs,ok.funs,ok.frf⟩
section
variable {X:Cx} {c4:List (Addr×Obj)} {σ:St} {H:Hp} {s:Shared} {E:Value->Shared->Prop}
theorem Inw.wish(I:Inw X c4 σ H s)(E:Value->Shared->Prop):Inw (X.wish E) c4 σ H s:=⟨I.ok.wish E,I.os,I.bare,I.base,I.loc,I.cell,I.free,I.freeC,I.pin,I.hok,I.len⟩
theorem Inw.unwish(I:Inw (X.wish E) c4 σ H s):Inw X c4 σ H s:=⟨I.ok.unwish,I.os,I.bare,I.base,I.loc,I.cell,I.free,I.freeC,I.pin,I.hok,I.len⟩
theorem SP.unwish{D:Ends}{f:Flow}{s':Shared}(h:SP (X.wish E) c4 D f s'):SP X c4 D f s':=by
 cases f with
 |next=>obtain⟨σ',H',I,q⟩:=h;exact⟨σ',H',I.unwish,q⟩
 |brk=>obtain⟨σ',H',I,q⟩:=h;exact⟨σ',H',I.unwish,q⟩
 |cont=>obtain⟨σ',H',I,q⟩:=h;exact⟨σ',H',I.unwish,q⟩
 |ret u=>obtain⟨v,σ',H',I,r,q⟩:=h;exact⟨v,σ',H',I.unwish,r,q⟩
theorem Hm.nox{st:List Stmt}{t:TS}(h:Hm X.nox st t):Hm X st t:=fun c4 s σ H D I hw=>
 I9 (h c4 s σ H D ⟨I.wish _,I.pos⟩ hw) (fun _ _ q=>q.unwish) fun _ _ z=>False.elim z
end
section
variable {X:Cx} {st:Stmt} {C3:List Stmt} {t u:TS} {e:Expr} {te:TE} {pos:Pos}
def Oy:TS:=fun D σ H=>D.nx σ H
def Qc(t u:TS):TS:=fun D σ H=>t {D with nx:=u D} σ H
theorem A3:Hm X [] Oy:=fun _ _ σ H _ I h=>Mh ⟨σ,H,I,h⟩
theorem e7(h1:PS X st t)(h2:Hm X C3 u):Hm X (st::C3) (Qc t u):=by
 intro c4 s σ H D I h
 refine Mg (G7 (h1 c4 s σ H {D with nx:=u D} I h) fun f s1 q=> ?_)
 cases f with
 |next=>
  obtain⟨σ',H',I',q⟩:=q
  exact h2 c4 s1 σ' H' D I' q
 |ret v=>exact RF.w q
 |brk=>exact RF.w q
 |cont=>exact RF.w q
theorem h8(h1:PS X st t):Hm X [st] t:=by
 intro c4 s σ H D I h
 refine Mg (Wh (h1 c4 s σ H D I h) fun f s1 q=> ?_)
 cases f with
 |next=>exact Mh q
 |ret v=>exact q
 |brk=>exact q
 |cont=>exact q
theorem Inw.quiet{c4:List (Addr×Obj)}{σ:St}{H:Hp}{s:Shared}(I:Inw X c4 σ H s):interactive X.env=false:=by simp [interactive,I.ok.kind]
def Si(te:TE):TS:=fun D σ H=>te σ H fun _ H1=>D.nx σ H1
theorem D4(he:PE X e te)(hs:swapsWith e none pos.line X.env=pure false:=by rfl):PS X (.Expr e pos) (Si te):=by
 intro c4 s σ H D I h
 exact wpAny_Expr_any (G7 (he c4 s σ H _ I h) fun v s1 ⟨x,H1,I1,r1,q1⟩=>⟨σ,H1,I1,q1⟩) I.quiet hs
def ZL(te:TE):TS:=fun D σ H=>te σ H D.rt
theorem q9(he:PE X e te):PS X (.Return (some e) pos) (ZL te):=by
 intro c4 s σ H D I h
 exact wpAny_Return_some (G7 (he c4 s σ H _ I h) fun v s1 ⟨x,H1,I1,r1,q1⟩=>⟨x,σ,H1,I1,r1,q1⟩)
def Wj(c:TT)(t u:TS):TS:=fun D σ H=>c σ H fun b H1=>if b=true then t D σ H1 else u D σ H1
theorem G9{c:Expr}{a b:List Stmt}{tc:TT}(hc:PT X c tc)(ha:Hm X a t)(hb:Hm X b u):PS X (.If c a b pos) (Wj tc t u):=by
 intro c4 s σ H D I h
 refine wpAny_If (G7 (hc c4 s σ H _ I h) fun d s1 ⟨H1,I1,q1⟩=> ?_)
 cases d with
 |true=>exact ha c4 s1 σ H1 D I1 q1
 |false=>exact hb c4 s1 σ H1 D I1 q1
end
abbrev TG:=V->St->Hp->(St->Hp->Prop)->Prop
abbrev XT:=List V->St->Hp->(St->Hp->Prop)->Prop
def PG(X:Cx)(target:Expr)(t:TG):Prop:=
 ∀(c4:List (Addr×Obj)) (s:Shared) (σ:St) (H:Hp) (v:V) (u:Value) (Q:St->Hp->Prop),Inv X c4 σ H s->RelV v u->t v σ H Q->
  wpAny (model X.prog X.w) X.A (assign target X.env u) (fun _ s'=>∃σ' H',Inw X c4 σ' H' s'/\Q σ' H') X.xe s
def PGs(X:Cx)(ts:List Expr)(t:XT):Prop:=
 ∀(c4:List (Addr×Obj)) (s:Shared) (σ:St) (H:Hp) (vs:List V) (us:List Value) (Q:St->Hp->Prop),Inv X c4 σ H s->u3 vs us->t vs σ H Q->
  wpAny (model X.prog X.w) X.A (assignInOrder ((assignEach ts X.env).map (·.2)) us) (fun _ s'=>∃σ' H',Inw X c4 σ' H' s'/\Q σ' H') X.xe s
abbrev QcT:=V->V->V->Hp->(Hp->Prop)->Prop
abbrev TIp:=V->V->Hp->VK->Prop
def PIp(X:Cx)(op:Operator)(t:TIp):Prop:=
 ∀(c4:List (Addr×Obj)) (s:Shared) (σ:St) (H:Hp) (x y:V) (v u:Value) (Q:VK),Inv X c4 σ H s->RelV x v->RelV y u->t x y H Q->
  wpAny (model X.prog X.w) X.A (inplaceOp op v u) (EP X c4 σ Q) X.xe s
section
variable {X:Cx} {pos:Pos}
def O3(i:Nat):TG:=fun v σ H Q=>Q (σ.set i (some v)) H
theorem i5{i:Nat}{x:Str}(hN:X.N.Nodup)(hi:X.N[i]? =some x)(hx:Loc X.env.scope x)(hf:X.fn x=true\/X.env.scope.names.lookup x=some .local:=by first|exact .inl rfl|exact .inr rfl|assumption):PG X (.Name x pos) (O3 i):=by
 intro c4 s σ H v u Q I r h
 exact wpAny_assign_Name (U6 I hN hi hx r (fun s' I'=>⟨_,H,I',h⟩) hf)
def Jm:XT:=fun vs σ H Q=>vs=[]/\Q σ H
def Ar(t:TG)(u:XT):XT:=fun vs σ H Q=>∃v r,vs=v::r/\t v σ H fun σ' H'=>u r σ' H' Q
theorem C4:PGs X [] Jm:=by
 intro c4 s σ H vs us Q I r h
 obtain⟨e,h⟩:=h
 subst e
 cases r
 exact assignInOrder_nil ⟨σ,H,I,h⟩
theorem j9{e:Expr}{es:List Expr}{t:TG}{u:XT}(h1:PG X e t)(h2:PGs X es u)
  (hs:(assignEach (e::es) X.env).map (·.2)=assign e X.env::(assignEach es X.env).map (·.2):=by rfl):PGs X (e::es) (Ar t u):=by
 intro c4 s σ H vs us Q I r h
 obtain⟨v,vr,e1,h⟩:=h
 subst e1
 cases r with
 |cons r rr=>
  rw[hs]
  refine assignInOrder_cons (G7 (h1 c4 s σ H _ _ _ I r h) fun _ s1 ⟨σ1,H1,I1,q1⟩=> ?_)
  exact h2 c4 s1 σ1 H1 _ _ Q I1 rr q1
def LJ(K:j6)(n:Nat)(t:XT):TG:=fun v σ H Q=>∃a xs,v= .ref a/\W3 K H a xs/\xs.length=n/\t xs σ H Q
theorem QaB{es:List Expr}{k:Nat}{t:XT}{n:Nat}(hc:X.calm=true)(h:PGs X es t)
  (hn:(assignEach es X.env).length=n:=by rfl)(Mr:(assignEach es X.env).findIdx? (·.1)=none:=by rfl):PG X (.Tuple es k pos) (LJ X.K n t):=by
 intro c4 s σ H v u Q I r hw
 obtain⟨a,xs,e1,hq,hl,hw⟩:=hw
 subst e1
 cases r
 obtain⟨n5,rv,ht,hz⟩:=I.tuple hq
 refine assign_Tuple_tuple (I.ok.hd hc) ht (by simp [hn,<-hl,rv.length]) Mr fun h' hx=> ?_
 have I1:Inw X c4 σ H {s with heap:=h'}:=I.kept (t':=s.toks) fun b o e=>hx b o (u9 (A1 e)) e
 exact h c4 _ σ H xs _ Q ⟨I1,I.pos⟩ (by simpa using rv) hw
def Qcu(to ti:TE)(t:QcT):TG:=fun v σ H Q=>to σ H fun o H1=>ti σ H1 fun i H2=>t o i v H2 fun H3=>Q σ H3
def MH(te:TE)(g:TG):TS:=fun D σ H=>te σ H fun x H1=>g x σ H1 D.nx
theorem k8{i:Nat}{x:Str}{e:Expr}{te:TE}{pos':Pos}(hN:X.N.Nodup)(hi:X.N[i]? =some x)(hx:Loc X.env.scope x)(he:PE X e te)(hs:swapsWith e (some (.Name x pos')) pos.line X.env=pure false:=by rfl)(hf:X.fn x=true\/X.env.scope.names.lookup x=some .local:=by first|exact .inl rfl|exact .inr rfl|assumption):
  PS X (.Assign [.Name x pos'] e pos) (MH te (O3 i)):=by
 intro c4 s σ H D I h
 refine PP (G7 (he c4 s σ H _ I h) fun v s1 ⟨y,H1,I1,r1,q1⟩=> ?_) hs
 exact U6 I1 hN hi hx r1 (fun s2 I2=>⟨_,H1,I2,q1⟩) hf
def Wl(i:Nat)(te:TE)(ti:TIp):TS:=fun D σ H=>∃x,σ[i]? =some (some x)/\te σ H fun y H1=>ti x y H1 fun z H2=>D.nx (σ.set i (some z)) H2
theorem Qax{i:Nat}{x:Str}{e:Expr}{te:TE}{op:Operator}{ti:TIp}{pos':Pos}(hN:X.N.Nodup)(hi:X.N[i]? =some x)(hx:Loc X.env.scope x)(he:PE X e te)(ho:PIp X op ti)(hf:X.fn x=true\/X.env.scope.names.lookup x=some .local:=by first|exact .inl rfl|exact .inr rfl|assumption):
  PS X (.AugAssign (.Name x pos') op e pos) (Wl i te ti):=by
 intro c4 s σ H D I h
 obtain⟨v,e1,h⟩:=h
 obtain⟨m,hn,hl⟩:=I.loc
 have vis:Vis X.env.scope x:=by rcases hx with k|k;exact .inl k;exact .inr (.inl k)
 obtain⟨u,r,l⟩:=hl i x v hi e1 vis
 refine wpAny_AugAssign_Name ?_
 have go:wpAny (model X.prog X.w) X.A (eval e X.env) (fun w s₂=>wpAny (model X.prog X.w) X.A (inplaceOp op u w) (fun r s₃=>wpAny (model X.prog X.w) X.A (storeName X.env x r) (fun _=>SP X c4 D .next) X.xe s₃) X.xe s₂) X.xe s:=by
  refine G7 (he c4 s σ H _ I h) fun w s1 ⟨y,H1,I1,r1,q1⟩=> ?_
  refine G7 (ho c4 s1 σ H1 v y u w _ I1 r r1 q1) fun z s2 ⟨zv,H2,I2,r2,q2⟩=> ?_
  exact U6 I2 hN hi hx r2 (fun s3 I3=>⟨_,H2,I3,q2⟩) hf
 rcases l with ⟨hk,hm⟩|⟨hk,c,hc,hcell⟩
 ·exact Vh I.ok.kind hk hn hm go
 ·rcases hk with hk|hk
  ·exact wpAny_loadName_cell I.ok.kind hk hc hcell go
  ·rcases hx with k|k
   ·have:X.env.scope.names.lookup x=some .free:=hk
    rw[k] at this;cases this
   ·have:X.env.scope.names.lookup x=some .free:=hk
    rw[k] at this;cases this
def ipI(f:Int->Int->Int):TIp:=fun x y H Q=>∃i j,x= .int i/\y= .int j/\Q (.int (f i j)) H
theorem Qba:PIp X .Add (ipI fun i j=>i+j):=by
 intro c4 s σ H x y v u Q I r1 r2 h
 obtain⟨i,j,e1,e2,q⟩:=h
 subst e1;subst e2
 obtain⟨t,rfl⟩:=r1
 obtain⟨t',rfl⟩:=r2
 exact iadd_int ⟨.int _,H,I.tok _,⟨_,rfl⟩,q⟩
end
section
variable {X:Cx} {pos:Pos}
def MD(c:TT)(tb:TS):TS:=fun D σ H=>∃W:Nat->St->Hp->Prop,(∃m,W m σ H)/\∀m σ H,W m σ H->
 c σ H fun b H1=>if b=true then ∃N:St->Hp->Prop,(∀σ' H',N σ' H'->∃m',m'<m/\W m' σ' H')/\tb {D with nx:=N,ct:=N,bk:=D.nx} σ H1 else D.nx σ H1
theorem Lm{c:Expr}{body:List Stmt}{tc:TT}{tb:TS}(hp:PassesOwn (model X.prog X.w) X.A X.env X.xe)(hc:PT X c tc)(hb:Hm X body tb):PS X (.While c body [] pos) (MD tc tb):=by
 intro c4 s σ H D I h
 obtain⟨W,⟨m0,w0⟩,turn⟩:=h
 refine wpAny_While (codeAny_whileLoop (fun n s'=>∃σ' H',Inv X c4 σ' H' s'/\W n σ' H') ?_ m0 ⟨σ,H,I,w0⟩)
 rintro n s1 ⟨σ1,H1,I1,w1⟩
 refine Gh hp (G7 (hc c4 s1 σ1 H1 _ I1 (turn n σ1 H1 w1)) fun b s2 ⟨H2,I2,q2⟩=> ?_)
 cases b with
 |true=>
  obtain⟨N,hN,q2⟩:=q2
  rw[if_pos rfl]
  refine Gh hp (G7 (hb c4 s2 σ1 H2 _ I2 q2) fun f s3 q3=> ?_)
  cases f with
  |next=>
   obtain⟨σ3,H3,I3,n3⟩:=q3
   obtain⟨m',hm,w3⟩:=hN σ3 H3 n3
   exact⟨m',hm,σ3,H3,I3,w3⟩
  |cont=>
   obtain⟨σ3,H3,I3,n3⟩:=q3
   obtain⟨m',hm,w3⟩:=hN σ3 H3 n3
   exact⟨m',hm,σ3,H3,I3,w3⟩
  |brk=>exact RF.w q3
  |ret v=>exact RF.w q3
 |false=>
  rw[if_neg K3]
  exact Mh ⟨σ1,H2,I2,q2⟩
end
structure It where
 go:Nat->Hp->Prop
 yld:Nat->Hp->V->Hp->Prop
 stop:Nat->Hp->Prop
def Er(X:Cx)(c4:List (Addr×Obj))(H:Hp)(b:Addr):Prop:=
 H b=none/\b≠X.env.locals/\b∉X.fs/\(b∈X.ex\/X.s₀.heap.objs.size<=b)/\(∀x c,X.env.cells.lookup x=some c->c≠b)/\∀p∈X.pn++c4,p.1≠b
theorem Inw.fpOk{X:Cx}{c4:List (Addr×Obj)}{σ:St}{H H':Hp}{s:Shared}{b:Addr}(I:Inw X c4 σ H s)(hb:s.heap.objs.size<=b)(hn:H' b=none):Er X c4 H' b:=by
 refine⟨hn,Av (E9 I.lt hb),I.nofs hb, .inr (E7 I.sz hb),fun x c e z=> ?_,fun p hp z=> ?_⟩
 ·obtain⟨v,q⟩:=I.cell x c e
  exact absurd (E9 q.lt (by rw[z];exact hb)) (Cd _)
 ·exact absurd (E9 (A1 (I.pin p hp).1) (by rw[z];exact hb)) (Cd _)
structure Turn(P:Program)(w:World)(K:j6)(tg:Expr)(J:It)(fp:List Addr)(it:Addr)(tn:Nat->Heap->Prop):Prop where
 mem:it∈fp
 obj:∀i h,tn i h->∀b∈fp,∃o,h.get? b=some o/\∀v,o.data≠ .cell v
 keep:∀i h h',tn i h->(∀b∈fp,∀o,h.get? b=some o->h'.get? b=some o)->tn i h'
 item:∀(X:Cx),X.prog=P->X.w=w->X.K=K->X.calm=true->∀(i:Nat) (c4:List (Addr×Obj)) (s:Shared) (σ:St) (H:Hp) (E:Value->Shared->Prop),Inv X c4 σ H s->(∀b∈fp,Er X c4 H b)->tn i s.heap->J.go i H->
  wpAny (model P w) X.A (pyNext (.ref it)) (fun r s1=>∃u,r=some u/\
   wpAny (model P w) X.A (letOwnedTupleGo tg (.ref it) u) (fun _ s2=>∃x H',Inw X c4 σ H' s2/\RelV x u/\J.yld i H x H'/\tn (i+1) s2.heap/\∀b∈fp,H' b=none) E s1) E s
 done:∀(X:Cx),X.prog=P->X.w=w->X.K=K->X.calm=true->∀(i:Nat) (c4:List (Addr×Obj)) (s:Shared) (σ:St) (H:Hp) (E:Value->Shared->Prop),Inv X c4 σ H s->(∀b∈fp,Er X c4 H b)->tn i s.heap->J.stop i H->
  wpAny (model P w) X.A (pyNext (.ref it)) (fun r s1=>r=none/\Inw X c4 σ H s1) E s
 self:∀(A:Around) (i:Nat) (s:Shared) (Q:Value->Shared->Prop) (E:Value->Shared->Prop),tn i s.heap->Q (.ref it) s->wpAny (model P w) A (pyIter (.ref it)) Q E s
abbrev TI:=St->Hp->(It->Hp->Prop)->Prop
def PIE(X:Cx)(c4:List (Addr×Obj))(σ:St)(tg:Expr)(R:It->Hp->Prop)(itv:Value)(s2:Shared):Prop:=
 ∃(it:Addr) (fp:List Addr) (tn:Nat->Heap->Prop) (J:It) (H':Hp),itv= .ref it/\Inw X c4 σ H' s2/\Turn X.prog X.w X.K tg J fp it tn/\tn 0 s2.heap/\(∀b∈fp,Er X c4 H' b)/\R J H'
def PI(X:Cx)(tg iter:Expr)(wi:TI):Prop:=
 ∀(c4:List (Addr×Obj)) (s:Shared) (σ:St) (H:Hp) (R:It->Hp->Prop),Inv X c4 σ H s->wi σ H R->
  wpAny (model X.prog X.w) X.A (eval iter X.env) (fun v s1=>wpAny (model X.prog X.w) X.A (pyIter v) (PIE X c4 σ tg R) X.xe s1) X.xe s
theorem FP{M:Model}{A:Around}{E:Value->Shared->Prop}{s:Shared}{tg:Expr}{it:Addr}{u:Value}{o:Obj}{n:String}{vs:Array Value}{Q:Unit->Shared->Prop}(ho:s.heap.get? it=some o)(hc:o.cls= .type n)(hd:o.data= .fields vs)
  (hn:["enumerate","zip","dict_itemiterator","dict_reverseitemiterator","odict_iterator","itertools.zip_longest","itertools.pairwise"].contains n=false)(hQ:Q () s):wpAny M A (letOwnedTupleGo tg (.ref it) u) Q E s:=by
 unfold letOwnedTupleGo
 cases tg<;>first
  |exact l0 hQ
  |(cases u<;>first
    |exact l0 hQ
    |(refine e8 (wpAny_load ho ?_)
      rw[hc,hd]
      show wpAny M A (if (["enumerate","zip","dict_itemiterator","dict_reverseitemiterator","odict_iterator","itertools.zip_longest","itertools.pairwise"].contains n&&vs[0]? ==some (rawInt _))=true then _ else _) Q E s
      rw[if_neg (by intro h;rw[hn,Bool.false_and] at h;cases h)]
      exact l0 hQ))
def Rv(K:j6)(a:Addr):It:=
 ⟨fun i H=>∃xs x,l7 K H a xs/\xs[i]? =some x,fun i H x H'=>H'=H/\∀xs,l7 K H a xs->xs[i]? =some x,fun i H=>∃xs,l7 K H a xs/\xs.length<=i⟩
def ZC(lo:Int)(n:Nat):It:=⟨fun i _=>i<n,fun i H x H'=>H'=H/\x= .int (lo+i),fun i _=>n<=i⟩
theorem PZ{P:Program}{w:World}{K:j6}{tg:Expr}(a it:Addr):Turn P w K tg (Rv K a) [it] it (fun i h=>h.IsListIter it a i) where
 mem:=by simp
 obj:=fun i h st b hb=>by
  have e:b=it:=by simpa using hb
  subst e
  obtain⟨o,e,c,d⟩:=st
  exact⟨o,e,fun v z=>by rw[d] at z;cases z⟩
 keep:=fun i h h' st k=>st.at fun o e=>k it (by simp) o e
 item:=by
  intro X hP hw hK hc i c4 s σ H E I hf st hg
  subst hP hw hK
  obtain⟨xs,x,hq,hx⟩:=hg
  obtain⟨n5,rv,p,hz⟩:=I.list hq
  obtain⟨u,hu,ru⟩:=rv.get hx
  obtain⟨f0,f1,f2,f3,f4,f5⟩:=hf it (by simp)
  refine wpAny_pyNext_list_item st p.isList (x:=u) (by simpa using hu) fun h' st' sb=> ?_
  have I1:Inw X c4 σ H {s with heap:=h'}:=I.turned (t':=s.toks) (fun b o hb e=>(sb.2 b hb).trans e) f0 f1 f3 f4 f5
  obtain⟨o,e,c,d⟩:=id st'
  exact⟨u,rfl,FP (s:={s with heap:=h'}) e c d (by decide) ⟨x,H,I1,ru,⟨rfl,fun ys hy=>by rw[I.list_inj hy hq];exact hx⟩,st',fun b hb=>(hf b hb).1⟩⟩
 done:=by
  intro X hP hw hK hc i c4 s σ H E I hf st hg
  subst hP hw hK
  obtain⟨xs,hq,hx⟩:=hg
  obtain⟨n5,rv,p,hz⟩:=I.list hq
  obtain⟨f0,f1,f2,f3,f4,f5⟩:=hf it (by simp)
  have hl:=rv.length
  exact wpAny_pyNext_list_end (I.ok.hd hc) st p.isList (by simp;omega) fun h' eb=>⟨rfl,I.turned (t':=s.toks) (fun b o hb e=>eb b o hb e) f0 f1 f3 f4 f5⟩
 self:=fun _ _ _ _ _ st h=>wpAny_pyIter_listiter st h
theorem MA{P:Program}{w:World}{K:j6}{tg:Expr}(it:Addr)(lo:Int)(n:Nat):Turn P w K tg (ZC lo n) [it] it (fun i h=>IsRangeIter h it (lo+(i:Nat)*1) ((n:Int)-(i:Nat)) 1) where
 mem:=by simp
 obj:=fun i h st b hb=>by
  have e:b=it:=by simpa using hb
  subst e
  exact⟨_,st,fun v z=>by
   have z':Data.fields _=Data.cell v:=z
   cases z'⟩
 keep:=fun i h h' st k=>k it (by simp) _ st
 item:=by
  intro X hP hw hK hc i c4 s σ H E I hf st hg
  subst hP hw hK
  obtain⟨f0,f1,f2,f3,f4,f5⟩:=hf it (by simp)
  have W:=Walks.range (prog:=X.prog) (w:=X.w) (I.ok.hd hc) it lo 1 n
  refine W.item i s _ _ hg st fun v h' tk hv st' kk=> ?_
  obtain⟨t,rfl⟩:=hv
  have I1:Inw X c4 σ H {s with heap:=h',toks:=tk}:=I.turned (fun b o hb e=>kk b o (by simpa using hb) e) f0 f1 f3 f4 f5
  refine⟨_,rfl,FP (s:={s with heap:=h',toks:=tk}) (n:="range_iterator") st' rfl rfl (by decide) ⟨.int (lo+i),H,I1,⟨t,?_⟩,⟨rfl,rfl⟩,st',fun b hb=>(hf b hb).1⟩⟩
  rw[Int.mul_one]
 done:=by
  intro X hP hw hK hc i c4 s σ H E I hf st hg
  subst hP hw hK
  obtain⟨f0,f1,f2,f3,f4,f5⟩:=hf it (by simp)
  exact wpAny_pyNext_range_end (I.ok.hd hc) st (by have:n<=i:=hg;omega) fun h' eb=>⟨rfl,I.turned (t':=s.toks) (fun b o hb e=>eb b o hb e) f0 f1 f3 f4 f5⟩
 self:=fun _ _ _ _ _ st h=>wpAny_pyIter_rangeiter st h
section
variable {X:Cx} {tg:Expr}
def LD(K:j6)(tl:TE):TI:=fun σ H R=>tl σ H fun x H1=>∃a,x= .ref a/\(∃xs,l7 K H1 a xs)/\R (Rv K a) H1
theorem OU{l:Expr}{tl:TE}(hl:PE X l tl):PI X tg l (LD X.K tl):=by
 intro c4 s σ H R I h
 refine G7 (hl c4 s σ H _ I h) fun v s1 ⟨x,H1,I1,r1,q1⟩=> ?_
 obtain⟨a,e,⟨xs,hq⟩,q⟩:=q1
 subst e
 cases r1
 obtain⟨n5,rv,p,hz⟩:=I1.list hq
 refine Gg p.isList ?_
 refine⟨s1.heap.objs.size,[s1.heap.objs.size],_,_,H1,rfl,I1.kept (t':=s1.toks) fun b o e=>q0 _ e,PZ a _,⟨_,C7 _ rfl,rfl,rfl⟩,fun b hb=> ?_,q⟩
 have e:b=s1.heap.objs.size:=by simpa using hb
 subst e
 exact I1.fpOk (l8 _) (I1.hok.fresh (l8 _))
theorem Ta{c4:List (Addr×Obj)}{σ:St}{H:Hp}{s:Shared}{R:It->Hp->Prop}{E:Value->Shared->Prop}{lo hi:Int}{t u v:Tok}{tk:Nat}(I:Inv X c4 σ H s)(h1: -(2^62)<=lo)(h2:lo<2^62)(h3: -(2^62)<=hi)(h4:hi<2^62)
  (q:R (ZC lo (hi-lo).toNat) H):wpAny (model X.prog X.w) X.A (pyIter (.ref s.heap.objs.size)) (PIE X c4 σ tg R) E {s with heap:=s.heap.push {cls:= .type "range",data:= .fields #[.int lo t, .int hi u, .int 1 v]},toks:=tk}:=by
 refine wpAny_pyIter_range (IsRange.new ..) (small_one h1 h2 h3 h4) ?_
 have I1:Inw X c4 σ H {s with heap:=s.heap.push {cls:= .type "range",data:= .fields #[.int lo t, .int hi u, .int 1 v]},toks:=tk}:=I.kept fun b o e=>q0 _ e
 refine⟨(s.heap.push {cls:= .type "range",data:= .fields #[.int lo t, .int hi u, .int 1 v]}).objs.size,[(s.heap.push {cls:= .type "range",data:= .fields #[.int lo t, .int hi u, .int 1 v]}).objs.size],_,_,H,rfl,
  I1.kept (t':=tk) fun b o e=>q0 _ e,MA _ lo (hi-lo).toNat,?_,fun b hb=> ?_,q⟩
 ·have e1:lo+((0:Nat):Int)*1=lo:=by simp
  have e2:(((hi-lo).toNat:Nat):Int)-((0:Nat):Int)=Builtin.Range.rangeSize lo hi 1:=by rw[rangeSize_one];split<;>omega
  show IsRangeIter _ _ (lo+((0:Nat):Int)*1) ((((hi-lo).toNat:Nat):Int)-((0:Nat):Int)) 1
  rw[e1,e2]
  exact C7 _ rfl
 ·have e:b=(s.heap.push {cls:= .type "range",data:= .fields #[.int lo t, .int hi u, .int 1 v]}).objs.size:=by simpa using hb
  subst e
  exact I1.fpOk (l8 _) (I1.hok.fresh (l8 _))
def TY(ta:TA):TI:=fun σ H R=>ta σ H fun vs H1=>∃j:Int,vs=[.int j]/\ -(2^62)<=j/\j<2^62/\R (ZC 0 j.toNat) H1
def Ze(ta:TA):TI:=fun σ H R=>ta σ H fun vs H1=>∃i j:Int,vs=[.int i, .int j]/\(-(2^62)<=i/\i<2^62/\ -(2^62)<=j/\j<2^62)/\R (ZC i (j-i).toNat) H1
theorem HG{a:Expr}{ta:TA}{p pos:Pos}(hg:Gl X "range")(hm:X.mg "range"=none)(ha:PA X [a] ta)(hs:starEach [a] X.env=[(false,eval a X.env)]:=by rfl):PI X tg (.Call (.Name "range" p) [a] [] pos) (TY ta):=by
 intro c4 s σ H R I h
 refine Call_ (Bm I hg hm boot_range (Io (G7 (ha pos c4 s σ H _ I h) fun us s1 ⟨vs,H1,I1,r1,q1⟩=> ?_) hs rfl))
 obtain⟨j,e,q1,q2,q⟩:=q1
 subst e
 cases r1 with
 |cons r rr=>
  cases rr
  obtain⟨t,rfl⟩:=r
  exact call_range_1 (Ta I1 (by omega) (by omega) q1 q2 (by simpa using q))
def ZO(wi:TI)(g:TG)(tb:TS):TS:=fun D σ H=>wi σ H fun J H1=>∃W:Nat->Nat->St->Hp->Prop,(∃m,W 0 m σ H1)/\∀i m σ H,W i m σ H->
 (J.stop i H/\D.nx σ H)\/(J.go i H/\∃N:St->Hp->Prop,(∀σ' H',N σ' H'->∃m',m'<m/\W (i+1) m' σ' H')/\∀x H',J.yld i H x H'->g x σ H' fun σ2 H2=>tb {D with nx:=N,ct:=N,bk:=D.nx} σ2 H2)
def FF(fp:List Addr)(h:Heap):List (Addr×Obj):=fp.filterMap fun b=>(h.get? b).map fun o=>(b,o)
theorem AC{fp:List Addr}{h:Heap}{b:Addr}{o:Obj}(hb:b∈fp)(e:h.get? b=some o):(b,o)∈FF fp h:=Zx.mpr ⟨b,hb,by rw[e];rfl⟩
theorem QA{fp:List Addr}{h:Heap}{p:Addr×Obj}(hp:p∈FF fp h):p.1∈fp/\h.get? p.1=some p.2:=by
 obtain⟨b,hb,e⟩:=Zx.mp hp
 cases q:h.get? b with
 |none=>rw[q] at e;cases e
 |some o=>
  rw[q] at e
  have e':(b,o)=p:=R7 e
  subst e'
  exact⟨hb,q⟩
theorem Inw.pinned{c4:List (Addr×Obj)}{σ:St}{H:Hp}{s:Shared}{fp:List Addr}(I:Inw X c4 σ H s)(hf:∀b∈fp,Er X c4 H b)(ho:∀b∈fp,∃o,s.heap.get? b=some o/\∀v,o.data≠ .cell v):Inw X (c4++FF fp s.heap) σ H s:=
 I.pins_of fun p hp=>(D8.mp hp).elim (fun z=>I.pin p (AS _ z)) fun z=>by
  obtain⟨hb,e⟩:=QA z
  obtain⟨f0,f1,f2,_⟩:=hf p.1 hb
  obtain⟨o,e',d⟩:=ho p.1 hb
  rw[e] at e';cases e'
  exact⟨e,f0,f1,f2,d⟩
theorem Inw.unpinned{c4 pl:List (Addr×Obj)}{σ:St}{H:Hp}{s:Shared}(I:Inw X (c4++pl) σ H s):Inw X c4 σ H s:=I.pins_of fun p hp=>I.pin p (AS _ (Mi _ hp))
theorem y7{iter:Expr}{body:List Stmt}{wi:TI}{g:TG}{tb:TS}{pos:Pos}(hp:PassesOwn (model X.prog X.w) X.A X.env X.xe)(hc:X.calm=true)(hi:PI X tg iter wi)(hg:PG X tg g)(hb:Hm X body tb)
  (hs:∀x,foldedSetIterable iter X.env x=pure x:=by intro _;rfl):PS X (.For tg iter body [] pos) (ZO wi g tb):=by
 intro c4 s σ H D I h
 refine wpAny_For (G7 (hi c4 s σ H _ I h) fun v s1 g1=> ?_) hs
 refine IB g1.pos g1.run fun itv s2 z2 h2=> ?_
 obtain⟨it,fp,tn,J,H2,e,I2,T,st2,f2,W,⟨m0,w0⟩,turn⟩:=h2
 subst e
 -- what Qbx true of the iterator's objects through the loop
 have stat:∀{H':Hp},(∀b∈fp,H' b=none)->∀b∈fp,Er X c4 H' b:=fun hn b hb=>⟨hn b hb,(f2 b hb).2⟩
 refine codeAny_forLoop_any (fun n s'=>∃i σ' H',Inv X c4 σ' H' s'/\tn i s'.heap/\(∀b∈fp,H' b=none)/\W i n σ' H') ?_ m0 ⟨0,σ,H2,⟨I2,z2⟩,st2,fun b hb=>(f2 b hb).1,w0⟩
 rintro n s3 ⟨i,σ3,H3,I3,st3,fr3,w3⟩
 rcases turn i n σ3 H3 w3 with ⟨stop,qn⟩|⟨go,N,hN,step⟩
 ·refine Gh hp (G7 (T.done X rfl rfl rfl hc i c4 s3 σ3 H3 X.xe I3 (stat fr3) st3 stop) fun r s4 ⟨hr,I4⟩=> ?_)
  subst hr
  exact Mh ⟨σ3,H3,I4,qn⟩
 ·refine Gh hp (IB I3.pos (T.item X rfl rfl rfl hc i c4 s3 σ3 H3 X.xe I3 (stat fr3) st3 go) fun r s4 z4 ⟨u,hr,h4⟩=> ?_)
  subst hr
  refine Gh hp (IB z4 h4 fun _ s5 z5 ⟨x,H5,I5,r5,y5,st5,fr5⟩=> ?_)
  have I5':Inv X _ _ _ s5:=⟨I5.pinned (stat fr5) (T.obj _ _ st5),z5⟩
  refine Gh hp (G7 (hg _ s5 σ3 H5 x u _ I5' r5 (step x H5 y5)) fun _ s6 ⟨σ6,H6,I6,q6⟩=> ?_)
  refine Gh hp (G7 (hb _ s6 σ6 H6 _ I6 q6) fun f s7 q7=> ?_)
  have again:∀{σ7:St} {H7:Hp},Inv X (c4++FF fp s5.heap) σ7 H7 s7->N σ7 H7->∃m,m<n/\∃i σ' H',Inv X c4 σ' H' s7/\tn i s7.heap/\(∀b∈fp,H' b=none)/\W i m σ' H':=fun{σ7 H7} I7 n7=>by
   obtain⟨m',hm,w7⟩:=hN σ7 H7 n7
   refine⟨m',hm,i+1,σ7,H7,⟨I7.unpinned,I7.pos⟩,T.keep _ _ _ st5 fun b hb o e=>(I7.pin (b,o) (AS _ (AS _ (AC hb e)))).1,fun b hb=> ?_,w7⟩
   obtain⟨o,e,d⟩:=T.obj _ _ st5 b hb
   exact(I7.pin (b,o) (AS _ (AS _ (AC hb e)))).2.1
  cases f with
  |next=>obtain⟨σ7,H7,I7,n7⟩:=q7;exact again I7 n7
  |cont=>obtain⟨σ7,H7,I7,n7⟩:=q7;exact again I7 n7
  |brk=>obtain⟨σ7,H7,I7,q7⟩:=q7;exact⟨σ7,H7,I7.unpinned,q7⟩
  |ret v=>obtain⟨x7,σ7,H7,I7,r7,q7⟩:=q7;exact⟨x7,σ7,H7,I7.unpinned,r7,q7⟩
end
theorem Ur{K:j6}{a:Addr}{xs:List V}{g:TG}{tb:TS}{D:Ends}{σ:St}{H:Hp}(Pv:Nat->St->Hp->Prop)(h0:Pv 0 σ H)(hl:∀i σ H,i<=xs.length->Pv i σ H->l7 K H a xs)
  (hs:∀i x σ H,xs[i]? =some x->Pv i σ H->g x σ H fun σ2 H2=>tb {D with nx:=Pv (i+1),ct:=Pv (i+1),bk:=D.nx} σ2 H2)(hd:∀σ H,Pv xs.length σ H->D.nx σ H):
  ∃W:Nat->Nat->St->Hp->Prop,(∃m,W 0 m σ H)/\∀i m σ H,W i m σ H->
   ((Rv K a).stop i H/\D.nx σ H)\/((Rv K a).go i H/\∃N:St->Hp->Prop,(∀σ' H',N σ' H'->∃m',m'<m/\W (i+1) m' σ' H')/\∀x H',(Rv K a).yld i H x H'->g x σ H' fun σ2 H2=>tb {D with nx:=N,ct:=N,bk:=D.nx} σ2 H2):=by
 refine⟨fun i m σ H=>m=xs.length-i/\i<=xs.length/\Pv i σ H,⟨xs.length,by simp,o8 _,h0⟩,?_⟩
 rintro i m σ H ⟨rfl,hi,p⟩
 have q:=hl i σ H hi p
 by_cases O2:i<xs.length
 ·refine .inr ⟨⟨xs,xs[i],q,by simp [O2]⟩,Pv (i+1),fun σ' H' p'=>⟨xs.length-(i+1),by omega,rfl,O2,p'⟩,fun x H' y=> ?_⟩
  obtain⟨e,y⟩:=y
  subst e
  exact hs i x σ _ (y xs q) p
 ·have e:i=xs.length:=by omega
  subst e
  exact .inl ⟨⟨xs,q,l8 _⟩,hd σ H p⟩
theorem QS{lo:Int}{n:Nat}{g:TG}{tb:TS}{D:Ends}{σ:St}{H:Hp}(Pv:Nat->St->Hp->Prop)(h0:Pv 0 σ H)
  (hs:∀i σ H,i<n->Pv i σ H->g (.int (lo+i)) σ H fun σ2 H2=>tb {D with nx:=Pv (i+1),ct:=Pv (i+1),bk:=D.nx} σ2 H2)(hd:∀σ H,Pv n σ H->D.nx σ H):
  ∃W:Nat->Nat->St->Hp->Prop,(∃m,W 0 m σ H)/\∀i m σ H,W i m σ H->
   ((ZC lo n).stop i H/\D.nx σ H)\/((ZC lo n).go i H/\∃N:St->Hp->Prop,(∀σ' H',N σ' H'->∃m',m'<m/\W (i+1) m' σ' H')/\∀x H',(ZC lo n).yld i H x H'->g x σ H' fun σ2 H2=>tb {D with nx:=N,ct:=N,bk:=D.nx} σ2 H2):=by
 refine⟨fun i m σ H=>m=n-i/\i<=n/\Pv i σ H,⟨n,by simp,o8 _,h0⟩,?_⟩
 rintro i m σ H ⟨rfl,hi,p⟩
 by_cases O2:i<n
 ·refine .inr ⟨O2,Pv (i+1),fun σ' H' p'=>⟨n-(i+1),by omega,rfl,O2,p'⟩,fun x H' y=> ?_⟩
  obtain⟨e,y⟩:=y
  subst e y
  exact hs i σ _ O2 p
 ·have e:i=n:=by omega
  subst e
  exact .inl ⟨l8 _,hd σ H p⟩
abbrev R2:=V->V->Hp->VK->Prop
def BF(X:Cx)(f:Value->Value->Sem Value)(r:R2):Prop:=
 ∀(c4:List (Addr×Obj)) (s:Shared) (σ:St) (H:Hp) (x y:V) (v u:Value) (Q:VK),Inv X c4 σ H s->RelV x v->RelV y u->r x y H Q->
  wpAny (model X.prog X.w) X.A (f v u) (EP X c4 σ Q) X.xe s
def UnR(X:Cx)(f:Value->Sem Value)(r:V->Hp->VK->Prop):Prop:=
 ∀(c4:List (Addr×Obj)) (s:Shared) (σ:St) (H:Hp) (x:V) (v:Value) (Q:VK),Inv X c4 σ H s->RelV x v->r x H Q->
  wpAny (model X.prog X.w) X.A (f v) (EP X c4 σ Q) X.xe s
def P8(X:Cx)(f:Value)(r:List V->Hp->VK->Prop):Prop:=
 ∀(c4:List (Addr×Obj)) (s:Shared) (σ:St) (H:Hp) (xs:List V) (us:List Value) (Q:VK),Inv X c4 σ H s->u3 xs us->r xs H Q->
  wpAny (model X.prog X.w) X.A (call f us) (EP X c4 σ Q) X.xe s
def QcS(X:Cx)(r:V->Hp->(Bool->Hp->Prop)->Prop):Prop:=
 ∀(c4:List (Addr×Obj)) (s:Shared) (σ:St) (H:Hp) (x:V) (v:Value) (Q:Bool->Hp->Prop),Inv X c4 σ H s->RelV x v->r x H Q->
  wpAny (model X.prog X.w) X.A (truthy v) (TP X c4 σ Q) X.xe s
def Rz(r:R2)(ta tb:TE):TE:=fun σ H Q=>ta σ H fun x H1=>tb σ H1 fun y H2=>r x y H2 Q
def tUn(r:V->Hp->VK->Prop)(ta:TE):TE:=fun σ H Q=>ta σ H fun x H1=>r x H1 Q
def rI(C:Int->Int->Prop)(g:Int->Int->V):R2:=fun x y H Q=>∃i j,x= .int i/\y= .int j/\C i j/\Q (g i j) H
def RA(g:Int->Int->V):R2:=fun x y H Q=>∃i j,x= .int i/\y= .int j/\Q (g i j) H
def rU(g:Int->V):V->Hp->VK->Prop:=fun x H Q=>∃i,x= .int i/\Q (g i) H
section
variable {X:Cx} {a b c:Expr} {ta tb tc:TE} {pos:Pos}
theorem Qbm(ha:PE X a ta)(hb:PE X b tb){c4:List (Addr×Obj)}{s:Shared}{σ:St}{H:Hp}{R:V->V->Hp->Prop}(I:Inv X c4 σ H s)
  (h:ta σ H fun x H1=>tb σ H1 fun y H2=>R x y H2){Q:Value->Shared->Prop}{f:Value->Value->Sem Value}
  (hf:∀v u s2 x y H2,Inv X c4 σ H2 s2->RelV x v->RelV y u->R x y H2->wpAny (model X.prog X.w) X.A (f v u) Q X.xe s2):
  wpAny (model X.prog X.w) X.A (eval a X.env) (fun v s₁=>wpAny (model X.prog X.w) X.A (eval b X.env) (fun u s₂=>wpAny (model X.prog X.w) X.A (f v u) Q X.xe s₂) X.xe s₁) X.xe s:=by
 refine G7 (ha c4 s σ H _ I h) fun v s1 ⟨x,H1,I1,r1,q1⟩=> ?_
 refine G7 (hb c4 s1 σ H1 _ I1 q1) fun u s2 ⟨y,H2,I2,r2,q2⟩=> ?_
 exact hf v u s2 x y H2 I2 r1 r2 q2
theorem u5{op:Operator}{r:R2}(ho:BF X (binaryOp op) r)(ha:PE X a ta)(hb:PE X b tb):PE X (.BinOp a op b pos) (Rz r ta tb):=by
 intro c4 s σ H Q I h
 exact wpAny_BinOp (Qbm ha hb I h fun v u s2 x y H2 I2 rx ry q=>ho c4 s2 σ H2 x y v u Q I2 rx ry q)
theorem To{op:UnaryOp}{r:V->Hp->VK->Prop}(ho:UnR X (unaryOp op) r)(ha:PE X a ta):PE X (.UnaryOp op a pos) (tUn r ta):=by
 intro c4 s σ H Q I h
 exact UnaryOp_ (G7 (ha c4 s σ H _ I h) fun v s1 ⟨x,H1,I1,r1,q1⟩=>ho c4 s1 σ H1 x v Q I1 r1 q1)
theorem opI{f:Value->Value->Sem Value}{C:Int->Int->Prop}{g:Int->Int->Int}
  (rule:∀(i j:Int) (t u:Tok) (s:Shared) (Q:Value->Shared->Prop) (E:Value->Shared->Prop),C i j->Q (.int (g i j) s.toks) {s with toks:=s.toks+1}->wpAny (model X.prog X.w) X.A (f (.int i t) (.int j u)) Q E s):
  BF X f (rI C fun i j=> .int (g i j)):=by
 intro c4 s σ H x y v u Q I rx ry h
 obtain⟨i,j,rfl,rfl,hc,q⟩:=h
 obtain⟨t,rfl⟩:=rx
 obtain⟨t',rfl⟩:=ry
 exact rule i j t t' s _ _ hc ⟨.int (g i j),H,I.tok _,⟨_,rfl⟩,q⟩
theorem QbO{f:Value->Value->Sem Value}{g:Int->Int->Int}
  (rule:∀(i j:Int) (t u:Tok) (s:Shared) (Q:Value->Shared->Prop) (E:Value->Shared->Prop),Q (.int (g i j) s.toks) {s with toks:=s.toks+1}->wpAny (model X.prog X.w) X.A (f (.int i t) (.int j u)) Q E s):
  BF X f (RA fun i j=> .int (g i j)):=by
 intro c4 s σ H x y v u Q I rx ry h
 obtain⟨i,j,rfl,rfl,q⟩:=h
 obtain⟨t,rfl⟩:=rx
 obtain⟨t',rfl⟩:=ry
 exact rule i j t t' s _ _ ⟨.int (g i j),H,I.tok _,⟨_,rfl⟩,q⟩
theorem WM{f:Value->Value->Sem Value}{g:Int->Int->Bool}
  (rule:∀(i j:Int) (t u:Tok) (s:Shared) (Q:Value->Shared->Prop) (E:Value->Shared->Prop),Q (.bool (g i j)) s->wpAny (model X.prog X.w) X.A (f (.int i t) (.int j u)) Q E s):
  BF X f (RA fun i j=> .bl (g i j)):=by
 intro c4 s σ H x y v u Q I rx ry h
 obtain⟨i,j,rfl,rfl,q⟩:=h
 obtain⟨t,rfl⟩:=rx
 obtain⟨t',rfl⟩:=ry
 exact rule i j t t' s _ _ ⟨.bl (g i j),H,I,rfl,q⟩
def QcV(i j:Int):Prop:=0<j/\j<1073741824
def QcU(i j:Int):Prop:=0<=j/\j<=1000000/\i.natAbs<2^64
def XW(i j:Int):Prop:=(-(2^64)<i/\i<2^64)\/(-(2^64)<j/\j<2^64)
theorem XW.ok{i j:Int}(h:XW i j):IntMulOk i j:=by
 rcases h with ⟨h1,h2⟩|⟨h1,h2⟩
 ·exact .of_left (intBits_le_64 h1 h2)
 ·exact .of_right (intBits_le_64 h1 h2)
theorem X2:BF X (binaryOp .Add) (RA fun i j=> .int (i+j)):=QbO fun _ _ _ _ _ _ _ q=>add_int q
theorem QaE:BF X (binaryOp .Sub) (RA fun i j=> .int (i-j)):=QbO fun _ _ _ _ _ _ _ q=>sub_int q
theorem IY:BF X (binaryOp .Mult) (rI XW fun i j=> .int (i*j)):=opI fun _ _ _ _ _ _ _ hc q=>mul_int q hc.ok
theorem Z5:BF X (binaryOp .FloorDiv) (rI QcV fun i j=> .int (i/j)):=opI fun i j _ _ _ _ _ hc q=>by
 have h1:(0:Int)<j:=hc.1
 have h2:j<1073741824:=hc.2
 exact floordiv_int (by omega) (by rw[Int.fdiv_eq_ediv_of_nonneg i (by omega)];exact q) (.inl (Zw (by omega)))
theorem T8:BF X (binaryOp .Mod) (rI (fun _ j=>0<j) fun i j=> .int (i % j)):=opI fun i j _ _ _ _ _ hc q=>by
 have h1:(0:Int)<j:=hc
 exact mod_int' (by omega) (by rw[Int.fmod_eq_emod_of_nonneg i (by omega)];exact q)
theorem MX:BF X (binaryOp .Pow) (rI QcU fun i j=> .int (i^j.toNat)):=opI fun _ _ _ _ _ _ _ hc q=>pow_int_small hc.1 hc.2.1 hc.2.2 q
theorem unI{f:Value->Sem Value}{g:Int->Int}
  (rule:∀(i:Int) (t:Tok) (s:Shared) (Q:Value->Shared->Prop) (E:Value->Shared->Prop),Q (.int (g i) s.toks) {s with toks:=s.toks+1}->wpAny (model X.prog X.w) X.A (f (.int i t)) Q E s):
  UnR X f (rU fun i=> .int (g i)):=by
 intro c4 s σ H x v Q I rx h
 obtain⟨i,rfl,q⟩:=h
 obtain⟨t,rfl⟩:=rx
 exact rule i t s _ _ ⟨.int (g i),H,I.tok _,⟨_,rfl⟩,q⟩
theorem IA:UnR X (unaryOp .USub) (rU fun i=> .int (-i)):=unI fun _ _ _ _ _ q=>neg_int q
end
def Ws:V->V->Bool
 | .non, .non=>true| .non, .int _=>true| .int _, .non=>true| .non, .bl _=>true| .bl _, .non=>true| .non, .str _=>true| .str _, .non=>true
 | .int _, .int _=>true| .bl _, .bl _=>true| .str _, .str _=>true| .byt _, .byt _=>true
 | .int _, .str _=>true| .str _, .int _=>true| .bl _, .str _=>true| .str _, .bl _=>true
 |_,_=>false
def rEq:R2:=fun x y H Q=>Ws x y=true/\Q (.bl (decide (x=y))) H
def rNe:R2:=fun x y H Q=>Ws x y=true/\Q (.bl (!decide (x=y))) H
theorem Py{i j:Int}:decide (V.int i=V.int j)=(i==j):=by
 rw[Do]
 simp
theorem UD{i j:Bool}:decide (V.bl i=V.bl j)=(i==j):=by
 rw[Do]
 simp
theorem Px{i j:Str}:decide (V.str i=V.str j)=(i==j):=by
 rw[Do]
 simp
theorem Pz{i j:Array UInt8}:decide (V.byt i=V.byt j)=(i.toList==j.toList):=by
 rw[Do]
 cases i
 cases j
 simp
section
variable {X:Cx} {a b c:Expr} {ta tb tc:TE} {pos:Pos}
theorem A7{c4:List (Addr×Obj)}{σ:St}{H:Hp}{s:Shared}{Q:VK}{k k':Bool}(I:Inv X c4 σ H s)(q:Q (.bl k) H)(e:k=k'):EP X c4 σ Q (.bool k') s:=by
 subst e
 exact⟨.bl k,H,I,rfl,q⟩
theorem OX:BF X (compareOp .Eq) rEq:=by
 intro c4 s σ H x y v u Q I rx ry h
 obtain⟨hs,q⟩:=h
 cases x with
 |non=>
  cases rx
  cases y with
  |non=>cases ry;exact PySem.EqNone.eq_none_none (A7 I q (by simp))
  |bl j=>cases ry;exact PySem.EqNone.eq_none_bool (A7 I q (by simp))
  |int j=>obtain⟨t',rfl⟩:=ry;exact PySem.EqNone.eq_none_int (A7 I q (by simp))
  |str j=>obtain⟨t',rfl⟩:=ry;exact PySem.EqNone.eq_none_str (A7 I q (by simp))
  |_=>exact absurd (show false=true from hs) K3
 |bl i=>
  cases rx
  cases y with
  |non=>cases ry;exact PySem.EqNone.eq_bool_none (A7 I q (by simp))
  |bl j=>cases ry;exact eq_bool (A7 I q UD)
  |str j=>obtain⟨t',rfl⟩:=ry;exact PySem.EqMixed.eq_bool_str (A7 I q (by simp))
  |_=>exact absurd (show false=true from hs) K3
 |int i=>
  obtain⟨t,rfl⟩:=rx
  cases y with
  |non=>cases ry;exact PySem.EqNone.eq_int_none (A7 I q (by simp))
  |int j=>obtain⟨t',rfl⟩:=ry;exact eq_int (A7 I q Py)
  |str j=>obtain⟨t',rfl⟩:=ry;exact PySem.EqMixed.eq_int_str (A7 I q (by simp))
  |_=>exact absurd (show false=true from hs) K3
 |str i=>
  obtain⟨t,rfl⟩:=rx
  cases y with
  |non=>cases ry;exact PySem.EqNone.eq_str_none (A7 I q (by simp))
  |bl j=>cases ry;exact PySem.EqMixed.eq_str_bool (A7 I q (by simp))
  |int j=>obtain⟨t',rfl⟩:=ry;exact PySem.EqMixed.eq_str_int (A7 I q (by simp))
  |str j=>obtain⟨t',rfl⟩:=ry;exact eq_str (A7 I q Px)
  |_=>exact absurd (show false=true from hs) K3
 |byt i=>
  obtain⟨t,rfl⟩:=rx
  cases y with
  |byt j=>obtain⟨t',rfl⟩:=ry;exact PySem.W.eq_bytes (A7 I q Pz)
  |_=>exact absurd (show false=true from hs) K3
 |_=>cases y<;>exact absurd (show false=true from hs) K3
theorem OW:BF X (compareOp .NotEq) rNe:=by
 intro c4 s σ H x y v u Q I rx ry h
 obtain⟨hs,q⟩:=h
 cases x with
 |non=>
  cases rx
  cases y with
  |non=>cases ry;exact PySem.EqNone.ne_none_none (A7 I q (by simp))
  |bl j=>cases ry;exact PySem.EqNone.ne_none_bool (A7 I q (by simp))
  |int j=>obtain⟨t',rfl⟩:=ry;exact PySem.EqNone.ne_none_int (A7 I q (by simp))
  |str j=>obtain⟨t',rfl⟩:=ry;exact PySem.EqNone.ne_none_str (A7 I q (by simp))
  |_=>exact absurd (show false=true from hs) K3
 |bl i=>
  cases rx
  cases y with
  |non=>cases ry;exact PySem.EqNone.ne_bool_none (A7 I q (by simp))
  |bl j=>cases ry;exact ne_bool (A7 I q (congrArg not UD))
  |str j=>obtain⟨t',rfl⟩:=ry;exact PySem.EqMixed.ne_bool_str (A7 I q (by simp))
  |_=>exact absurd (show false=true from hs) K3
 |int i=>
  obtain⟨t,rfl⟩:=rx
  cases y with
  |non=>cases ry;exact PySem.EqNone.ne_int_none (A7 I q (by simp))
  |int j=>obtain⟨t',rfl⟩:=ry;exact ne_int (A7 I q (congrArg not Py))
  |str j=>obtain⟨t',rfl⟩:=ry;exact PySem.EqMixed.ne_int_str (A7 I q (by simp))
  |_=>exact absurd (show false=true from hs) K3
 |str i=>
  obtain⟨t,rfl⟩:=rx
  cases y with
  |non=>cases ry;exact PySem.EqNone.ne_str_none (A7 I q (by simp))
  |bl j=>cases ry;exact PySem.EqMixed.ne_str_bool (A7 I q (by simp))
  |int j=>obtain⟨t',rfl⟩:=ry;exact PySem.EqMixed.ne_str_int (A7 I q (by simp))
  |str j=>obtain⟨t',rfl⟩:=ry;exact ne_str (A7 I q (congrArg not Px))
  |_=>exact absurd (show false=true from hs) K3
 |byt i=>
  obtain⟨t,rfl⟩:=rx
  cases y with
  |byt j=>obtain⟨t',rfl⟩:=ry;exact PySem.W.ne_bytes (A7 I q (congrArg not Pz))
  |_=>exact absurd (show false=true from hs) K3
 |_=>cases y<;>exact absurd (show false=true from hs) K3
theorem Tq:BF X (compareOp .Lt) (RA fun i j=> .bl (decide (i<j))):=WM fun _ _ _ _ _ _ _ q=>lt_int q
theorem Tr:BF X (compareOp .LtE) (RA fun i j=> .bl (decide (i<=j))):=WM fun _ _ _ _ _ _ _ q=>le_int q
theorem QbM:BF X (compareOp .Gt) (RA fun i j=> .bl (decide (j<i))):=WM fun _ _ _ _ _ _ _ q=>gt_int q
theorem QbN:BF X (compareOp .GtE) (RA fun i j=> .bl (decide (j<=i))):=WM fun _ _ _ _ _ _ _ q=>ge_int q
theorem Qw:BF X (compareOp .In) (fun x y H Q=>∃i j,x= .str i/\y= .str j/\Q (.bl (!(Builtin.Str.occurrences j i 0 j.length 1).isEmpty)) H):=by
 intro c4 s σ H x y v u Q I rx ry h
 obtain⟨i,j,rfl,rfl,q⟩:=h
 obtain⟨t,rfl⟩:=rx
 obtain⟨t',rfl⟩:=ry
 exact in_str (A7 I q rfl)
theorem QaI:BF X (compareOp .Is) (fun x y H Q=>y= .non/\Q (.bl (decide (x= .non))) H):=by
 intro c4 s σ H x y v u Q I rx ry h
 obtain⟨rfl,q⟩:=h
 cases ry
 refine is_none_gen (A7 I q ?_)
 cases x<;>first
  |(cases rx;rfl)
  |(obtain⟨t,rfl⟩:=rx;rfl)
theorem E1(b:Expr){op:CmpOp}(h:op≠ .In:=by decide)(h2:op≠ .NotIn:=by decide):behindInMarks op b=false:=by
 have e1:(op==CmpOp.In)=false:=by cases op<;>first|rfl|exact absurd rfl h
 have e2:(op==CmpOp.NotIn)=false:=by cases op<;>first|rfl|exact absurd rfl h2
 cases b<;>simp [behindInMarks,e1,e2]
theorem OV{op:CmpOp}{r:R2}(ho:BF X (compareOp op) r)(ha:PE X a ta)(hb:PE X b tb)(hm:behindInMarks op b=false):PE X (.Compare a [op] [b] pos) (Rz r ta tb):=by
 intro c4 s σ H Q I h
 exact wpAny_Compare1 (Qbm ha hb I h fun v u s2 x y H2 I2 rx ry q=>ho c4 s2 σ H2 x y v u Q I2 rx ry q) hm
def Fo(t:TE):TT:=fun σ H Q=>t σ H fun x H'=>∃k,x= .bl k/\Q k H'
theorem B0{op:CmpOp}{r:R2}(ho:BF X (compareOp op) r)(ha:PE X a ta)(hb:PE X b tb)(hm:behindInMarks op b=false):PT X (.Compare a [op] [b] pos) (Fo (Rz r ta tb)):=by
 intro c4 s σ H Q I h
 refine wpAny_isTrue_Compare1 (G7 (ha c4 s σ H _ I h) fun v s1 ⟨x,H1,I1,r1,q1⟩=>G7 (hb c4 s1 σ H1 _ I1 q1) fun u s2 ⟨y,H2,I2,r2,q2⟩=>
  G7 (ho c4 s2 σ H2 x y v u _ I2 r1 r2 q2) fun c s3 ⟨z,H3,I3,r3,k,e,q3⟩=> ?_) hm
 subst e
 cases r3
 exact EH ⟨H3,I3,q3⟩
def MG(r r':R2)(ta tb tc:TE):TE:=fun σ H Q=>ta σ H fun x H1=>tb σ H1 fun y H2=>r x y H2 fun z H3=>∃k,z= .bl k/\
 (if k=true then tc σ H3 fun w' H4=>r' y w' H4 Q else Q (.bl false) H3)
theorem CV{op op':CmpOp}{r r':R2}(ho:BF X (compareOp op) r)(ho':BF X (compareOp op') r')(ha:PE X a ta)(hb:PE X b tb)(hc:PE X c tc)
  (hm:lastMarks [op,op'] [b,c]=false:=by with_unfolding_all rfl):PE X (.Compare a [op,op'] [b,c] pos) (MG r r' ta tb tc):=by
 intro c4 s σ H Q I h
 refine Compare_chain (G7 (ha c4 s σ H _ I h) fun v s1 ⟨x,H1,I1,r1,q1⟩=>chain_link (G7 (hb c4 s1 σ H1 _ I1 q1) fun u s2 ⟨y,H2,I2,r2,q2⟩=>
  G7 (ho c4 s2 σ H2 x y v u _ I2 r1 r2 q2) fun d s3 ⟨z,H3,I3,r3,k,e,q3⟩=> ?_)) hm
 subst e
 cases r3
 refine EH ?_
 cases k with
 |false=>exact ite_ff ⟨.bl false,H3,I3,rfl,q3⟩
 |true=>exact ite_tt (chain_last (G7 (hc c4 s3 σ H3 _ I3 q3) fun w' s4 ⟨z',H4,I4,r4,q4⟩=>ho' c4 s4 σ H4 y z' u w' Q I4 r2 r4 q4))
def Qcw(K:j6)(x:V)(H:Hp)(k:Bool):Prop:=
 match x with
 | .non=>k=false
 | .bl b=>k=b
 | .int i=>k=(i != 0)
 | .str y=>y.length<=sizeLine/\k=((y.length:Int) != 0)
 | .byt y=>y.size<=sizeLine/\k=((y.size:Int) != 0)
 | .ref p=>(∃xs,l7 K H p xs/\k= !xs.isEmpty)\/(∃xs,W3 K H p xs/\k= !xs.isEmpty)\/∃kvs,H p=some (.dK kvs)/\k= !kvs.isEmpty
 |_=>False
theorem Nj{κ:Type}{kvs:List (κ×V)}{vs:List (κ×Value)}(r:KV kvs vs):(!vs.isEmpty)= !kvs.isEmpty:=by
 cases r<;>rfl
theorem FK{xs:List V}{n5:List Value}(r:u3 xs n5):(!n5.toArray.isEmpty)= !xs.isEmpty:=by
 cases r<;>simp
theorem DG:(sizeLine:Nat)<2^63:=by rw[B9];decide
theorem ZK:QcS X (fun x H Q=>∃k,Qcw X.K x H k/\Q k H):=by
 intro c4 s σ H x v Q I rx h
 obtain⟨k,e,q⟩:=h
 have hl:=DG
 have hs:sizeLine=16777216:=B9
 cases x with
 |non=>
  cases rx
  have e':k=false:=e
  subst e'
  exact truthy_none ⟨H,I,q⟩
 |bl b=>
  cases rx
  have e':k=b:=e
  subst e'
  exact EH ⟨H,I,q⟩
 |int i=>
  obtain⟨t,rfl⟩:=rx
  have e':k=(i != 0):=e
  subst e'
  exact PySem.P.truthy_int ⟨H,I,q⟩
 |str y=>
  obtain⟨t,rfl⟩:=rx
  obtain⟨hy,e'⟩:y.length<=sizeLine/\k=((y.length:Int) != 0):=e
  subst e'
  exact PySem.P.truthy_str (by omega) ⟨H,I.tok _,q⟩
 |byt y=>
  obtain⟨t,rfl⟩:=rx
  obtain⟨hy,e'⟩:y.size<=sizeLine/\k=((y.size:Int) != 0):=e
  subst e'
  exact PySem.W.truthy_bytes (by omega) ⟨H,I.tok _,q⟩
 |ref p=>
  cases rx
  have e':(∃xs,l7 X.K H p xs/\k= !xs.isEmpty)\/(∃xs,W3 X.K H p xs/\k= !xs.isEmpty)\/∃kvs,H p=some (.dK kvs)/\k= !kvs.isEmpty:=e
  rcases e' with ⟨xs,hx,e'⟩|⟨xs,hx,e'⟩|⟨kvs,hx,e'⟩
  ·subst e'
   obtain⟨n5,r,pl,hz⟩:=I.list hx
   have G1:=r.length
   exact wpAny_truthy_list pl.isList (by simp only[C6];omega) ⟨H,I.tok _,by rw[FK r];exact q⟩
  ·subst e'
   obtain⟨n5,r,pl,hz⟩:=I.tuple hx
   have G1:=r.length
   exact truthy_tuple pl (by simp only[C6];omega) ⟨H,I.tok _,by rw[FK r];exact q⟩
  ·subst e'
   obtain⟨hz,hS,vs,r,m⟩:kvs.length<=sizeLine/\(p==sysModules)=false/\∃vs,KV kvs vs/\s.heap.DictOf (o6 X.prog X.w) p vs:=I.hok p _ hx
   have G1:kvs.length=vs.length:=XQ r
   exact wpAny_truthy_dict hS m (by omega) ⟨H,I.tok _,by rw[Nj r];exact q⟩
 |_=>exact(show False from e).elim
theorem FC(ha:PE X a ta)(he:∀Ba,isTrue a X.env Ba=(do let v<-Ba;standAt a.pos;holding [v] (truthy v))):
  PT X a (fun σ H Q=>ta σ H fun x H'=>∃k,Qcw X.K x H' k/\Q k H'):=by
 intro c4 s σ H Q I h
 exact isTrue_plain (G7 (ha c4 s σ H _ I h) fun v s1 ⟨x,H1,I1,r1,q1⟩=>ZK c4 s1 σ H1 x v Q I1 r1 q1) (he _)
theorem Cj:BF X (binaryOp .Add) (fun x y H Q=>∃i j,x= .str i/\y= .str j/\i.length+j.length<=sizeLine/\Q (.str (i++j)) H):=by
 intro c4 s σ H x y v u Q I rx ry h
 obtain⟨i,j,rfl,rfl,hz,q⟩:=h
 obtain⟨t,rfl⟩:=rx
 obtain⟨t',rfl⟩:=ry
 exact add_str (fun t' tk=>⟨.str (i++j),H,I.tok _,⟨_,rfl⟩,q⟩) hz
theorem vals1{x:V}{us:List Value}(r:u3 [x] us):∃u,us=[u]/\RelV x u:=by
 cases r with
 |cons r1 r2=>cases r2;exact⟨_,rfl,r1⟩
theorem vals2{x y:V}{us:List Value}(r:u3 [x,y] us):∃u w',us=[u,w']/\RelV x u/\RelV y w':=by
 cases r with
 |cons r1 r2=>
  cases r2 with
  |cons r3 r4=>cases r4;exact⟨_,_,rfl,r1,r3⟩
theorem UI:P8 X (.builtin "abs") (fun xs H Q=>∃i,xs=[.int i]/\Q (.int (if i<0 then-i else i)) H):=by
 intro c4 s σ H xs us Q I r h
 obtain⟨i,rfl,q⟩:=h
 obtain⟨u,rfl,t,rfl⟩:=vals1 r
 exact call_abs_int fun u tk=>⟨.int (if i<0 then-i else i),H,I.tok _,⟨_,rfl⟩,q⟩
theorem Ro(hc:X.calm=true):P8 X (.builtin "min") (fun xs H Q=>∃i j,xs=[.int i, .int j]/\Q (.int (if j<i then j else i)) H):=by
 intro c4 s σ H xs us Q I r h
 obtain⟨i,j,rfl,q⟩:=h
 obtain⟨u,w',rfl,⟨t,rfl⟩,⟨t',rfl⟩⟩:=vals2 r
 refine min_two_ints (I.ok.hd hc) fun h' tk k=>⟨_,H,I.kept k,?_,q⟩
 by_cases hj:j<i
 ·rw[if_pos hj,if_pos hj];exact⟨_,rfl⟩
 ·rw[if_neg hj,if_neg hj];exact⟨_,rfl⟩
end
structure ObjM(h:Heap)(x dx C:Addr)(mA:Str->Option Value):Prop where
 obj:h.get? x=some (PySem.W.instObj C dx)
 ns:h.Ns1 dx mA
 ne:dx≠x
theorem QF{h:Heap}{dx:Addr}{mA:Str->Option Value}(n:h.Ns1 dx mA):∃od,h.get? dx=some od/\∀name,PySem.W.lookIn name od=some (mA name):=by
 obtain⟨o,es,ep,ho,hd,hk,_,hm⟩:=n
 refine⟨o,ho,fun name=> ?_⟩
 have e:=hm name
 unfold nsFind findBy at e
 rw[<-Zv] at e
 unfold PySem.W.lookIn
 rw[hd]
 dsimp only
 split
 ·rename_i y q
  rw[q] at e
  exact congrArg some e
 ·rename_i q
  rw[q] at e
  have a:es.toList.any (·.refKey)=false:=by
   rw[Zu]
   intro y hy
   obtain⟨z,t,Hc⟩:=hk y (Array.mem_toList_iff.mp hy)
   simp [DictEntry.refKey,Hc]
  have a':¬es.toList.any (·.refKey)=true:=by rw[a];exact K3
  rw[if_neg a']
  exact congrArg some e
theorem ObjM.look{h:Heap}{x dx C:Addr}{mA:Str->Option Value}(I:ObjM h x dx C mA):∃od,PySem.W.InstAt h x (PySem.W.instObj C dx) C (some od)/\∀name,PySem.W.lookIn name od=some (mA name):=
 let ⟨od,ho,hl⟩:=QF I.ns
 ⟨od,⟨I.obj,rfl,rfl,ho⟩,hl⟩
section
variable {prog:Program} {w:World} {A:Around} {E:Value->Shared->Prop} {s:Shared} {K:j6} {x dx C f:Addr} {mA:Str->Option Value} {name:Str} {v:Value}
theorem XC{expr:Bool}{Q:Value->Shared->Prop}(X:K.In s.heap)(I:ObjM s.heap x dx C mA)(hg:PySem.W.plainGet K C name=true)(hh:PySem.W.hasDictIn K C=true)
  (ha:PySem.W.findIn K (.ref C) name=some none)(hv:mA name=some v)(hv':PySem.W.handedIn v=true)(h:Q v {s with toks:=s.toks+1}):
  wpAny (model prog w) A (getAttr (.ref x) name expr) Q E s:=by
 obtain⟨od,J,hl⟩:=I.look
 exact PySem.W.get_value X J (UT hg).1 (Zt hh ha rfl (by rw[hl,hv])) hv' h
theorem Uk{pl:Sem Bool}{Q:Value×List Value->Shared->Prop}(X:K.In s.heap)(I:ObjM s.heap x dx C mA)(hg:PySem.W.plainGet K C name=true)
  (hf:PySem.W.findIn K (.ref C) name=some (some (.ref f)))(ht:PySem.W.isFn K (.ref f)=true)(hv:mA name=none)(h:Q (.ref f,[.ref x]) s):
  wpAny (model prog w) A (getMethod (.ref x) name pl) Q E s:=by
 obtain⟨od,J,hl⟩:=I.look
 exact PySem.W.method_fn X J (UT hg).1 (UT hg).2 hf (Dn.mp ht) (by show (PySem.W.lookIn name od).map (·.isSome)=some false;rw[hl,hv];rfl) h
theorem Wr{ns:List Str}{Q:Unit->Shared->Prop}(X:K.In s.heap)(I:ObjM s.heap x dx C mA)
  (hs:PySem.W.findIn K (.ref C) "__setattr__"=some (some (.builtin "object.__setattr__")))(hp:PySem.W.plainOver K C=true)(ht:PySem.W.takerIn K C name=some none)(hh:PySem.W.hasDictIn K C=true)
  (hw:PySem.Within mA ns)(hsz:ns.length<=sizeLine)
  (h:∀h',ObjM h' x dx C (fun y=>if y=name then some v else mA y)->Heap.SameBut dx s.heap h'->Q () {s with heap:=h',toks:=s.toks+2}):
  wpAny (model prog w) A (setAttr (.ref x) name v) Q E s:=by
 obtain⟨od,J,hl⟩:=I.look
 refine PySem.W.set_plain X J hs (PySem.W.osa_open (s:={s with toks:=s.toks+1}) (r:=none) X J hp ht fun b=> ?_)
 obtain⟨cd,hc,hd'⟩:=PySem.W.any_some hh
 have hx:s.heap.get? x=some ⟨.ref C,some dx, .plain,#[]⟩:=I.obj
 refine e8 (l0 (e8 (e8 (US hx (e8 (PySem.W.Looks.here (s:={s with toks:=s.toks+1}) (PySem.W.looks_clsIn X hc) ?_))))))
 rw[hd']
 refine l0 (a:=some dx) (e8 (l0 (e8 ?_)))
 refine wpAny_nsSet1 (s:={s with toks:=s.toks+1}) I.ns fun h' hn2 hs2=> ?_
 obtain⟨oD,esD,epD,hoD,hdD,hcD⟩:=hn2.count (PySem.Within.cons name v hw)
 refine e8 (wpAny_lookBehind hoD (by rw[hdD];exact pastItsLine_dict (E7 hcD (by rw[List.length_cons];omega))) ?_)
 exact l0 (h _ ⟨(hs2.2 _ (D9 I.ne)).trans I.obj,hn2,I.ne⟩ hs2)
theorem TK{R:Result->Shared->Prop}{vs:List Value}{kw:List (Str×Value)}(X:K.In s.heap)(hm:PySem.W.makesIn K C=true)
  (hi:PySem.W.findIn K (.ref C) "__init__"=some (some (.ref f)))(hf:PySem.W.typeIn K (.ref f)=some (.type "function"))
  (h:codeAny (model prog w) (A.under (.builtin "type.__call__" ⟨.ref C::vs,kw⟩)) (.call (.ref f) ⟨.ref (s.heap.objs.size+1)::vs,kw⟩) (PySem.W.InitBack (s.heap.objs.size+1) R)
   {s with heap:=(s.heap.push PySem.W.emptyDict).push (PySem.W.instObj C s.heap.objs.size)}):
  codeAny (model prog w) A (.call (.ref C) ⟨vs,kw⟩) R s:=by
 obtain⟨hh,g,d,t,os⟩:=s
 exact PySem.W.make_core (PySem.W.makes_of X hm) (Zs X hi) (fun self=>PySem.W.bind_fn X self hf) (.inl rfl) h
end
def G0(f:Str)(v:V):List (Str×V)->List (Str×V)
 |[]=>[(f,v)]
 |(g,x)::r=>if g=f then (g,v)::r else (g,x)::G0 f v r
theorem Ey(f g:Str)(v:V):∀fs:List (Str×V),(G0 f v fs).lookup g=if g=f then some v else fs.lookup g
 |[]=>by
  show List.lookup g [(f,v)]=_
  by_cases h:g=f
  ·have hb:(g==f)=true:=Dn.mpr h
   simp only[List.lookup,hb,if_pos h]
  ·have hb:(g==f)=false:=NH.mpr h
   simp only[List.lookup,hb,if_neg h]
 |(k,x)::r=>by
  have ih:=Ey f g v r
  rw[show G0 f v ((k,x)::r)=(if k=f then (k,v)::r else (k,x)::G0 f v r) from rfl]
  by_cases hk:k=f
  ·rw[if_pos hk]
   by_cases h:g=k
   ·have hb:(g==k)=true:=Dn.mpr h
    simp only[List.lookup,hb,if_pos (h.trans hk)]
   ·have hb:(g==k)=false:=NH.mpr h
    simp only[List.lookup,hb,if_neg (fun e:g=f=>h (e.trans hk.symm))]
  ·rw[if_neg hk]
   by_cases h:g=k
   ·have hb:(g==k)=true:=Dn.mpr h
    simp only[List.lookup,hb,if_neg (fun e:g=f=>hk (h.symm.trans e))]
   ·have hb:(g==k)=false:=NH.mpr h
    simp only[List.lookup,hb]
    exact ih
theorem DI(f:Str)(v:V):∀fs:List (Str×V),f∈(G0 f v fs).map (·.1)/\∀g,g∈fs.map (·.1)->g∈(G0 f v fs).map (·.1)
 |[]=>⟨by simp [G0],fun g h=>by simp at h⟩
 |(k,x)::r=>by
  obtain⟨i1,i2⟩:=DI f v r
  rw[show G0 f v ((k,x)::r)=(if k=f then (k,v)::r else (k,x)::G0 f v r) from rfl]
  by_cases hk:k=f
  ·rw[if_pos hk]
   subst hk
   exact⟨by simp,fun g h=>by simpa using h⟩
  ·rw[if_neg hk]
   refine⟨?_,fun g h=> ?_⟩
   ·rw[List.map_cons]
    exact B1 _ i1
   ·rw[List.map_cons] at h⊢
    rcases C8.mp h with e|e
    ·exact C8.mpr (.inl e)
    ·exact B1 _ (i2 g e)
theorem Ez(f:Str)(v:V):∀fs:List (Str×V),(G0 f v fs).length<=fs.length+1
 |[]=>by simp [G0]
 |(k,x)::r=>by
  have ih:=Ez f v r
  rw[show G0 f v ((k,x)::r)=(if k=f then (k,v)::r else (k,x)::G0 f v r) from rfl]
  by_cases hk:k=f
  ·rw[if_pos hk,List.length_cons,List.length_cons];omega
  ·rw[if_neg hk,List.length_cons,List.length_cons];omega
theorem Ax.some_of{v:V}{o:Option Value}(r:Ax (some v) o):∃u,o=some u/\RelV v u:=by
 cases o with
 |none=>exact(show False from r).elim
 |some u=>exact⟨u,rfl,r⟩
theorem Ax.none_of{o:Option Value}(r:Ax none o):o=none:=by
 cases o with
 |none=>rfl
 |some u=>exact(show False from r).elim
theorem HS{v:V}{u:Value}(r:RelV v u):PySem.W.handedIn u=true:=by
 cases v with
 |non=>cases (show u=Value.none from r);rfl
 |bl b=>cases (show u=Value.bool b from r);rfl
 |int i=>obtain⟨t,e⟩:=(show ∃t,u=Value.int i t from r);cases e;rfl
 |str x=>obtain⟨t,e⟩:=(show ∃t,u=Value.str x t from r);cases e;rfl
 |byt b=>obtain⟨t,e⟩:=(show ∃t,u=Value.bytes b t from r);cases e;rfl
 |flt b=>obtain⟨t,e⟩:=(show ∃t,u=Value.float b t from r);cases e;rfl
 |ref a=>cases (show u=Value.ref a from r);rfl
 |ty n=>cases (show u=Value.type n from r);rfl
section
variable {P:Program} {w:World} {H H':Hp} {h h':Heap} {a C dx:Addr} {fs fs':List (Str×V)}
theorem EZ(hok:AZ P w H h)(e:H a=some (.ins C dx fs)):∃mA,ObjM h a dx C mA/\(∀f,Ax (fs.lookup f) (mA f))/\PySem.Within mA (fs.map (·.1))/\fs.length<=1000/\H dx=some (.own a):=by
 obtain⟨d,z,ne,ob,mA,n,r,q⟩:=(show D0 P w H h a (.ins C dx fs) from hok a _ e)
 exact⟨mA,⟨ob,n,ne⟩,r,q,z,d⟩
end
structure Cls(K:j6)(C:Addr):Prop where
 pg:PySem.W.plainGet K C Str.empty=true
 hd:PySem.W.hasDictIn K C=true
 po:PySem.W.plainOver K C=true
 sa:PySem.W.findIn K (.ref C) "__setattr__"=some (some (.builtin "object.__setattr__"))
theorem Cls.get{K:j6}{C:Addr}(c:Cls K C)(f:Str):PySem.W.plainGet K C f=true:=c.pg
def N8(K:j6)(C:Addr)(f:Str):Prop:=PySem.W.findIn K (.ref C) f=some none
theorem N8.taker{K:j6}{C:Addr}{f:Str}(n:N8 K C f):PySem.W.takerIn K C f=some none:=by
 unfold PySem.W.takerIn
 rw[show PySem.W.findIn K (.ref C) f=some none from n]
 rfl
structure Con(K:j6)(C:Addr)(f:Str)(v:V)(u:Value):Prop where
 at_:PySem.W.findIn K (.ref C) f=some (some u)
 rel:RelV v u
 get:PySem.W.specialIn K u "__get__"=some none
 cp:PySem.W.copiedNames.contains f=false
structure Meth(K:j6)(C:Addr)(m:Str)(f:Addr):Prop where
 at_:PySem.W.findIn K (.ref C) m=some (some (.ref f))
 fn:PySem.W.isFn K (.ref f)=true
 kp:PySem.W.keepIn K (.ref f)=true
section
variable {X:Cx} {c4:List (Addr×Obj)} {σ:St} {H:Hp} {s:Shared} {a C dx:Addr} {fs:List (Str×V)} {f:Str} {v:V} {A:Around} {E:Value->Shared->Prop}
theorem Nr{b:Bool}{Q:Value->Shared->Prop}(I:Inv X c4 σ H s)(e:H a=some (.ins C dx fs))(c:Cls X.K C)(n:N8 X.K C f)(l:fs.lookup f=some v)
  (h:∀u s',Inw X c4 σ H s'->RelV v u->Q u s'):wpAny (model X.prog X.w) A (getAttr (.ref a) f b) Q E s:=by
 obtain⟨mA,O,r,_,_,_⟩:=EZ I.hok e
 obtain⟨u,hu,ru⟩:=Ax.some_of (v:=v) (o:=mA f) (by rw[<-l];exact r f)
 exact XC I.kIn O (c.get f) c.hd n hu (HS ru) (h u _ (I.tok _) ru)
theorem FQ{m:Str}{g:Addr}{pl:Sem Bool}{Q:Value×List Value->Shared->Prop}(I:Inv X c4 σ H s)(e:H a=some (.ins C dx fs))(c:Cls X.K C)(k:Meth X.K C m g)(l:fs.lookup m=none)
  (h:Q (.ref g,[.ref a]) s):wpAny (model X.prog X.w) A (getMethod (.ref a) m pl) Q E s:=by
 obtain⟨mA,O,r,_,_,_⟩:=EZ I.hok e
 have hn:mA m=none:=Ax.none_of (by rw[<-l];exact r m)
 exact Uk I.kIn O (c.get m) k.at_ k.fn hn h
theorem MM{y:V}{u:Value}{Q:Unit->Shared->Prop}(I:Inv X c4 σ H s)(e:H a=some (.ins C dx fs))(c:Cls X.K C)(n:N8 X.K C f)(hl:fs.length<1000)(ry:RelV y u)
  (h:∀s',Inw X c4 σ (i8 H a (.ins C dx (G0 f y fs))) s'->Q () s'):wpAny (model X.prog X.w) A (setAttr (.ref a) f u) Q E s:=by
 obtain⟨mA,O,r,wi,_,ho⟩:=EZ I.hok e
 have hz:(fs.map (·.1)).length<=sizeLine:=by rw[i4,B9];omega
 refine Wr I.kIn O c.sa c.po n.taker c.hd wi hz fun h' O' sb=>h _ ?_
 have hd:∃o,h'.get? dx=some o:=let ⟨o,_,_,e',_⟩:=O'.ns;⟨o,e'⟩
 refine I.write (x:=a) (e:=dx) (by rw[e];exact True.intro) (.inr ho) (fun b q hb z=>(sb.2 b hb).trans z) hd ?_
 refine⟨by rw[g9 O.ne];exact ho,?_,O.ne,O'.obj,_,O'.ns,fun g=> ?_,fun g hg=> ?_⟩
 ·have:=Ez f y fs;omega
 ·show Ax ((G0 f y fs).lookup g) (if g=f then some u else mA g)
  rw[Ey]
  by_cases q:g=f
  ·rw[if_pos q,if_pos q];exact ry
  ·rw[if_neg q,if_neg q];exact r g
 ·by_cases q:g=f
  ·rw[q];exact(DI f y fs).1
  ·refine(DI f y fs).2 g (wi g fun z=>hg ?_)
   show (if g=f then some u else mA g)=none
   rw[if_neg q];exact z
theorem Inw.made(I:Inw X c4 σ H s):Inw X c4 σ (i8 (i8 H s.heap.objs.size (.own (s.heap.objs.size+1))) (s.heap.objs.size+1) (.ins C s.heap.objs.size []))
  {s with heap:=(s.heap.push PySem.W.emptyDict).push (PySem.W.instObj C s.heap.objs.size)}:=by
 have e1:(s.heap.push PySem.W.emptyDict).get? s.heap.objs.size=some PySem.W.emptyDict:=C7 s.heap rfl
 have e2:((s.heap.push PySem.W.emptyDict).push (PySem.W.instObj C s.heap.objs.size)).get? (s.heap.objs.size+1)=some (PySem.W.instObj C s.heap.objs.size):=by
  have:=C7 (s.heap.push PySem.W.emptyDict) (o:=PySem.W.instObj C s.heap.objs.size) rfl
  rwa [EG] at this
 have e3:(s.heap.push PySem.W.emptyDict).Ns s.heap.objs.size (fun _=>none):=⟨PySem.W.emptyDict,#[],_,e1,rfl,(fun e he=>absurd he (by simp)),fun _=>rfl⟩
 have I1:=I.laid (a:=s.heap.objs.size) (o:= .own (s.heap.objs.size+1)) (h':=s.heap.push PySem.W.emptyDict) (t':=s.toks) (fun b u q=>q0 _ q) (l8 _) ⟨_,e1⟩
 refine I1.laid (a:=s.heap.objs.size+1) (o:= .ins C s.heap.objs.size []) (t':=s.toks) (fun b u q=>q0 _ q) (EF (EG _ _)) ?_
 have ne:s.heap.objs.size≠s.heap.objs.size+1:=u9 (UR _)
 refine⟨by rw[g9 ne,c6],o8 _,ne,e2,fun _=>none,(Heap.Ns1.of_empty e3).at fun o q=>q0 _ q,fun _=>True.intro,fun y hy=>absurd rfl hy⟩
theorem PF{prog:Program}{w:World}{env:Env}{e:Expr}{f:Str}{pos:Pos}{s:Shared}{Q:Value->Shared->Prop}(hb:attributeBase e f env (eval e env)=eval e env)
  (h:wpAny (model prog w) A (eval e env) (fun o s₁=>wpAny (model prog w) A (getAttr o f true) Q E s₁) E s):wpAny (model prog w) A (eval (.Attribute e f pos) env) Q E s:=
 Attribute_any_ h (by rw[arm_eval_Attribute,hb])
end
def KI(K:j6)(ta:TE)(f:Str):TE:=fun σ H Q=>ta σ H fun x H1=>∃a C dx fs v,x= .ref a/\H1 a=some (.ins C dx fs)/\Cls K C/\N8 K C f/\fs.lookup f=some v/\Q v H1
def Qan(K:j6)(ta tv:TE)(f:Str):TS:=fun D σ H=>tv σ H fun y H1=>ta σ H1 fun x H2=>∃a C dx fs,x= .ref a/\H2 a=some (.ins C dx fs)/\Cls K C/\N8 K C f/\fs.length<1000/\
 D.nx σ (i8 H2 a (.ins C dx (G0 f y fs)))
section
variable {X:Cx} {o e value:Expr} {f:Str} {pos pos' tpos:Pos} {ta tv:TE}
theorem Ci(he:PE X e ta)(hb:attributeBase e f X.env (eval e X.env)=eval e X.env):PE X (.Attribute e f pos) (KI X.K ta f):=by
 intro c4 s σ H Q I h
 refine PF hb (G7 (he c4 s σ H _ I h) fun u s1 ⟨x,H1,I1,rx,a,C,dx,fs,v,ex,ea,c,n,l,q⟩=> ?_)
 subst ex
 obtain rfl:u=Value.ref a:=rx
 exact Nr I1 ea c n l fun u' s2 I2 ru=>⟨v,H1,I2,ru,q⟩
theorem DF(ha:PE X o ta)(hv:PE X value tv)(hs:swapsWith value (some (.Attribute o f pos')) pos.line X.env=pure false):PS X (.Assign [.Attribute o f pos'] value pos) (Qan X.K ta tv f):=by
 intro c4 s σ H D I h
 refine Zr (G7 (hv c4 s σ H _ I h) fun u s1 ⟨y,H1,I1,ry,q⟩=>G7 (ha c4 s1 σ H1 _ I1 q) fun ov s2 ⟨x,H2,I2,rx,a,C,dx,fs,ex,ea,c,n,l,q2⟩=> ?_) hs
 subst ex
 obtain rfl:ov=Value.ref a:=rx
 exact MM I2 ea c n l ry fun s3 I3=>⟨σ,_,I3,q2⟩
end
section
variable {X:Cx} {c4:List (Addr×Obj)} {σ:St} {H:Hp} {s:Shared} {A:Around} {E:Value->Shared->Prop} {Q:Value->Shared->Prop} {c:Value} {b:Bool}
inductive TyOf (K:j6) (H:Hp):V->Value->Prop where
 |non:TyOf K H .non (.type "NoneType")
 |bl (x:Bool):TyOf K H (.bl x) (.type "bool")
 |int (i:Int):TyOf K H (.int i) (.type "int")
 |str (x:Str):TyOf K H (.str x) (.type "str")
 |flt (x:UInt64):TyOf K H (.flt x) (.type "float")
 |lst {a:Addr} {xs:List V} (e:H a=some (.lst xs)):TyOf K H (.ref a) (.type "list")
 |frz {a:Addr} {o:Obj} {xs:List V} (e:H a=some (.frz o (.lst xs))):TyOf K H (.ref a) (.type "list")
 |tup {a:Addr} {xs:List V} (e:H a=some (.tup xs)):TyOf K H (.ref a) (.type "tuple")
 |dK {a:Addr} {kvs:List (A0×V)} (e:H a=some (.dK kvs)):TyOf K H (.ref a) (.type "dict")
 |dT {a:Addr} {kvs:List (List A0×V)} (e:H a=some (.dT kvs)):TyOf K H (.ref a) (.type "dict")
 |ins {a C dx:Addr} {fs:List (Str×V)} (e:H a=some (.ins C dx fs)) (cl:Cls K C) (ha:PySem.W.findIn K (.ref C) "__class__"=some (some (.builtin "object.__class__")))
   (hn:PySem.W.specialIn K (.builtin "object.__class__") "__get__"=some (some (.builtin "getset_descriptor.__get__"))) (htk:PySem.W.takesIn K (.builtin "object.__class__")=some true)
   (hm:PySem.W.mroIn K C (.type "object")=some true):TyOf K H (.ref a) (.ref C)
theorem HP{x:V}{u t:Value}(I:Inv X c4 σ H s)(rx:RelV x u)(ty:TyOf X.K H x t)(e:PySem.W.kitOne X.K t c=some b)(h:∀tk,Q (.bool b) {s with toks:=tk}):
  wpAny (model X.prog X.w) A (call (.builtin "isinstance") [u,c]) Q E s:=by
 cases ty with
 |non=>cases (show u=Value.none from rx);exact AR PySem.W.kitx_none I.kIn True.intro e (fun z=>nomatch z) h
 |bl y=>cases (show u=Value.bool y from rx);exact AR PySem.W.kitx_bool I.kIn True.intro e (fun z=>nomatch z) h
 |int i=>obtain⟨t,q⟩:=(show ∃t,u=Value.int i t from rx);cases q;exact AR PySem.W.kitx_int I.kIn True.intro e (fun z=>nomatch z) h
 |str y=>obtain⟨t,q⟩:=(show ∃t,u=Value.str y t from rx);cases q;exact AR PySem.W.kitx_str I.kIn True.intro e (fun z=>nomatch z) h
 |flt y=>obtain⟨t,q⟩:=(show ∃t,u=Value.float y t from rx);cases q;exact AR PySem.W.kitx_float I.kIn True.intro e (fun z=>nomatch z) h
 | @lst a xs ea=>
  cases (show u=Value.ref a from rx)
  obtain⟨_,_,n,_,h1⟩:=(show D0 X.prog X.w H s.heap a (.lst xs) from I.hok a _ ea)
  exact AR Zq I.kIn ⟨_,h1,rfl⟩ e (fun z=>nomatch z) h
 | @frz a ob xs ea=>
  cases (show u=Value.ref a from rx)
  obtain⟨_,_,_,n,_,h1⟩:=(show D0 X.prog X.w H s.heap a (.frz ob (.lst xs)) from I.hok a _ ea)
  exact AR Zq I.kIn ⟨_,h1,rfl⟩ e (fun z=>nomatch z) h
 | @tup a xs ea=>
  cases (show u=Value.ref a from rx)
  obtain⟨_,_,_,p⟩:=(show D0 X.prog X.w H s.heap a (.tup xs) from I.hok a _ ea)
  obtain⟨o,h1,h2,_⟩:=p
  exact AR PySem.W.kitx_tuple I.kIn ⟨o,h1,h2⟩ e (fun z=>nomatch z) h
 | @dK a kvs ea=>
  cases (show u=Value.ref a from rx)
  obtain⟨_,_,vs,_,p⟩:=(show D0 X.prog X.w H s.heap a (.dK kvs) from I.hok a _ ea)
  obtain⟨o,es,ep,h1,h2,_⟩:=p
  exact AR Zp I.kIn ⟨o,h1,h2.1⟩ e (fun z=>nomatch z) h
 | @dT a kvs ea=>
  cases (show u=Value.ref a from rx)
  obtain⟨_,_,xs,_,o,es,ep,h1,h2,_⟩:=(show D0 X.prog X.w H s.heap a (.dT kvs) from I.hok a _ ea)
  exact AR Zp I.kIn ⟨o,h1,h2.1⟩ e (fun z=>nomatch z) h
 | @ins a C dx fs ea cl ha hn htk hm=>
  cases (show u=Value.ref a from rx)
  obtain⟨mA,O,_⟩:=EZ I.hok ea
  obtain⟨od,J,_⟩:=O.look
  exact AR (PySem.W.kitx_own (cl.get _) cl.hd ha hn htk hm) I.kIn J e (fun z=>nomatch z) h
end
structure Room(k:Nat)(A:Around):Prop where
 hd:A.handled=none
 dp:A.depth+3*k+5<recursionLimit
 un:A.units+16*k+200<cLine
theorem Room.mono{j k:Nat}{A:Around}(r:Room k A)(h:j<=k):Room j A:=⟨r.hd,by have:=r.dp;omega,by have:=r.un;omega⟩
theorem Room.deeper{k:Nat}{A:Around}(r:Room (k+1) A)(env:Env):Room k (A.deeper env):=
 ⟨r.hd,by have:=r.dp;show A.depth+1+3*k+5<_;omega,by have:=r.un;show A.units+3+16*k+200<_;omega⟩
theorem Nb{A:Around}{C:Addr}{us:List Value}{kw:List (Str×Value)}:(A.under (.builtin "type.__call__" ⟨.ref C::us,kw⟩)).depth=A.depth+1:=by
 first|rfl|simp [Around.under,Code.weight,Code.isCreation,Code.isGuard,Code.isCaller,Code.frames,Code.isFrame,guardIds]
theorem Na{A:Around}{C:Addr}{us:List Value}{kw:List (Str×Value)}:(A.under (.builtin "type.__call__" ⟨.ref C::us,kw⟩)).units=A.units+1:=by
 first|rfl|simp [Around.under,Code.cUnits,Code.frames,Code.isFrame]
theorem Room.make{k:Nat}{A:Around}(r:Room (k+1) A)(C:Addr)(us:List Value)(kw:List (Str×Value)):Room k (A.under (.builtin "type.__call__" ⟨.ref C::us,kw⟩)):=
 ⟨r.hd,by have:=r.dp;rw[Nb];omega,by have:=r.un;rw[Na];omega⟩
theorem Room.depth{k:Nat}{A:Around}(r:Room k A):A.depth<recursionLimit:=by have:=r.dp;omega
theorem Room.units{k:Nat}{A:Around}(r:Room k A):A.units+64<cLine:=by have:=r.un;omega
def GO:TA:=fun _ H Q=>Q [] H
def Fp(ta:TE)(tr:TA):TA:=fun σ H Q=>ta σ H fun x H1=>tr σ H1 fun xs H2=>Q (x::xs) H2
section
variable {X:Cx} {e:Expr} {es:List Expr} {te:TE} {t:TA} {pos:Pos}
theorem e6:PA X [] GO:=fun _ _ _ _ H Q I h=>Mf ⟨[],H,I, .nil,h⟩
theorem c5(ha:PE X e te)(hr:PA X es t)(hs:starEach (e::es) X.env=(false,eval e X.env)::starEach es X.env:=by rfl):PA X (e::es) (Fp te t):=by
 intro pos c4 s σ H Q I h
 rw[hs]
 show wpAny _ _ (spliced ((false,eval e X.env)::backTo pos (starEach es X.env))) _ _ s
 refine Im (G7 (ha c4 s σ H _ I h) fun u s1 ⟨x,H1,I1,r1,q1⟩=> ?_)
 exact G7 (hr pos c4 s1 σ H1 _ I1 q1) fun us s2 ⟨xs,H2,I2,r2,q2⟩=>⟨x::xs,H2,I2, .cons r1 r2,q2⟩
def Wi(t:TA):TE:=fun σ H Q=>t σ H fun xs H1=>xs.length<=sizeLine/\∀p,H1 p=none->Q (.ref p) (i8 H1 p (.tup xs))
def KH(t:TA):TE:=fun σ H Q=>t σ H fun xs H1=>xs.length<=sizeLine/\∀p,H1 p=none->Q (.ref p) (i8 H1 p (.lst xs))
theorem X0{x1}(h:PA X es t):PE X (.Tuple es x1 pos) (Wi t):=by
 intro c4 s σ H Q I hq
 refine wpAny_Tuple_spliced (G7 (h pos c4 s σ H _ I hq) fun us s1 ⟨xs,H1,I1,r,z,q⟩=>⟨by rw[<-r.length];exact z,?_⟩)
 have hf:H1 s1.heap.objs.size=none:=I1.hok.fresh (l8 _)
 refine⟨.ref s1.heap.objs.size,i8 H1 s1.heap.objs.size (.tup xs),I1.laid (t':=s1.toks) (fun b u e=>q0 _ e) (l8 _) ?_,rfl,q _ hf⟩
 exact⟨z,us,r,⟨_,C7 _ rfl,rfl,_,rfl⟩⟩
theorem u6(h:PA X es t):PE X (.List es pos) (KH t):=by
 intro c4 s σ H Q I hq
 refine wpAny_List_spliced (G7 (h pos c4 s σ H _ I hq) fun us s1 ⟨xs,H1,I1,r,z,q⟩=>⟨by rw[<-r.length];exact z,?_⟩)
 have hf:H1 s1.heap.objs.size=none:=I1.hok.fresh (l8 _)
 refine⟨.ref s1.heap.objs.size,i8 H1 s1.heap.objs.size (.lst xs),I1.laid (t':=s1.toks) (fun b u e=>q0 _ e) (l8 _) ?_,rfl,q _ hf⟩
 exact⟨z,us,0,r,C7 _ rfl⟩
end
abbrev Sp:=List V->Hp->VK->XK->Prop
abbrev Mu:=List Env->Hp->Shared->XK->Value->Shared->Prop
structure Env0w(P:Program)(w:World)(K:j6)(mg:Str->Option Value)(base:Heap)(A:Around)(outer:List Env)(s:Shared)(H:Hp):Prop where
 frames:A.frames=some outer
 mod:Mod K mg base
 bs:∀b o,base.get? b=some o->s.heap.get? b=some o/\H b=none
 bsz:base.objs.size<=s.heap.objs.size
 funs:s.heap.FunFrames base outer
 frf:∀b∈Jn outer,H b=none
 hok:AZ P w H s.heap
 bare:AllBare s.gens
structure Env0(P:Program)(w:World)(K:j6)(mg:Str->Option Value)(base:Heap)(A:Around)(outer:List Env)(s:Shared)(H:Hp):Prop extends Env0w P w K mg base A outer s H where
 pos:0<s.toks
def CE(outer:List Env)(P:Program)(w:World)(H:Hp)(s:Shared)(Q:VK)(u:Value)(s':Shared):Prop:=
 ∃v H',s'.os=s.os/\AllBare s'.gens/\Un (Jn outer) [] H H' s.heap s'.heap/\AZ P w H' s'.heap/\RelV v u/\Q v H'
def CR(CX:Mu)(outer:List Env)(P:Program)(w:World)(H:Hp)(s:Shared)(Q:VK)(E:XK)(r:Result)(s':Shared):Prop:=
 match r with
 | .ok (.ret u)=>CE outer P w H s Q u s'
 | .ok _=>False
 | .error e=>CX outer H s E e s'
structure FnOk(P:Program)(w:World)(K:j6)(mg:Str->Option Value)(base:Heap)(CX:Mu)(k:Nat)(f:Addr)(fd:FuncData)(ps:List Str)(sp:Sp):Prop where
 len:∀vs H Q E,sp vs H Q E->vs.length=ps.length
 run:∀(A:Around) (outer:List Env) (s:Shared) (H:Hp) (args:Args) (us:List Value) (vs:List V) (Q:VK) (E:XK),Room k A->Env0 P w K mg base A outer s H->BindsTo s fd args (ps.zip us)->u3 vs us->sp vs H Q E->
  codeAny (model P w) A (.call (.ref f) args) (CR CX outer P w H s Q E) s
structure FnOkL(P:Program)(w:World)(K:j6)(mg:Str->Option Value)(base:Heap)(CX:Mu)(k:Nat)(f:Addr)(fd:FuncData)(ps:List Str)(sp:Sp):Prop where
 len:∀vs H Q E,sp vs H Q E->vs.length=ps.length
 run:∀(A:Around) (outer:List Env) (s:Shared) (H:Hp) (args:Args) (us:List Value) (vs:List V) (Q:VK) (E:XK),Room k A->Env0w P w K mg base A outer s H->BindsTo s fd args (ps.zip us)->u3 vs us->sp vs H Q E->
  codeAny (model P w) A (.call (.ref f) args) (CR CX outer P w H s Q E) s
theorem Env0.make{P:Program}{w:World}{K:j6}{mg:Str->Option Value}{base:Heap}{A:Around}{outer:List Env}{s:Shared}{H:Hp}(e:Env0 P w K mg base A outer s H)(C:Addr)(us:List Value)(kw:List (Str×Value)):
  Env0 P w K mg base (A.under (.builtin "type.__call__" ⟨.ref C::us,kw⟩)) outer s H:=⟨⟨by first|exact e.frames|(simpa [Around.under,Code.envs,Code.isFrame,pushEnvs] using e.frames),e.mod,e.bs,e.bsz,e.funs,e.frf,e.hok,e.bare⟩,e.pos⟩
section
variable {X:Cx} {c4:List (Addr×Obj)} {σ:St} {H:Hp} {s s':Shared}
theorem Inv.env0(I:Inv X c4 σ H s):Env0 X.prog X.w X.K X.mg X.base X.A X.stack s H:=
 ⟨⟨I.ok.frames,I.ok.mod,I.bs,E7 I.ok.bsz I.sz,I.stack,I.stkFree,I.hok,I.bare⟩,I.pos⟩
theorem Inw.after{Q:VK}{u:Value}(I:Inw X c4 σ H s)(h:CE X.stack X.prog X.w H s Q u s'):EP X c4 σ Q u s':=by
 obtain⟨v,H',os,bare,un,hok,r,q⟩:=h
 obtain⟨hh,g,d,t,os'⟩:=s'
 obtain rfl:os'=s.os:=os
 exact⟨v,H',I.call (h':=hh) (g':=g) (d':=d) (t':=t) (ch:=[]) un hok bare (fun b z=>absurd z (by simp)),r,q⟩
end
def KM(sp:Sp)(dvs:List V)(E:XK)(t:TA):TE:=fun σ H Q=>t σ H fun vs H1=>sp (vs++dvs) H1 Q E
def Oz(C:Addr)(m:Str)(sp:Sp)(dvs:List V)(E:XK)(ta:TE)(t:TA):TE:=fun σ H Q=>ta σ H fun x H1=>∃a dx fs,x= .ref a/\H1 a=some (.ins C dx fs)/\fs.lookup m=none/\
 t σ H1 fun vs H2=>sp (x::(vs++dvs)) H2 Q E
def Sh(C:Addr)(sp:Sp)(dvs:List V)(E:XK)(t:TA):TE:=fun σ H Q=>t σ H fun vs H1=>∀x dx,H1 x=none->H1 dx=none->dx≠x->
 sp (.ref x::(vs++dvs)) (i8 (i8 H1 dx (.own x)) x (.ins C dx [])) (fun v H2=>v= .non/\Q (.ref x) H2) E
def Binds(K:j6)(fd:FuncData)(ps:List Str)(ds:List Value):Prop:=
 ∀(s:Shared) (us:List Value),K.In s.heap->(us++ds).length=ps.length->BindsTo s fd ⟨us,[]⟩ (ps.zip (us++ds))
theorem Binds.all{K:j6}{fd:FuncData}{ps:List Str}(h:∀us:List Value,us.length=ps.length->bindArgs fd ⟨us,[]⟩=pure (ps.zip us)):Binds K fd ps []:=fun s us _ hl=>by
 rw[List.append_nil] at hl⊢
 exact .of_eq (h us hl)
def BE(CX:Mu)(X:Cx)(E:XK):Prop:=∀(c4:List (Addr×Obj)) (σ:St) (H:Hp) (s:Shared) (e:Value) (s':Shared),Inv X c4 σ H s->CX X.stack H s E e s'->X.xe e s'
section
variable {X:Cx} {CX:Mu} {k:Nat} {f C:Addr} {fd:FuncData} {ps:List Str} {sp:Sp} {dvs:List V} {ds:List Value} {E:XK} {x m:Str} {p pos apos:Pos} {e o:Expr} {es:List Expr} {ta:TE} {t:TA}
theorem MS{c4:List (Addr×Obj)}{σ:St}{H:Hp}{s:Shared}{Q:VK}{us:List Value}{vs:List V}(F:FnOk X.prog X.w X.K X.mg X.base CX k f fd ps sp)(hr:Room k X.A)(hb:Binds X.K fd ps ds)(hd:u3 dvs ds)(hx:BE CX X E)
  (I:Inv X c4 σ H s)(r:u3 vs us)(h:sp (vs++dvs) H Q E):wpAny (model X.prog X.w) X.A (call (.ref f) us) (EP X c4 σ Q) X.xe s:=by
 have r2:u3 (vs++dvs) (us++ds):=r.append hd
 have hl:(us++ds).length=ps.length:=by rw[<-r2.length];exact F.len _ _ _ _ h
 refine Dm (Dk (F.run X.A X.stack s H ⟨us,[]⟩ (us++ds) (vs++dvs) Q E hr I.env0 (hb s us I.kIn hl) r2 h) fun r s' hq=> ?_)
 cases r with
 |error e=>exact hx c4 σ H s e s' I hq
 |ok fl=>
  cases fl with
  |ret u=>exact I.after hq
  |next=>exact False.elim hq
  |brk=>exact False.elim hq
  |cont=>exact False.elim hq
theorem j7(F:FnOk X.prog X.w X.K X.mg X.base CX k f fd ps sp)(hr:Room k X.A)(hg:Gl X x)(hm:X.mg x=some (.ref f))(hk:PySem.W.keepIn X.K (.ref f)=true)(hb:Binds X.K fd ps ds)(hd:u3 dvs ds)(hx:BE CX X E)
  (ha:PA X (e::es) t)(Jj:(x==("__debug__":Str))=false:=by decide)(he:starEach (e::es) X.env=(false,eval e X.env)::starEach es X.env:=by rfl)(Fb:(backTo pos (starEach es X.env)).any (·.1)=false:=by rfl):
  PE X (.Call (.Name x p) (e::es) [] pos) (KM sp dvs E t):=by
 intro c4 s σ H Q I h
 refine Gf (AE I hg hm ?_ Jj)
 refine Il (h₀:=X.base) I.ok.mod.kin hk (G7 (ha pos c4 s σ H _ I h) fun us s1 ⟨vs,H1,I1,r,q⟩=>⟨I1.kIn,?_⟩) he Fb
 exact MS F hr hb hd hx I1 r q
theorem Z3{pl:Sem Bool}(he:PE X o ta)(c:Cls X.K C)(hm:Meth X.K C m f)(F:FnOk X.prog X.w X.K X.mg X.base CX k f fd ps sp)(hr:Room k X.A)(hb:Binds X.K fd ps ds)(hd:u3 dvs ds)(hx:BE CX X E)(ha:PA X (e::es) t)
  (Mr:starEach (e::es) X.env=(false,eval e X.env)::starEach es X.env:=by rfl)(Fb:(backTo pos (starEach es X.env)).any (·.1)=false:=by rfl)
  (ht:eval (.Call (.Attribute o m apos) (e::es) [] pos) X.env=(do
   let ov<-eval o X.env
   standAt apos.atName
   let (f,first)<-holding [ov] (getMethod ov m pl)
   callWith pos f first (backTo pos (starEach (e::es) X.env)) (backToKw pos (keywordEach [] X.env))):=by rfl):
  PE X (.Call (.Attribute o m apos) (e::es) [] pos) (Oz C m sp dvs E ta t):=by
 intro c4 s σ H Q I h
 refine Zo (pl:=pl) (G7 (he c4 s σ H _ I h) fun u s1 ⟨x,H1,I1,rx,a,dx,fs,ex,ea,l,q⟩=> ?_) ht
 subst ex
 obtain rfl:u=Value.ref a:=rx
 refine FQ I1 ea c hm l ?_
 refine Il (first:=[.ref a]) (h₀:=X.base) I.ok.mod.kin hm.kp (G7 (ha pos c4 s1 σ H1 _ I1 q) fun us s2 ⟨vs,H2,I2,r,q2⟩=>⟨I2.kIn,?_⟩) Mr Fb
 exact MS (us:= .ref a::us) (vs:= .ref a::vs) F hr hb hd hx I2 (.cons rfl r) q2
theorem U7{pl:Sem Bool}(he:PE X o ta)(c:Cls X.K C)(hm:Meth X.K C m f)(F:FnOk X.prog X.w X.K X.mg X.base CX k f fd ps sp)(hr:Room k X.A)(hb:Binds X.K fd ps ds)(hd:u3 dvs ds)(hx:BE CX X E)
  (ht:eval (.Call (.Attribute o m apos) [] [] pos) X.env=(do
   let ov<-eval o X.env
   standAt apos.atName
   let (f,first)<-holding [ov] (getMethod ov m pl)
   callWith pos f first (backTo pos (starEach [] X.env)) (backToKw pos (keywordEach [] X.env))):=by rfl):
  PE X (.Call (.Attribute o m apos) [] [] pos) (Oz C m sp dvs E ta GO):=by
 intro c4 s σ H Q I h
 refine Zo (pl:=pl) (G7 (he c4 s σ H _ I h) fun u s1 ⟨x,H1,I1,rx,a,dx,fs,ex,ea,l,q⟩=> ?_) ht
 subst ex
 obtain rfl:u=Value.ref a:=rx
 refine FQ I1 ea c hm l ?_
 exact PySem.W.callWith_K0 (first:=[.ref a]) I1.kIn hm.kp (MS (us:=[.ref a]) (vs:=[.ref a]) F hr hb hd hx I1 (.cons rfl .nil) q)
structure Mk(K:j6)(C f:Addr):Prop where
 makes:PySem.W.makesIn K C=true
 init:PySem.W.findIn K (.ref C) "__init__"=some (some (.ref f))
 fn:PySem.W.isFn K (.ref f)=true
 kp:PySem.W.keepIn K (.ref C)=true
theorem SY{c4:List (Addr×Obj)}{σ:St}{H:Hp}{s:Shared}{Q:VK}{us:List Value}{vs:List V}(M:Mk X.K C f)(F:FnOk X.prog X.w X.K X.mg X.base CX k f fd ps sp)(hr:Room (k+1) X.A)(hb:Binds X.K fd ps ds)(hd:u3 dvs ds)
  (hx:BE CX X E)(I:Inv X c4 σ H s)(r:u3 vs us)
  (h:∀x dx,H x=none->H dx=none->dx≠x->sp (.ref x::(vs++dvs)) (i8 (i8 H dx (.own x)) x (.ins C dx [])) (fun v H2=>v= .non/\Q (.ref x) H2) E):
  wpAny (model X.prog X.w) X.A (call (.ref C) us) (EP X c4 σ Q) X.xe s:=by
 have hq:=h (s.heap.objs.size+1) s.heap.objs.size (I.hok.fresh (Cc _)) (I.hok.fresh (l8 _)) (u9 (UR _))
 have I2:Inv X c4 σ _ _:=⟨Inw.made (C:=C) I.toInw,I.pos⟩
 have r2:u3 (V.ref (s.heap.objs.size+1)::(vs++dvs)) (Value.ref (s.heap.objs.size+1)::(us++ds)):= .cons rfl (r.append hd)
 have hl:(Value.ref (s.heap.objs.size+1)::us++ds).length=ps.length:=by
  have e:=r2.length
  rw[F.len _ _ _ _ hq] at e
  exact e.symm
 refine Dm (TK (f:=f) I.kIn M.makes M.init (Dn.mp M.fn) (Dk (F.run _ X.stack _ _ ⟨Value.ref (s.heap.objs.size+1)::us,[]⟩ (Value.ref (s.heap.objs.size+1)::(us++ds)) _ _ E (hr.make C us [])
  (I2.env0.make C us []) (hb _ (Value.ref (s.heap.objs.size+1)::us) I2.kIn hl) r2 hq) fun r s' hq'=> ?_))
 cases r with
 |error e=>exact hx c4 σ _ _ e s' I2 hq'
 |ok fl=>
  cases fl with
  |ret u=>
   obtain⟨v,H',I3,rv,ev,q3⟩:=I2.after hq'
   subst ev
   exact⟨rv,⟨V.ref (s.heap.objs.size+1),H',I3,rfl,q3⟩⟩
  |next=>exact False.elim hq'
  |brk=>exact False.elim hq'
  |cont=>exact False.elim hq'
theorem IV(M:Mk X.K C f)(F:FnOk X.prog X.w X.K X.mg X.base CX k f fd ps sp)(hr:Room (k+1) X.A)(hg:Gl X x)(hm:X.mg x=some (.ref C))(hb:Binds X.K fd ps ds)(hd:u3 dvs ds)(hx:BE CX X E)
  (ha:PA X (e::es) t)(Jj:(x==("__debug__":Str))=false:=by decide)(he:starEach (e::es) X.env=(false,eval e X.env)::starEach es X.env:=by rfl)(Fb:(backTo pos (starEach es X.env)).any (·.1)=false:=by rfl):
  PE X (.Call (.Name x p) (e::es) [] pos) (Sh C sp dvs E t):=by
 intro c4 s σ H Q I h
 refine Gf (AE I hg hm ?_ Jj)
 refine Il (h₀:=X.base) I.ok.mod.kin M.kp (G7 (ha pos c4 s σ H _ I h) fun us s1 ⟨vs,H1,I1,r,q⟩=>⟨I1.kIn,?_⟩) he Fb
 exact SY M F hr hb hd hx I1 r q
end
def PK(X:Cx)(kws:List Keyword)(t:TA):Prop:=
 ∀(pos:Pos) (c4:List (Addr×Obj)) (s:Shared) (σ:St) (H:Hp) (Q:List V->Hp->Prop),Inv X c4 σ H s->t σ H Q->wpAny (model X.prog X.w) X.A (evalAll ((backToKw pos (keywordEach kws X.env)).map (·.2))) (AP X c4 σ Q) X.xe s
section
variable {X:Cx} {CX:Mu} {k:Nat} {f C:Addr} {fd:FuncData} {ps ks:List Str} {sp:Sp} {E:XK} {x m:Str} {p pos apos kpos:Pos} {e o:Expr} {es:List Expr} {kws:List Keyword} {te ta:TE} {t tk:TA} {nm:Option Str}
theorem Tj:PK X [] GO:=fun _ _ _ _ H Q I h=>wpAny_evalAll_nil ⟨[],H,I, .nil,h⟩
structure KBinds(K:j6)(fd:FuncData)(ps ks:List Str)(g:List Value->List Value->List Value)(gV:List V->List V->List V):Prop where
 to:∀(s:Shared) (us ws:List Value),K.In s.heap->(g us ws).length=ps.length->BindsTo s fd ⟨us,ks.zip ws⟩ (ps.zip (g us ws))
 rel:∀{vs:List V} {us:List Value} {zs:List V} {ws:List Value},u3 vs us->u3 zs ws->u3 (gV vs zs) (g us ws)
variable {g:List Value->List Value->List Value} {gV:List V->List V->List V}
end
structure FnScope(N P:List Str)(sc:Scope):Prop where
 kind:sc.kind= .function
 co:sc.isCoroutine=false
 gen:sc.isGenerator=false
 nd:N.Nodup
 pre:N.take P.length=P
 par:∀x∈P,sc.names.lookup x=some .local\/sc.names.lookup x=some .cell
 nofree:∀y∈sc.names,y.2≠ .free
theorem Ib{kindOf:Str->Option NameKind}{x:Str}:∀{binds:List (Str×Value)} {m:Str->Option Value},(∀v,(x,v)∉binds)->bindL kindOf binds m x=m x
 |[],_,_=>rfl
 |(n,v)::r,m,h=>by
  unfold bindL
  rw[Ib fun w hw=>h w (B1 _ hw)]
  split
  ·have:x≠n:=by rintro rfl;exact h v A5
   simp [this]
  ·rfl
theorem Ie{kindOf:Str->Option NameKind}{x:Str}:∀{binds:List (Str×Value)} {m:Str->Option Value},(∀v,(x,v)∉binds)->bindC kindOf binds m x=m x
 |[],_,_=>rfl
 |(n,v)::r,m,h=>by
  unfold bindC
  rw[Ie fun w hw=>h w (B1 _ hw)]
  split
  ·rfl
  ·have:x≠n:=by rintro rfl;exact h v A5
   simp [this]
theorem Ic{kindOf:Str->Option NameKind}{x:Str}{v:Value}:∀{P:List Str} {vs:List Value} {i:Nat} {m:Str->Option Value},P.Nodup->P[i]? =some x->vs[i]? =some v->kindOf x=some .local->
  bindL kindOf (P.zip vs) m x=some v
 |[],_,_,_,_,h,_,_=>by simp at h
 |_::_,[],_,_,_,_,h,_=>by simp at h
 |p::P,w::vs,0,m,nd,h1,h2,hk=>by
  simp at h1 h2;subst h1;subst h2
  show bindL kindOf ((p,w)::P.zip vs) m p=_
  unfold bindL
  rw[Ib fun v hv=>(O4.mp nd).1 (Me hv).1,if_pos hk]
  simp
 |p::P,w::vs,i+1,m,nd,h1,h2,hk=>by
  show bindL kindOf ((p,w)::P.zip vs) m x=_
  unfold bindL
  exact Ic (i:=i) (O4.mp nd).2 (by simpa using h1) (by simpa using h2) hk
theorem Ig{kindOf:Str->Option NameKind}{x:Str}{v:Value}:∀{P:List Str} {vs:List Value} {i:Nat} {m:Str->Option Value},P.Nodup->P[i]? =some x->vs[i]? =some v->kindOf x≠some .local->
  bindC kindOf (P.zip vs) m x=some v
 |[],_,_,_,_,h,_,_=>by simp at h
 |_::_,[],_,_,_,_,h,_=>by simp at h
 |p::P,w::vs,0,m,nd,h1,h2,hk=>by
  simp at h1 h2;subst h1;subst h2
  show bindC kindOf ((p,w)::P.zip vs) m p=_
  unfold bindC
  rw[Ie fun v hv=>(O4.mp nd).1 (Me hv).1,if_neg hk]
  simp
 |p::P,w::vs,i+1,m,nd,h1,h2,hk=>by
  show bindC kindOf ((p,w)::P.zip vs) m x=_
  unfold bindC
  exact Ig (i:=i) (O4.mp nd).2 (by simpa using h1) (by simpa using h2) hk
def start(N:List Str)(vs:List V):St:=vs.map some++List.replicate (N.length-vs.length) none
def X7(CX:Mu)(P:Program)(w:World)(K:j6)(mg:Str->Option Value)(base:Heap)(N:List Str)(qual:Str)(scope:Scope)(f:Addr)(cd:Value)(A:Around)(outer:List Env)(s:Shared)(H:Hp)(E:XK):Cx where
 prog:=P
 w:=w
 K:=K
 mg:=mg
 base:=base
 A:=A.deeper (envOfC qual scope s.heap.objs.size f cd)
 N:=N
 s₀:=s
 H₀:=H
 env:=envOfC qual scope s.heap.objs.size f cd
 outer:=outer
 stack:=envOfC qual scope s.heap.objs.size f cd::outer
 ex:=[]
 calm:=true
 fn:=fun _=>true
 pn:=[]
 xe:=fun e s'=>wpAny (model P w) (A.deeper (envOfC qual scope s.heap.objs.size f cd)) (leaving (envOfC qual scope s.heap.objs.size f cd) e) (fun _ s''=>CX outer H s E e s'') (fun e' s''=>CX outer H s E e' s'') s'
theorem LY{sc:Scope}{n:Nat}{x:Str}(h:sc.names.lookup x=some .cell):∃c,(cellsFrom n sc.names []).lookup x=some c:=by
 have q:=PN sc.names n [] (.inl h)
 exact Zn.mp q
theorem DK{CX:Mu}{P:Program}{w:World}{K:j6}{mg:Str->Option Value}{base:Heap}{N ps:List Str}{qual:Str}{scope:Scope}{f:Addr}{cd:Value}{A:Around}{outer:List Env}{s s1:Shared}{H:Hp}{E:XK}{us:List Value}{vs:List V}
  (S:FnScope N ps scope)(hd:A.handled=none)(e0:Env0w P w K mg base A outer s H)(hl:vs.length=ps.length)(r:u3 vs us)
  (x:InCallC s s.heap.objs.size (bindL (envOfC qual scope s.heap.objs.size f cd).kindOf (ps.zip us) fun _=>none) (cellsFrom (s.heap.objs.size+1) scope.names []) (bindC (envOfC qual scope s.heap.objs.size f cd).kindOf (ps.zip us) fun _=>none) s1):
  Inw (X7 CX P w K mg base N qual scope f cd A outer s H E) [] (start N vs) H s1:=by
 have Fb:ps.length<=N.length:=by have:=congrArg List.length S.pre;rw[A4] at this;omega
 obtain⟨h1,tk,rfl,hk⟩:=x.done
 have noA:∀b:Addr,b∉(X7 CX P w K mg base N qual scope f cd A outer s H E).ex:=fun b z=>absurd (show b∈([]:List Addr) from z) (by simp)
 refine⟨⟨e0.mod,S.kind,rfl,rfl,l8 _,fun y z c h1 h2=> ?_,fun y hy=> ?_,fun y c _ h=> ?_,fun _=>hd,Around.frames_deeper e0.frames, .inr ⟨rfl,rfl⟩,fun b z=>absurd z (noA b),e0.bs,e0.bsz,fun b _ _=>noA b,fun b z=>absurd z (noA b),e0.funs,e0.frf⟩,
  rfl,e0.bare,Un.kept hk,⟨_,x.toInCall.ns,fun i y v h1 h2 h3=> ?_⟩,fun y c h=>⟨_,x.cell y c h⟩,e0.hok.fresh (l8 _),fun y c h=> ?_,fun p hp=>absurd (show p∈([]:List (Addr×Obj)) from hp) (by simp),e0.hok.kept hk,?_⟩
 ·exact name_of_addr x.apart (Dj h1) (Dj h2)
 ·have hy:scope.names.lookup y=some .cell\/scope.names.lookup y=some .free:=hy
  rcases hy with hy|hy
  ·exact LY hy
  ·exact absurd rfl (S.nofree _ (Dj hy))
 ·exact EI (x.above y c (Dj h))
 ·have hi:i<vs.length:=by
   unfold start at h2
   by_cases hi:i<vs.length
   ·exact hi
   ·rw[Ik (by simpa using hi)] at h2
    rw[List.getElem?_replicate] at h2
    split at h2<;>cases h2
  have ha:vs[i]? =some v:=by
   unfold start at h2
   rw[PM (by simpa using hi),u8] at h2
   cases e:vs[i]? with
   |none=>rw[e] at h2;cases h2
   |some a=>rw[e] at h2;cases h2;rfl
  obtain⟨u,hu,rv⟩:=r.get ha
  have hp:ps[i]? =some y:=by
   rw[<-S.pre,List.getElem?_take_of_lt (by omega)];exact h1
  have ndP:ps.Nodup:=by rw[<-S.pre];exact S.nd.sublist (UQ _ _)
  refine⟨u,rv,?_⟩
  rcases S.par y (E8 hp) with k|k
  ·exact .inl ⟨k,Ic ndP hp hu k⟩
  ·obtain⟨c,e⟩:=LY (n:=s.heap.objs.size+1) k
   refine .inr ⟨.inl k,c,e,?_⟩
   have q:=x.cell y c e
   rw[Ig ndP hp hu (by show scope.names.lookup y≠_;rw[k];decide)] at q
   exact q
 ·exact e0.hok.fresh (EI (x.above y c (Dj h)))
 ·unfold start
  show _=N.length
  rw[y9,i4,Zm]
  omega
theorem Zk{CX:Mu}{P:Program}{w:World}{K:j6}{mg:Str->Option Value}{base:Heap}{k:Nat}{f:Addr}{name qual:Str}{params:Arguments}{body:List Stmt}{scope:Scope}{dV kV doc pm E6 ct oc:Value}{an od:Option Addr}
  {osl:Array (Option Value)}{N ps:List Str}{sp:Sp}(lk:K.lookup f=some ⟨oc,od, .func (PySem.W.fnOf name qual params body scope dV kV doc pm an E6 ct),osl⟩)(DL:PySem.W.codeIn K E6 qual=true)(S:FnScope N ps scope)
  (len:∀vs H Q E,sp vs H Q E->vs.length=ps.length)
  (Bp:∀(A:Around) (outer:List Env) (s:Shared) (H:Hp) (vs:List V) (Q:VK) (E:XK),Room k (A.deeper (envOfC qual scope s.heap.objs.size f E6))->sp vs H Q E->
   ∃t,Hm (X7 CX P w K mg base N qual scope f E6 A outer s H E) body t/\t {nx:=fun _ H'=>Q .non H',rt:=Q} (start N vs) H):
  FnOk P w K mg base CX (k+1) f (PySem.W.fnOf name qual params body scope dV kV doc pm an E6 ct) ps sp:=by
 refine⟨len,fun A outer s H args us vs Q E hr e0 hb r Ha=> ?_⟩
 have hl:=len _ _ _ _ Ha
 have KX:K.In s.heap:=e0.mod.kin.keeps fun b o e=>(e0.bs b o e).1
 have lim:s.heap.NoLimit:=e0.mod.nolimit.keeps fun b o e=>(e0.bs b o e).1
 have LG:∀y∈ps.zip us,scope.names.lookup y.1=some .local\/(scope.names.lookup y.1=some .cell/\((cellsFrom (s.heap.objs.size+1) scope.names []).lookup y.1).isSome=true):=fun⟨n,v⟩ hy=>by
  rcases S.par n (Me hy).1 with q|q
  ·exact .inl q
  ·exact .inr ⟨q,PN _ _ _ (.inl q)⟩
 refine UP hr.depth (KX _ _ lk) rfl S.co S.gen rfl (UO KX DL) (hb _ _ _ _ ?_)
 refine K7 e0.pos (UN S.kind LG fun env he s1 x z1=> ?_)
 subst he
 refine⟨lim.keeps x.toInCall.keep,codeAny_func ?_⟩
 obtain⟨t,ht,hq⟩:=Bp A outer s H vs Q E (hr.deeper _) Ha
 have I:Inw (X7 CX P w K mg base N qual scope f E6 A outer s H E) [] (start N vs) H s1:=DK S hr.hd e0.toEnv0w hl r x
 refine I9 (ht [] s1 (start N vs) H _ ⟨I,z1⟩ hq) (fun fl s' hs=> ?_) fun e s' hs=>hs
 have fin:∀{σ':St} {H':Hp} {v:V} {u:Value},Inw (X7 CX P w K mg base N qual scope f E6 A outer s H E) [] σ' H' s'->RelV v u->Q v H'->CE outer P w H s Q u s':=
  fun{σ' H' v u} J rv q=>⟨v,H',J.os,J.bare,J.base,J.hok,rv,q⟩
 cases fl with
 |ret u=>
  obtain⟨v,σ',H',J,rv,q⟩:=hs
  exact fin J rv q
 |next=>
  obtain⟨σ',H',J,q⟩:=hs
  exact fin (v:=V.non) (u:=Value.none) J rfl q
 |brk=>
  obtain⟨_,_,_,q⟩:=hs
  exact False.elim q
 |cont=>
  obtain⟨_,_,_,q⟩:=hs
  exact False.elim q
def Ru(X:Cx)(st:List Stmt)(t:TS):Prop:=
 ∀(c4:List (Addr×Obj)) (s:Shared) (σ:St) (H:Hp) (D:Ends),Inw X c4 σ H s->t D σ H->wpAny (model X.prog X.w) X.A (execs st X.env) (SP X c4 D) X.xe s
def PSW(X:Cx)(st:Stmt)(t:TS):Prop:=
 ∀(c4:List (Addr×Obj)) (s:Shared) (σ:St) (H:Hp) (D:Ends),Inw X c4 σ H s->t D σ H->wpAny (model X.prog X.w) X.A (exec st X.env) (RF X c4 D) X.xe s
theorem Ql{X:Cx}{st:Stmt}{C3:List Stmt}{t u:TS}(h1:PSW X st t)(h2:Hm X C3 u):Ru X (st::C3) (Qc t u):=by
 intro c4 s σ H D I h
 refine Mg (Wh (h1 c4 s σ H {D with nx:=u D} I h) fun f s1 q=> ?_)
 cases f with
 |next=>
  obtain⟨σ',H',I',q⟩:=q
  exact h2 c4 s1 σ' H' D I' q
 |ret v=>exact RF.w q
 |brk=>exact RF.w q
 |cont=>exact RF.w q
theorem Ru.nox{X:Cx}{st:List Stmt}{t:TS}(h:Ru X.nox st t):Ru X st t:=fun c4 s σ H D I hw=>
 I9 (h c4 s σ H D (I.wish _) hw) (fun _ _ q=>q.unwish) fun _ _ z=>False.elim z
theorem Qbd{CX:Mu}{P:Program}{w:World}{K:j6}{mg:Str->Option Value}{base:Heap}{k:Nat}{f:Addr}{name qual:Str}{params:Arguments}{body:List Stmt}{scope:Scope}{dV kV doc pm E6 ct oc:Value}{an od:Option Addr}
  {osl:Array (Option Value)}{N ps:List Str}{sp:Sp}(lk:K.lookup f=some ⟨oc,od, .func (PySem.W.fnOf name qual params body scope dV kV doc pm an E6 ct),osl⟩)(DL:PySem.W.codeIn K E6 qual=true)(S:FnScope N ps scope)
  (len:∀vs H Q E,sp vs H Q E->vs.length=ps.length)
  (Bp:∀(A:Around) (outer:List Env) (s:Shared) (H:Hp) (vs:List V) (Q:VK) (E:XK),Room k (A.deeper (envOfC qual scope s.heap.objs.size f E6))->sp vs H Q E->
   ∃t,Ru (X7 CX P w K mg base N qual scope f E6 A outer s H E) body t/\t {nx:=fun _ H'=>Q .non H',rt:=Q} (start N vs) H):
  FnOkL P w K mg base CX (k+1) f (PySem.W.fnOf name qual params body scope dV kV doc pm an E6 ct) ps sp:=by
 refine⟨len,fun A outer s H args us vs Q E hr e0 hb r Ha=> ?_⟩
 have hl:=len _ _ _ _ Ha
 have KX:K.In s.heap:=e0.mod.kin.keeps fun b o e=>(e0.bs b o e).1
 have lim:s.heap.NoLimit:=e0.mod.nolimit.keeps fun b o e=>(e0.bs b o e).1
 have LG:∀y∈ps.zip us,scope.names.lookup y.1=some .local\/(scope.names.lookup y.1=some .cell/\((cellsFrom (s.heap.objs.size+1) scope.names []).lookup y.1).isSome=true):=fun⟨n,v⟩ hy=>by
  rcases S.par n (Me hy).1 with q|q
  ·exact .inl q
  ·exact .inr ⟨q,PN _ _ _ (.inl q)⟩
 refine UP hr.depth (KX _ _ lk) rfl S.co S.gen rfl (UO KX DL) (hb _ _ _ _ ?_)
 refine UN S.kind LG fun env he s1 x=> ?_
 subst he
 refine⟨lim.keeps x.toInCall.keep,codeAny_func ?_⟩
 obtain⟨t,ht,hq⟩:=Bp A outer s H vs Q E (hr.deeper _) Ha
 have I:Inw (X7 CX P w K mg base N qual scope f E6 A outer s H E) [] (start N vs) H s1:=DK S hr.hd e0 hl r x
 refine I9 (ht [] s1 (start N vs) H _ I hq) (fun fl s' hs=> ?_) fun e s' hs=>hs
 have fin:∀{σ':St} {H':Hp} {v:V} {u:Value},Inw (X7 CX P w K mg base N qual scope f E6 A outer s H E) [] σ' H' s'->RelV v u->Q v H'->CE outer P w H s Q u s':=
  fun{σ' H' v u} J rv q=>⟨v,H',J.os,J.bare,J.base,J.hok,rv,q⟩
 cases fl with
 |ret u=>
  obtain⟨v,σ',H',J,rv,q⟩:=hs
  exact fin J rv q
 |next=>
  obtain⟨σ',H',J,q⟩:=hs
  exact fin (v:=V.non) (u:=Value.none) J rfl q
 |brk=>
  obtain⟨_,_,_,q⟩:=hs
  exact False.elim q
 |cont=>
  obtain⟨_,_,_,q⟩:=hs
  exact False.elim q
section
variable {X:Cx} {x:Str} {p pos:Pos} {e:Expr} {es:List Expr} {t:TA} {id T:String} {r:List V->Hp->VK->Prop}
def tCB(r:List V->Hp->VK->Prop)(t:TA):TE:=fun σ H Q=>t σ H fun vs H1=>r vs H1 Q
theorem n9(hc:P8 X (.builtin id) r)(hg:Gl X x)(hm:X.mg x=none)(hv:bootBuiltins x=some (.builtin id))(ha:PA X (e::es) t)(hn:x≠"__name__":=by decide)(Jj:(x==("__debug__":Str))=false:=by decide)
  (he:starEach (e::es) X.env=(false,eval e X.env)::starEach es X.env:=by rfl)(Fb:(backTo pos (starEach es X.env)).any (·.1)=false:=by rfl):PE X (.Call (.Name x p) (e::es) [] pos) (tCB r t):=by
 intro c4 s σ H Q I h
 refine Gf (Bm I hg hm hv ?_ hn Jj)
 exact PyProof.Rows.callWith_builtin1 (G7 (ha pos c4 s σ H _ I h) fun us s1 ⟨vs,H1,I1,r1,q1⟩=>hc c4 s1 σ H1 vs us Q I1 r1 q1) he Fb
theorem W5(hc:P8 X (.type T) r)(hg:Gl X x)(hm:X.mg x=none)(hv:bootBuiltins x=some (.type T))(ha:PA X (e::es) t)(hn:x≠"__name__":=by decide)(Jj:(x==("__debug__":Str))=false:=by decide)
  (he:starEach (e::es) X.env=(false,eval e X.env)::starEach es X.env:=by rfl)(Fb:(backTo pos (starEach es X.env)).any (·.1)=false:=by rfl):PE X (.Call (.Name x p) (e::es) [] pos) (tCB r t):=by
 intro c4 s σ H Q I h
 refine Gf (Bm I hg hm hv ?_ hn Jj)
 exact Io (G7 (ha pos c4 s σ H _ I h) fun us s1 ⟨vs,H1,I1,r1,q1⟩=>hc c4 s1 σ H1 vs us Q I1 r1 q1) he Fb
end
end L2
namespace HT
open PySem PyProof.Rows
section
open PySem.SeqAt
open PySem.AutoSeq1 (wpAny_loadPart')
open PySem.MeetsSeq PySem.MeetsSeq2 PySem.MeetsSeq3
end
section
variable {prog:Program} {w:World} {A:Around} {E:Value->Shared->Prop} {s:Shared}
def CP(n d:Nat):Option Int->Nat
 |none=>d
 |some v=>if v<0 then (v+(n:Int)).toNat else min v.toNat n
theorem OJ(n d k:Nat):CP n d (some (k:Int))=min k n:=by
 show (if (k:Int)<0 then ((k:Int)+(n:Int)).toNat else min (k:Int).toNat n)=min k n
 rw[if_neg (by omega),Md]
theorem IL(n d:Nat)(hd:d<=n)(o:Option Int):CP n d o<=n:=by
 cases o with
 |none=>exact hd
 |some v=>
  show (if v<0 then (v+(n:Int)).toNat else min v.toNat n)<=n
  by_cases hv:v<0
  ·rw[if_pos hv];omega
  ·rw[if_neg hv];exact UM _ _
end
end HT
namespace L2
open PySem PySem.Spec PyProof.Rows
abbrev TO:=St->Hp->(Option Int->Hp->Prop)->Prop
def PO(X:Cx)(e:Option Expr)(t:TO):Prop:=
 ∀(c4:List (Addr×Obj)) (s:Shared) (σ:St) (H:Hp) (Q:Option Int->Hp->Prop),Inv X c4 σ H s->t σ H Q->
  wpAny (model X.prog X.w) X.A (evalPart e X.env) (fun u s'=>∃o H',Inv X c4 σ H' s'/\IsPart u o/\Q o H') X.xe s
def IC:TO:=fun _ H Q=>Q none H
def Sf(t:TE):TO:=fun σ H Q=>t σ H fun x H1=>∃i,x= .int i/\Q (some i) H1
theorem intsAre_of{ns:List Int}:∀{us:List Value},u3 (ns.map V.int) us->IntsAre us ns:=by
 induction ns with
 |nil=>intro us r;rw[List.map_nil] at r;cases r;exact .nil
 |cons n ns ih=>
  intro us r
  rw[List.map_cons] at r
  cases r with
  |cons r1 r2=>
   obtain⟨t,e⟩:=r1
   subst e
   exact .cons n t (ih r2)
section
variable {X:Cx} {e:Expr} {te:TE} {lo hi:Option Expr} {tl th:TO} {pos p2:Pos}
theorem BN:PO X none IC:=by
 intro c4 s σ H Q I h
 rw[evalPart_none]
 exact l0 ⟨none,H,I, .none,h⟩
theorem M5(h:PE X e te):PO X (some e) (Sf te):=by
 intro c4 s σ H Q I hw
 rw[evalPart_some]
 refine G7 (h c4 s σ H _ I hw) fun u s1 ⟨x,H1,I1,r1,q1⟩=> ?_
 obtain⟨i,rfl,q⟩:=q1
 obtain⟨t,rfl⟩:=r1
 exact⟨some i,H1,I1, .int i t,q⟩
def SlR(X:Cx)(r:V->Option Int->Option Int->Hp->VK->Prop):Prop:=
 ∀(c4:List (Addr×Obj)) (s:Shared) (σ:St) (H:Hp) (x:V) (v vl vu:Value) (lo hi:Option Int) (sl:Addr) (Q:VK),Inv X c4 σ H s->RelV x v->s.heap.IsSliceOf sl vl vu .none->IsPart vl lo->IsPart vu hi->r x lo hi H Q->
  ∃T id,typeLookup (.type T) "__getitem__"=pure (some (.builtin id))/\s.TypeIs v T/\wpAny (model X.prog X.w) X.A (getItem v (.ref sl)) (EP X c4 σ Q) X.xe s
def tSl(r:V->Option Int->Option Int->Hp->VK->Prop)(te:TE)(tl th:TO):TE:=fun σ H Q=>te σ H fun x H1=>tl σ H1 fun l H2=>th σ H2 fun u H3=>r x l u H3 Q
theorem P4{r:V->Option Int->Option Int->Hp->VK->Prop}(hr:SlR X r)(he:PE X e te)(hl:PO X lo tl)(hu:PO X hi th):PE X (.Subscript e (.Slice lo hi none p2) pos) (tSl r te tl th):=by
 intro c4 s σ H Q I h
 refine Subscript_ (G7 (he c4 s σ H _ I h) fun v s1 ⟨x,H1,I1,r1,q1⟩=> ?_)
 refine wpAny_Slice (G7 (hl c4 s1 σ H1 _ I1 q1) fun vl s2 ⟨l,H2,I2,pl,q2⟩=>G7 (hu c4 s2 σ H2 _ I2 q2) fun vu s3 ⟨u,H3,I3,pu,q3⟩=> ?_)
 rw[evalPart_none]
 refine l0 ?_
 have I4:Inw X c4 σ H3 {s3 with heap:=s3.heap.push {cls:= .type "slice",data:= .fields #[vl,vu, .none]}}:=I3.kept (t':=s3.toks) fun b ob q=>q0 _ q
 obtain⟨T,id,hT,ht,hg⟩:=hr c4 {s3 with heap:=s3.heap.push {cls:= .type "slice",data:= .fields #[vl,vu, .none]}} σ H3 x v vl vu l u s3.heap.objs.size Q ⟨I4,I3.pos⟩ r1 (Heap.IsSliceOf.new ..) pl pu q3
 show wpAny (model X.prog X.w) X.A (subscriptTail e (.Slice lo hi none p2) v (.ref s3.heap.objs.size)) (EP X c4 σ Q) X.xe {s3 with heap:=s3.heap.push {cls:= .type "slice",data:= .fields #[vl,vu, .none]}}
 exact tail_any (ops:=[.ref s3.heap.objs.size,v]) ht hT hg (by with_unfolding_all rfl)
def Dg(xs:List V)(lo hi:Option Int):List V:=(xs.drop (HT.CP xs.length 0 lo)).take (HT.CP xs.length xs.length hi-HT.CP xs.length 0 lo)
theorem LW(xs:List V)(lo hi:Option Int):(Dg xs lo hi).length<=xs.length:=by
 unfold Dg
 rw[A4,AQ]
 omega
end
def ixN(n:Nat)(i:Int):Option Nat:=if 0<=i then (if i<n then some i.toNat else none) else if-(n:Int)<=i then some (i+n).toNat else none
def PJ{α:Type}(xs:List α)(i:Int):Option α:=(ixN xs.length i).bind fun j=>xs[j]?
theorem Xl{n:Nat}{i:Int}{j:Nat}(h:ixN n i=some j):seqIndex? i n=some j/\j<n/\ -(n:Int)<=i/\i<n:=by
 unfold ixN at h
 by_cases h0:0<=i
 ·rw[if_pos h0] at h
  by_cases h1:i<n
  ·rw[if_pos h1] at h
   have e:i.toNat=j:=R7 h
   exact⟨by rw[seqIndex_of h0 h1,e],by omega,by omega,h1⟩
  ·rw[if_neg h1] at h;cases h
 ·rw[if_neg h0] at h
  by_cases h1: -(n:Int)<=i
  ·rw[if_pos h1] at h
   have e:(i+n).toNat=j:=R7 h
   exact⟨by rw[seqIndex_neg (by omega) h1,e],by omega,h1,by omega⟩
  ·rw[if_neg h1] at h;cases h
theorem JB{α:Type}{xs:List α}{i:Int}{v:α}(h:PJ xs i=some v):∃j,seqIndex? i xs.length=some j/\xs[j]? =some v/\j<xs.length/\ -(xs.length:Int)<=i/\i<xs.length:=by
 unfold PJ at h
 cases e:ixN xs.length i with
 |none=>rw[e] at h;cases h
 |some j=>
  rw[e] at h
  obtain⟨h1,h2,h3,h4⟩:=Xl e
  exact⟨j,h1,h,h2,h3,h4⟩
theorem PH{α:Type}{xs:List α}{j:Nat}{v:α}(h:xs[j]? =some v):PJ xs (j:Int)=some v:=by
 have hj:j<xs.length:=(u4.mp h).1
 have e:ixN xs.length (j:Int)=some j:=by
  unfold ixN
  rw[if_pos (by omega),if_pos (by omega)];simp
 unfold PJ;rw[e];exact h
def XU(b:Expr):Prop:=∀o i,subscripted b false o i=operate [o,i] (getItem o i)
def IxR(X:Cx)(r:R2):Prop:=
 ∀(value slice:Expr) (c4:List (Addr×Obj)) (s:Shared) (σ:St) (H:Hp) (x y:V) (v u:Value) (Q:VK),Inv X c4 σ H s->RelV x v->RelV y u->r x y H Q->
  subscripted slice false v u=operate [v,u] (getItem v u)->wpAny (model X.prog X.w) X.A (subscriptTail value slice v u) (EP X c4 σ Q) X.xe s
def MtR(X:Cx)(id:String)(r:V->List V->Hp->VK->Prop):Prop:=
 ∀(c4:List (Addr×Obj)) (s:Shared) (σ:St) (H:Hp) (x:V) (xs:List V) (v:Value) (us:List Value) (Q:VK),Inv X c4 σ H s->RelV x v->u3 xs us->r x xs H Q->
  wpAny (model X.prog X.w) X.A (call (.builtin id) (v::us)) (EP X c4 σ Q) X.xe s
section
variable {X:Cx} {a b:Expr} {ta tb:TE} {pos:Pos}
theorem N1{r:R2}(hr:IxR X r)(ha:PE X a ta)(hb:PE X b tb)(hs:XU b):PE X (.Subscript a b pos) (Rz r ta tb):=by
 intro c4 s σ H Q I h
 exact Subscript_ (Qbm ha hb I h fun v u s2 x y H2 I2 rx ry q=>hr a b c4 s2 σ H2 x y v u Q I2 rx ry q (hs _ _))
def Qi(K:j6):R2:=fun x y H Q=>∃p xs i v,x= .ref p/\y= .int i/\l7 K H p xs/\PJ xs i=some v/\Q v H
def Ll(K:j6):R2:=fun x y H Q=>∃p xs i v,x= .ref p/\y= .int i/\W3 K H p xs/\PJ xs i=some v/\Q v H
def Qaw:R2:=fun x y H Q=>∃z i c,x= .str z/\y= .int i/\z.length<=sizeLine/\PJ z.cps.toList i=some c/\Q (.str ⟨#[c]⟩) H
theorem Xk:IxR X (Qi X.K):=by
 intro value slice c4 s σ H x y v u Q I rx ry h hs
 obtain⟨p,xs,i,z,rfl,rfl,hq,he,q⟩:=h
 cases rx
 obtain⟨t,rfl⟩:=ry
 obtain⟨n5,r,pl,hz⟩:=I.list hq
 obtain⟨j,h1,h2,h3,h4,h5⟩:=JB he
 obtain⟨w,ew,rw'⟩:=r.get h2
 have hl:=r.length
 have hn:=DG
 have fin:EP X c4 σ Q w s:=⟨z,H,I,rw',q⟩
 by_cases h0:0<=i
 ·have hj:i.toNat=j:=by
   rw[seqIndex_of h0 h5] at h1
   exact R7 h1
  exact item_listR pl.isList h0 (by omega) (by rw[hj];simpa using ew) fin hs
 ·have hj:(i+(n5.toArray.size:Int)).toNat=j:=by
   rw[seqIndex_neg (by omega) h4] at h1
   rw[C6,<-hl]
   exact R7 h1
  exact subscriptTail_builtinR (x:=w) pl.isList.typeIs slot_list_getitem.lookup
   (wpAny_getItem_list_neg (Q:=fun r s'=>r=w/\EP X c4 σ Q r s') pl.isList (by omega) (by rw[C6]<;>omega) (by omega) (by rw[hj];simpa using ew) ⟨rfl,fin⟩) hs
theorem Qa9:IxR X (Ll X.K):=by
 intro value slice c4 s σ H x y v u Q I rx ry h hs
 obtain⟨p,xs,i,z,rfl,rfl,hq,he,q⟩:=h
 cases rx
 obtain⟨t,rfl⟩:=ry
 obtain⟨n5,r,pl,hz⟩:=I.tuple hq
 obtain⟨j,h1,h2,h3,h4,h5⟩:=JB he
 obtain⟨w,ew,rw'⟩:=r.get h2
 have hl:=r.length
 have hn:=DG
 have fin:EP X c4 σ Q w s:=⟨z,H,I,rw',q⟩
 exact subscriptTail_builtinR (x:=w) pl.typeIs slot_tuple_getitem.lookup
  (getItem_tuple (j:=j) (Q:=fun r s'=>r=w/\EP X c4 σ Q r s') pl (by omega) (by omega) (by rw[C6,<-hl];exact h1) (by simpa using ew) ⟨rfl,fin⟩) hs
theorem TV:IxR X Qaw:=by
 intro value slice c4 s σ H x y v u Q I rx ry h hs
 obtain⟨z,i,c,rfl,rfl,hz,he,q⟩:=h
 obtain⟨t,rfl⟩:=rx
 obtain⟨t',rfl⟩:=ry
 obtain⟨j,h1,h2,h3,h4,h5⟩:=JB he
 have hl:z.cps.toList.length=z.length:=by simp [Str.length]
 rw[hl] at h1 h4 h5
 have hn:=DG
 exact tail_any (PL s z t) slot_str_getitem.lookup (getItem_str (c:=c) (by
  have e1:decide (i< -(2^63:Int))=false:=X8 (by omega)
  have e2:decide (i≥2^63)=false:=X8 (by omega)
  rw[e1,e2,Bool.or_false]) (by rw[h1];simpa using h2) ⟨.str ⟨#[c]⟩,H,I.tok _,⟨_,rfl⟩,q⟩) hs
def Yw:V->V->V->Hp->(Hp->Prop)->Prop:=fun o i v H Q=>∃p xs k j,o= .ref p/\i= .int k/\H p=some (.lst xs)/\ixN xs.length k=some j/\Q (i8 H p (.lst (xs.set j v)))
theorem IJ(lo hi:Option Int)(n:Nat):(sliceBounds lo hi none n).1 =((HT.CP n 0 lo:Nat):Int)/\(sliceBounds lo hi none n).2.1 =((HT.CP n n hi:Nat):Int)/\(sliceBounds lo hi none n).2.2 =1:=by
 refine⟨?_,?_,rfl⟩
 ·cases lo with
  |none=>simp [sliceBounds,HT.CP]
  |some i=>
   simp only[sliceBounds,HT.CP,Ij,show (1:Int)>0 by decide,if_true]
   by_cases h:i<0
   ·simp only[h,if_true]<;>omega
   ·simp only[h,if_false]<;>omega
 ·cases hi with
  |none=>simp [sliceBounds,HT.CP]
  |some i=>
   simp only[sliceBounds,HT.CP,Ij,show (1:Int)>0 by decide,if_true]
   by_cases h:i<0
   ·simp only[h,if_true]<;>omega
   ·simp only[h,if_false]<;>omega
theorem GR(n5:List Value)(lo hi:Option Int):slicePick n5.toArray lo hi none=((n5.drop (HT.CP n5.length 0 lo)).take (HT.CP n5.length n5.length hi-HT.CP n5.length 0 lo)).toArray:=by
 obtain⟨h1,h2,h3⟩:=IJ lo hi n5.toArray.size
 unfold slicePick
 rw[h1,h2,h3]
 simp only[sliceRange_one,pick_run,C6]<;>rfl
def WC(K:j6):V->Option Int->Option Int->Hp->VK->Prop:=fun x lo hi H Q=>∃a xs,x= .ref a/\l7 K H a xs/\∀p,H p=none->Q (.ref p) (i8 H p (.lst (Dg xs lo hi)))
theorem Wp:SlR X (WC X.K):=by
 intro c4 s σ H x v vl vu lo hi sl Q I rx hs pl pu h
 obtain⟨a,xs,rfl,hx,q⟩:=h
 cases rx
 obtain⟨n5,r,ht,hz⟩:=I.list hx
 have G1:=r.length
 refine⟨"list",_,slot_list_getitem.lookup,ht.isList.typeIs,?_⟩
 refine wpAny_getItem_list_slice ht.isList hs pl pu .none (by simp) ?_ (by rw[C6]<;>omega)
 rw[GR,<-G1]
 refine⟨.ref s.heap.objs.size,_,I.laid (t':=s.toks) (o:= .lst (Dg xs lo hi)) (fun b ob q=>q0 _ q) (l8 _) ?_,rfl,q _ (I.hok.fresh (l8 _))⟩
 exact⟨E7 (LW xs lo hi) hz,_,0,(r.drop (HT.CP xs.length 0 lo)).take (HT.CP xs.length xs.length hi-HT.CP xs.length 0 lo),C7 _ rfl⟩
def EC:V->Bool
 | .non=>true
 | .bl _=>true
 | .int _=>true
 | .str _=>true
 |_=>false
def Zl:V->V->Bool
 | .non, .non=>true
 | .bl a, .bl b=>a==b
 | .bl a, .int b=>(if a then 1 else 0)==b
 | .int a, .bl b=>a==(if b then 1 else 0)
 | .int a, .int b=>a==b
 | .str a, .str b=>a==b
 |_,_=>false
theorem Qbf{A:Around}{s:Shared}{y x:V}{u v:Value}(ry:RelV y u)(rx:RelV x v)(fy:EC y=true)(fx:EC x=true):SeqAt.EqAt A s u v (Zl y x):=by
 cases y with
 |non=>
  cases ry
  cases x with
  |non=>cases rx;exact Ih _
  |bl b=>cases rx;exact SeqAt.EqAt.none_bool b
  |int b=>obtain⟨t,rfl⟩:=rx;exact SeqAt.EqAt.none_int b t
  |str b=>obtain⟨t,rfl⟩:=rx;exact SeqAt.EqAt.none_str b t
  |_=>exact absurd (show false=true from fx) K3
 |bl a=>
  cases ry
  cases x with
  |non=>cases rx;exact SeqAt.EqAt.bool_none a
  |bl b=>cases rx;exact SeqAt.EqAt.bool_bool a b
  |int b=>obtain⟨t,rfl⟩:=rx;exact SeqAt.EqAt.bool_int a b t
  |str b=>obtain⟨t,rfl⟩:=rx;exact SeqAt.EqAt.bool_str a b t
  |_=>exact absurd (show false=true from fx) K3
 |int a=>
  obtain⟨t',rfl⟩:=ry
  cases x with
  |non=>cases rx;exact SeqAt.EqAt.int_none a t'
  |bl b=>cases rx;exact SeqAt.EqAt.int_bool a t' b
  |int b=>obtain⟨t,rfl⟩:=rx;exact UL a t' b t
  |str b=>obtain⟨t,rfl⟩:=rx;exact SeqAt.EqAt.int_str a t' b t
  |_=>exact absurd (show false=true from fx) K3
 |str a=>
  obtain⟨t',rfl⟩:=ry
  cases x with
  |non=>cases rx;exact SeqAt.EqAt.str_none a t'
  |bl b=>cases rx;exact SeqAt.EqAt.str_bool a t' b
  |int b=>obtain⟨t,rfl⟩:=rx;exact SeqAt.EqAt.str_int a t' b t
  |str b=>obtain⟨t,rfl⟩:=rx;exact UK a t' b t
  |_=>exact absurd (show false=true from fx) K3
 |_=>exact absurd (show false=true from fy) K3
def Nu(x:V)(u:Value):Bool:=match u with
 | .none=>Zl .non x
 | .bool b=>Zl (.bl b) x
 | .int i _=>Zl (.int i) x
 | .str z _=>Zl (.str z) x
 |_=>false
theorem Uy{x y:V}{u:Value}(r:RelV y u)(f:EC y=true):Nu x u=Zl y x:=by
 cases y with
 |non=>cases r;rfl
 |bl b=>cases r;rfl
 |int i=>obtain⟨t,rfl⟩:=r;rfl
 |str z=>obtain⟨t,rfl⟩:=r;rfl
 |_=>exact absurd (show false=true from f) K3
theorem Di{x:V}:∀{xs:List V} {us:List Value},u3 xs us->xs.all EC=true->us.any (Nu x)=xs.any fun y=>Zl y x
 |_,_, .nil,_=>rfl
 |y::xs,u::us, .cons r t,f=>by
  rw[UJ,Q7] at f
  rw[BC,BC,Uy r f.1,Di t f.2]
theorem Bl{A:Around}{s:Shared}{x:V}{v:Value}(rx:RelV x v)(fx:EC x=true):∀{xs:List V} {us:List Value},u3 xs us->xs.all EC=true->∀u∈us,SeqAt.EqAt A s u v (Nu x u)
 |_,_, .nil,_=>fun u hu=>by cases hu
 |y::xs,u::us, .cons r t,f=>fun u' hu=>by
  rw[UJ,Q7] at f
  rcases C8.mp hu with rfl|hu
  ·rw[Uy r f.1];exact Qbf r rx f.1 fx
  ·exact Bl rx fx t f.2 u' hu
def inV(x:V)(xs:List V):Bool:=xs.any fun y=>Zl y x
def rIn(K:j6)(neg:Bool):R2:=fun x y H Q=>∃p xs,y= .ref p/\(l7 K H p xs\/W3 K H p xs)/\EC x=true/\xs.all EC=true/\Q (.bl (if neg then !inV x xs else inV x xs)) H
theorem Qx:BF X (compareOp .In) (rIn X.K false):=by
 intro c4 s σ H x y v u Q I rx ry h
 obtain⟨p,xs,rfl,hq,fx,fs,q⟩:=h
 cases ry
 rcases hq with hq|hq
 ·obtain⟨n5,r,pl,hz⟩:=I.list hq
  refine SeqAt.in_listAt (Nu x) pl.isList (fun w hw=>Bl rx fx r fs w (by simpa using hw)) ⟨.bl _,H,I,rfl,?_⟩
  rw[show n5.toArray.any (Nu x)=n5.any (Nu x) by simp,Di r fs]
  exact q
 ·obtain⟨n5,r,pl,hz⟩:=I.tuple hq
  refine SeqAt.in_tupleAt (Nu x) pl (fun w hw=>Bl rx fx r fs w (by simpa using hw)) ⟨.bl _,H,I,rfl,?_⟩
  rw[show n5.toArray.any (Nu x)=n5.any (Nu x) by simp,Di r fs]
  exact q
theorem IX:BF X (compareOp .NotIn) (rIn X.K true):=by
 intro c4 s σ H x y v u Q I rx ry h
 obtain⟨p,xs,rfl,hq,fx,fs,q⟩:=h
 cases ry
 rcases hq with hq|hq
 ·obtain⟨n5,r,pl,hz⟩:=I.list hq
  refine SeqAt.notIn_listAt (Nu x) pl.isList (fun w hw=>Bl rx fx r fs w (by simpa using hw)) ⟨.bl _,H,I,rfl,?_⟩
  rw[show n5.toArray.any (Nu x)=n5.any (Nu x) by simp,Di r fs]
  exact q
 ·obtain⟨n5,r,pl,hz⟩:=I.tuple hq
  refine SeqAt.notIn_tupleAt (Nu x) pl (fun w hw=>Bl rx fx r fs w (by simpa using hw)) ⟨.bl _,H,I,rfl,?_⟩
  rw[show n5.toArray.any (Nu x)=n5.any (Nu x) by simp,Di r fs]
  exact q
theorem JA:P8 X (.builtin "len") (fun xs H Q=>∃p ys,xs=[.ref p]/\(l7 X.K H p ys\/W3 X.K H p ys)/\Q (.int ys.length) H):=by
 intro c4 s σ H xs us Q I r h
 obtain⟨p,ys,rfl,hq,q⟩:=h
 obtain⟨u,rfl,rx⟩:=vals1 r
 cases rx
 have hn:=DG
 rcases hq with hq|hq
 ·obtain⟨n5,r',pl,hz⟩:=I.list hq
  have G1:=r'.length
  exact Calls.call_len_list pl.isList (by simp only[C6]<;>omega) ⟨.int ys.length,H,I.tok _,⟨s.toks+1,by rw[C6,G1]⟩,q⟩
 ·obtain⟨n5,r',pl,hz⟩:=I.tuple hq
  have G1:=r'.length
  exact len_tuple pl (by simp only[C6]<;>omega) ⟨.int ys.length,H,I.tok _,⟨s.toks+1,by rw[C6,G1]⟩,q⟩
theorem W2:P8 X (.builtin "len") (fun xs H Q=>∃z,xs=[.str z]/\z.length<=sizeLine/\Q (.int z.length) H):=by
 intro c4 s σ H xs us Q I r h
 obtain⟨z,rfl,hz,q⟩:=h
 obtain⟨u,rfl,t,rfl⟩:=vals1 r
 have hn:=DG
 exact len_str (by omega) ⟨.int z.length,H,I.tok _,⟨_,rfl⟩,q⟩
theorem Jz:P8 X (.type "list") (fun xs H Q=>∃p ys,xs=[.ref p]/\(l7 X.K H p ys\/W3 X.K H p ys)/\∀l,H l=none->Q (.ref l) (i8 H l (.lst ys))):=by
 intro c4 s σ H xs us Q I r h
 obtain⟨p,ys,rfl,hq,q⟩:=h
 obtain⟨u,rfl,rx⟩:=vals1 r
 cases rx
 have fin:∀(n5:List Value),u3 ys n5->ys.length<=sizeLine->∀(h':Heap) (c':Nat),(∀b o',s.heap.get? b=some o'->h'.get? b=some o')->
   h'.get? s.heap.objs.size=some {cls:= .type "list",dict:=none,data:= .seq n5.toArray c',slots:= #[]}->EP X c4 σ Q (.ref s.heap.objs.size) {s with heap:=h'}:=fun n5 r' hz h' c' kp e=>
  ⟨.ref s.heap.objs.size,_,I.laid (t':=s.toks) kp (l8 _) (show D0 X.prog X.w _ h' _ (.lst ys) from ⟨hz,n5,c',r',e⟩),rfl,q _ (I.hok.fresh (l8 _))⟩
 rcases hq with hq|hq
 ·obtain⟨n5,r',pl,hz⟩:=I.list hq
  have G1:=r'.length
  obtain⟨o,ho,hc,n,hd⟩:=pl.isList
  exact call_list_seq p (.inl rfl) ho hc hd (fun h' c' kp e=>fin n5 r' hz h' c' kp e) (by simp only[C6]<;>omega)
 ·obtain⟨n5,r',pl,hz⟩:=I.tuple hq
  have G1:=r'.length
  obtain⟨o,ho,hc,n,hd⟩:=pl
  exact call_list_seq p (.inr rfl) ho hc hd (fun h' c' kp e=>fin n5 r' hz h' c' kp e) (by simp only[C6]<;>omega)
def tyV(K:j6)(T:String)(x:V)(H:Hp):Prop:=match x with
 | .str _=>T="str"
 | .int _=>T="int"
 | .ref p=>(T="list"/\∃xs,l7 K H p xs)\/(T="tuple"/\∃o,K.lookup p=some o/\o.cls= .type "tuple"/\o.dict=none)\/
   (T="dict"/\((∃kvs,H p=some (.dK kvs))\/∃kvs,H p=some (.dT kvs)))\/(T="set"/\∃S n,H p=some (.set S n))
 |_=>False
theorem RZ{c4:List (Addr×Obj)}{σ:St}{H:Hp}{s:Shared}{T:String}{x:V}{v:Value}(I:Inv X c4 σ H s)(r:RelV x v)(ty:tyV X.K T x H):
  s.TypeIs v T/\∀a,v= .ref a->∃ob,s.heap.get? a=some ob/\ob.dict=none:=by
 cases x with
 |str z=>
  obtain⟨t,rfl⟩:=r
  cases (show T="str" from ty)
  exact⟨PL s z t,fun _ e=>nomatch e⟩
 |int i=>
  obtain⟨t,rfl⟩:=r
  cases (show T="int" from ty)
  exact⟨typeIs_int s i t,fun _ e=>nomatch e⟩
 |ref p=>
  cases r
  rcases ty with ⟨rfl,xs,hq⟩|⟨rfl,o,hk,hc,hd⟩|⟨rfl,hk⟩|⟨rfl,S,n,hk⟩
  ·obtain⟨n5,_,pl,_⟩:=I.list hq
   refine⟨pl.isList.typeIs,fun a e=> ?_⟩
   cases e
   obtain⟨o,n,e,c,hd,_⟩:=pl
   exact⟨o,e,hd⟩
  ·refine⟨⟨o,I.kIn p o hk,hc⟩,fun a e=> ?_⟩
   cases e
   exact⟨o,I.kIn _ o hk,hd⟩
  ·have z:∃o,s.heap.get? p=some o/\o.ExactDict:=by
    rcases hk with ⟨kvs,hk⟩|⟨kvs,hk⟩
    ·obtain⟨_,_,_,_,o,_,_,e,ex,_⟩:=I.hok p _ hk
     exact⟨o,e,ex⟩
    ·obtain⟨_,_,_,_,o,_,_,e,ex,_⟩:=I.hok p _ hk
     exact⟨o,e,ex⟩
   obtain⟨o,e,ex⟩:=z
   refine⟨⟨o,e,ex.1⟩,fun a e2=> ?_⟩
   cases e2
   exact⟨o,e,ex.2.1⟩
  ·obtain⟨o,_,_,_,e,ex,_⟩:=I.hok p _ hk
   refine⟨⟨o,e,ex.1⟩,fun a e2=> ?_⟩
   cases e2
   exact⟨o,e,ex.2.1⟩
 |_=>exact False.elim ty
def Wk(K:j6)(T:String)(r:V->List V->Hp->VK->Prop)(to:TE):TE:=fun σ H Q=>to σ H fun x H1=>tyV K T x H1/\r x [] H1 Q
def tBM(K:j6)(T:String)(r:V->List V->Hp->VK->Prop)(to:TE)(t:TA):TE:=fun σ H Q=>to σ H fun x H1=>tyV K T x H1/\t σ H1 fun xs H2=>r x xs H2 Q
variable {o e:Expr} {es:List Expr} {to:TE} {t:TA} {name:Str} {apos cpos:Pos} {T id:String} {r:V->List V->Hp->VK->Prop}
theorem QaD(pa:PlainAttrs T)(slot:Slot T name id)(hty:typeOf (.builtin id)=pure (.type "method_descriptor"))(hm:MtR X id r)(ho:PE X o to)
  (FO:attributeBase o name X.env (eval o X.env)=eval o X.env:=by rfl)(FN:(apos.endLine==cpos.line)=true:=by rfl):PE X (.Call (.Attribute o name apos) [] [] cpos) (Wk X.K T r to):=by
 intro c4 s σ H Q I h
 refine wpAny_Call_method0_late FO FN (G7 (ho c4 s σ H _ I h) fun v s1 ⟨x,H1,I1,r1,ty,q1⟩=> ?_)
 obtain⟨h1,h2⟩:=RZ I1 r1 ty
 exact⟨T,id,pa,slot,hty,h1,h2,Kp rfl (PySem.evalArgs_none (hm c4 s1 σ H1 x [] v [] Q I1 r1 .nil q1))⟩
theorem QbK(pa:PlainAttrs T)(slot:Slot T name id)(hty:typeOf (.builtin id)=pure (.type "method_descriptor"))(hm:MtR X id r)(ho:PE X o to)(ha:PA X (e::es) t)
  (FO:attributeBase o name X.env (eval o X.env)=eval o X.env:=by rfl)
  (hfew:((backTo cpos (starEach (e::es) X.env)).all (fun x=> !x.1)&&(backToKw cpos (keywordEach [] X.env)).all (fun x=>x.1.isSome)
   &&decide ((e::es).length+([]:List Keyword).length+(if ([]:List Keyword).isEmpty then 0 else 1)<30))=true:=by rfl)
  (FN:(apos.endLine==cpos.line)=true:=by rfl)(hs:starEach (e::es) X.env=(false,eval e X.env)::starEach es X.env:=by rfl)(hplain:(backTo cpos (starEach es X.env)).any (·.1)=false:=by rfl):
  PE X (.Call (.Attribute o name apos) (e::es) [] cpos) (tBM X.K T r to t):=by
 intro c4 s σ H Q I h
 refine wpAny_Call_method_late FO hfew FN rfl (G7 (ho c4 s σ H _ I h) fun v s1 ⟨x,H1,I1,r1,ty,q1⟩=> ?_)
 obtain⟨h1,h2⟩:=RZ I1 r1 ty
 refine⟨T,id,pa,slot,hty,h1,h2,?_⟩
 have hA:=ha cpos c4 s1 σ H1 _ I1 q1
 rw[hs] at hA⊢
 refine Kp (by show (false||(backTo cpos (starEach es X.env)).any (·.1))=false;rw[hplain]<;>rfl) (Op ?_)
 exact G7 hA fun us s2 ⟨vs,H2,I2,r2,q2⟩=>hm c4 s2 σ H2 x vs v us Q I2 r1 r2 q2
/- xs.append(e), list.index on a module's tuple .. are MtR facts of 06m -/
end
def MtM(X:Cx)(id:String)(r:V->List V->Hp->VK->Prop):Prop:=
 ∀(c4:List (Addr×Obj)) (s:Shared) (σ:St) (H:Hp) (x:V) (xs:List V) (v:Value) (us:List Value) (Q:VK),Inv X c4 σ H s->RelV x v->u3 xs us->r x xs H Q->
  wpAny (model X.prog X.w) X.A (call (.builtin id) (v::us)) (EP X c4 σ Q) X.xe s
theorem u3.one:∀{x:V} {us:List Value},u3 [x] us->∃u,us=[u]/\RelV x u
 |_,_, .cons r .nil=>⟨_,rfl,r⟩
theorem u3.zero:∀{us:List Value},u3 [] us->us=[]
 |_, .nil=>rfl
theorem u3.rep{xs:List V}{us:List Value}(h:u3 xs us):∀k:Nat,u3 (List.replicate k xs).flatten (List.replicate k us).flatten
 |0=> .nil
 |k+1=>by
  rw[List.replicate_succ,List.replicate_succ,Al,Al]
  exact u3.append h (u3.rep h k)
theorem foldl_rep(n5:List Value):∀(k:Nat) (V1:List Value),
  List.foldl (fun x1 x2=>x1++x2) V1.toArray (List.replicate k n5.toArray)=(V1++(List.replicate k n5).flatten).toArray
 |0,V1=>by simp
 |k+1,V1=>by
  have e:V1.toArray++n5.toArray=(V1++n5).toArray:=by simp
  have e2:(V1++n5)++(List.replicate k n5).flatten=V1++(List.replicate (k+1) n5).flatten:=by
   rw[List.replicate_succ,Al,C9]
  rw[<-e2,<-foldl_rep n5 k (V1++n5),<-e,List.replicate_succ,Ko]
section
variable {X:Cx} {c4:List (Addr×Obj)} {σ:St} {H:Hp} {s:Shared} {l b:Addr} {xs ys zs:List V}
theorem Inw.lset{n5 its':List Value}{n:Nat}{f:Array Value->Array Value}{t':Nat}(I:Inw X c4 σ H s)(hH:H l=some (.lst xs))
  (e:s.heap.get? l=some {cls:= .type "list",data:= .seq n5.toArray n})(hf:f n5.toArray=its'.toArray)(hv:u3 ys its')(hz:ys.length<=sizeLine):
  Inw X c4 σ (i8 H l (.lst ys)) {s with heap:=s.heap.update l (Obj.mapSeq f),toks:=t'}:=by
 have q:=PySem.IsL.update e f
 rw[hf] at q
 refine I.write (x:=l) (e:=l) (by rw[hH];exact trivial) (.inl rfl) (fun b' u hb hu=>(Eo s.heap (Obj.mapSeq f) (D9 hb)).trans hu) ⟨_,q⟩ ?_
 exact⟨hz,its',_,hv,q⟩
theorem Inw.lnew{n5:List Value}{t':Nat}(I:Inw X c4 σ H s)(hv:u3 ys n5)(hz:ys.length<=sizeLine):
  Inw X c4 σ (i8 H s.heap.objs.size (.lst ys)) {s with heap:=s.heap.push {cls:= .type "list",data:= .seq n5.toArray},toks:=t'}:=
 I.laid (fun _ _ q=>q0 _ q) (l8 _) ⟨hz,n5,0,hv,C7 _ rfl⟩
theorem Inw.fresh(I:Inw X c4 σ H s):H s.heap.objs.size=none:=I.hok.fresh (l8 _)
theorem Inw.lstM(I:Inw X c4 σ H s)(hH:H l=some (.lst xs)):xs.length<=sizeLine/\∃(n5:List Value) (n:Nat),u3 xs n5/\xs.length=n5.length/\s.heap.get? l=some {cls:= .type "list",data:= .seq n5.toArray n}:=by
 obtain⟨z,n5,n,r,e⟩:=I.hok l _ hH
 exact⟨z,n5,n,r,r.length,e⟩
theorem Lv{n:Nat}(h:n<=sizeLine):Builtin.List.listTooLong n=false:=by
 unfold Builtin.List.listTooLong
 exact X8 (by omega)
end
section
variable {X:Cx}
def CT:V->List V->Hp->VK->Prop:=fun x vs H Q=>∃l xs y,x= .ref l/\vs=[y]/\H l=some (.lst xs)/\xs.length<sizeLine/\Q .non (i8 H l (.lst (xs++[y])))
theorem G4:MtM X "list.append" CT:=by
 intro c4 s σ H x vs v us Q I rx rv h
 obtain⟨l,xs,y,rfl,rfl,hH,hz,q⟩:=h
 cases rx
 obtain⟨u,rfl,ru⟩:=rv.one
 obtain⟨z,n5,n,r,hl,e⟩:=I.lstM hH
 refine En F.slot_list_append ⟨_,e,rfl⟩ F.entry_list_append (F.args_list_append_2 _ _) (PySem.list_append l n5.toArray n u (by rw[C6];omega)) ⟨e,?_⟩
 refine⟨.non,_,I.lset (its':=n5++[u]) hH e (by simp) (r.append (.cons ru .nil)) ?_,rfl,q⟩
 rw[y9,G3]
 omega
def WD:V->List V->Hp->VK->Prop:=fun x vs H Q=>∃l b xs zs,x= .ref l/\vs=[.ref b]/\H l=some (.lst xs)/\H b=some (.lst zs)/\xs.length+zs.length<=sizeLine/\Q .non (i8 H l (.lst (xs++zs)))
theorem QD:MtM X "list.extend" WD:=by
 intro c4 s σ H x vs v us Q I rx rv h
 obtain⟨l,b,xs,zs,rfl,rfl,hH,hB,hz,q⟩:=h
 cases rx
 obtain⟨u,rfl,ru⟩:=rv.one
 cases ru
 obtain⟨z,n5,n,r,hl,e⟩:=I.lstM hH
 obtain⟨z2,its2,n2,r2,hl2,e2⟩:=I.lstM hB
 have hsz:n5.toArray.size+its2.toArray.size<=sizeLine:=by rw[C6,C6];omega
 have hlong:¬(!n5.toArray.isEmpty&&Builtin.List.listTooLong (n5.toArray.size+its2.toArray.size))=true:=by
  rw[Lv hsz,Bool.and_false]
  exact K3
 refine En F.slot_list_extend ⟨_,e,rfl⟩ F.entry_list_extend (F.args_list_extend_2 _ _)
  (AutoSeq1.list_extend_list_list_0 l n5.toArray n b its2.toArray n2 hlong (by rw[C6];omega) (by omega)) ⟨e,e2,?_⟩
 refine⟨.non,_,I.lset (its':=n5++its2) hH e (by simp) (r.append r2) ?_,rfl,q⟩
 rw[y9]
 omega
def QbE:V->List V->Hp->VK->Prop:=fun x vs H Q=>∃l xs y,x= .ref l/\vs=[]/\H l=some (.lst xs)/\xs[xs.length-1]? =some y/\Q y (i8 H l (.lst xs.dropLast))
def GU:R2:=fun x y H Q=>∃l b xs zs,x= .ref l/\y= .ref b/\H l=some (.lst xs)/\H b=some (.lst zs)/\xs.length+zs.length<=sizeLine/\∀p,H p=none->Q (.ref p) (i8 H p (.lst (xs++zs)))
theorem X1:BF X (binaryOp .Add) GU:=by
 intro c4 s σ H x y v u Q I rx ry h
 obtain⟨l,b,xs,zs,rfl,rfl,hH,hB,hz,q⟩:=h
 cases rx
 cases ry
 obtain⟨z,n5,n,r,hl,e⟩:=I.lstM hH
 obtain⟨z2,its2,n2,r2,hl2,e2⟩:=I.lstM hB
 refine PySem.P.add_list e e2 ?_ (by rw[C6,C6];omega)
 have ea:n5.toArray++its2.toArray=(n5++its2).toArray:=by simp
 rw[ea]
 exact⟨.ref _,_,I.lnew (t':=s.toks) (r.append r2) (by rw[y9];omega),rfl,q _ I.fresh⟩
def QcG:R2:=fun x y H Q=>∃l k xs,x= .ref l/\y= .int k/\H l=some (.lst xs)/\ -(2^63)<=k/\k<2^63/\xs.length*k.toNat<=sizeLine/\
 ∀p,H p=none->Q (.ref p) (i8 H p (.lst (List.replicate k.toNat xs).flatten))
theorem Xe{α:Type}(xs:List α)(k:Nat):(List.replicate k xs).flatten.length=k*xs.length:=by
 induction k with
 |zero=>simp
 |succ k ih=>rw[List.replicate_succ,Al,y9,ih,Nat.succ_mul,Nat.add_comm]
theorem QaF:BF X (binaryOp .Mult) QcG:=by
 intro c4 s σ H x y v u Q I rx ry h
 obtain⟨l,k,xs,rfl,rfl,hH,h1,h2,hz,q⟩:=h
 cases rx
 obtain⟨t,rfl⟩:=ry
 obtain⟨z,n5,n,r,hl,e⟩:=I.lstM hH
 have G1:n5.toArray.size*k.toNat<=sizeLine:=by rw[C6,<-hl];exact hz
 have hcap:¬n5.toArray.size*k.toNat>(2^63-1)/8:=by
  have:(sizeLine:Nat)<=(2^63-1)/8:=by decide
  omega
 have Ac:¬(!Builtin.List.listFitsIndex k)=true:=by
  rw[fitsIndex_both h1 h2]
  exact K3
 have hlong:¬Builtin.List.listTooLong (n5.toArray.size*k.toNat)=true:=by
  rw[Lv G1]
  exact K3
 have Ud:List.foldl (fun x1 x2=>x1++x2) #[] (List.replicate (if n5.toArray.isEmpty=true then 0 else k.toNat) n5.toArray)=(List.replicate k.toNat n5).flatten.toArray:=by
  have f0:∀m:Nat,List.foldl (fun x1 x2=>x1++x2) #[] (List.replicate m n5.toArray)=(List.replicate m n5).flatten.toArray:=fun m=>by
   have:=foldl_rep n5 m []
   rw[List.nil_append] at this
   exact this
  rw[f0]
  cases n5 with
  |nil=>simp
  |cons a r'=>rw[if_neg (by simp)]
 refine wpAny_binaryOp_repeat_ref (T:="list") (U:="int") (by decide) ⟨_,e,rfl⟩ (fun s'=>typeIs_int s' k t) noFill_list_mul F.fills_int_mul F.slot_int_rmul repeat_list F.slot_int_index.lookup
  (En F.slot_int_rmul (typeIs_int s k t) F.entry_int_rmul (F.args_int_rmul_2 _ _) (int___rmul___int_list k t l n5.toArray n)
   ⟨e,rfl,⟨_,e,rfl⟩,En F.slot_list_mul ⟨_,e,rfl⟩ F.entry_list_mul (F.args_list_mul_2 _ _) (AutoListH.list___mul___list_int_3 l n5.toArray n k t Ac hcap hlong) ⟨e,?_⟩⟩)
 rw[Ud]
 exact⟨.ref _,_,I.lnew (t':=s.toks) (r.rep k.toNat) (by rw[Xe,Nat.mul_comm];exact hz),rfl,q _ I.fresh⟩
end
section
variable {prog:Program} {w:World} {A:Around} {E:Value->Shared->Prop} {s:Shared}
set_option maxRecDepth 100000 in
end
section
variable {X:Cx}
end
end L2
namespace Att
open PySem PySem.W PySem.Calls PyProof.Rows
theorem EJ{P:Params}{h:Heap}:∀(ns:List Int) (vs:List Value),WellAll P h vs (ns.map WData.int)->IntsAre vs ns:=by
 intro ns
 induction ns with
 |nil=>
  intro vs w
  rw[List.map_nil] at w
  cases w
  exact .nil
 |cons n ns ih=>
  intro vs w
  rw[List.map_cons] at w
  cases w with
  |cons a b=>
   cases a
   exact .cons _ _ (ih _ b)
theorem Qe{l:OpenLaw}{n:Nat}(hn:l.most=some n){P:Params}{h:Heap}{args:List WData}{vals:List Value}
  (No:l.row.toRowW.claim.pre args=true)(Nk:WellAll P h vals args):
  ∃a vs ns,vals=[Value.ref a]/\args=[WData.list (ns.map WData.int)]/\h.get? a=some {cls:= .type "list",data:= .seq vs.toArray}/\IntsAre vs ns/\ns.length<=n:=by
 have hsh:WShape.hasAll [] args [.list .int]=true:=(pre_splitW No).1
 have hc:l.pre.holds [] {args:=args}=true:=(pre_splitW No).2
 obtain⟨d,r,rfl,h1,h2⟩:=hasAllW_cons hsh
 obtain rfl:=hasAllW_nil h2
 obtain⟨xs,rfl,h3⟩:=hasW_list h1
 obtain⟨ns,rfl⟩:=items_int h3
 have G1:ns.length<=n:=by
  unfold OpenLaw.pre at hc
  have h4:(WTm.not (.lt (.lit (.int (n:Int))) (.len (.arg 0)))).holds [] {args:=[.list (ns.map .int)]}=true:=by
   have h4:=(holds_andW hc).1
   rw[hn] at h4
   exact h4
  have h5:=condW_of h4 (w_not (w_lt w_lit (w_len_list (w_arg rfl))))
  rw[i4] at h5
  refine Nat.le_of_not_lt fun q=> ?_
  have q':(n:Int)<((ns.length:Nat):Int):=by omega
  first
   |(rw[B7 q'] at h5;exact absurd h5 (by decide))
   |(simp at h5;omega)
 cases Nk with
 |cons w1 w2=>
  cases w2
  cases w1 with
  |list ho hall=>exact⟨_,_,ns,rfl,rfl,ho,EJ ns _ hall,G1⟩
theorem Qr(l:OpenLaw)(args:List WData):l.row.toRowW.claim.post args (.bool true) args=true:=
 postW_of (r:=l.row.toRowW) (X:=(true==true))
  (show WShape.has [] (.bool true) .bool=true by first|rfl|decide|simp [WShape.has,WShape.arms,WShape.armsAll])
  (show (WTm.eq .res (.lit (.bool true))).value [] {args:=args,res:=some (.bool true),after:=args}=some (.bool (true==true)) from w_eq_bool (w_res rfl) w_lit) rfl
theorem Mb{l:OpenLaw}{n:Nat}{q:Program}{loose:List Str}{XP:(Str->Option Value)->Heap->Prop}{YP:World->Heap->Prop}{d:DefRec}
  (hn:l.most=some n)(hdf:d.params.defaults=[])
  (call:∀(w:World) (s₀ s₁:Shared) (mg mb:Str->Option Value) (fa:Addr) (o:Obj) (pm cd doc:Value) (a:Addr) (vs:List Value) (ns:List Int),
   Ground q loose [] XP w s₀ mg mb s₁.heap->YP w s₁.heap->
   s₁.heap.get? fa=some o->o.data= .func (docDef d.name d.params d.body d.scope pm cd doc)->s₁.heap.CodeRec cd d.name->mg d.name=some (.ref fa)->
   s₁.heap.get? a=some {cls:= .type "list",data:= .seq vs.toArray}->IntsAre vs ns->ns.length<=n->s₁.gens= #[]->
   codeAny (model l.prog w) callerA (.call (.ref fa) ⟨[.ref a],[]⟩) (fun r s'=>r= .ok (.ret (.bool true))/\OldK s₁.heap s'.heap/\s'.os=s₁.os/\AllBare s'.gens) s₁):
  WalkO q loose XP YP l.row.toRowW d [] (fun f vs=>PySem.call f vs):=by
 intro w s₀ s₁ mg mb G Y fa o pm cd doc dV kV ho hd DL hD hmg hg args vals as No hlay hrd Nk hlo
 obtain rfl:dV= .none:=Dflts.none hD hdf
 obtain rfl:kV= .none:=Dflts.noKw hD
 obtain⟨a,vs,ns,rfl,rfl,hobj,hints,G1⟩:=Qe hn No Nk
 refine enter_call (Dk (call w s₀ s₁ mg mb fa o pm cd doc a vs ns G Y ho (fd_plain hd) DL hmg hobj hints G1 hg) fun r s' hq=> ?_)
 obtain⟨rfl,h2,h3,h4⟩:=hq
 exact⟨.inl ⟨.bool true, .bool true,[],rfl,fun _=>rfl, .bool true,Qr l _,fun _=>⟨List.Pairwise.nil,fun _ hm=>(nomatch hm)⟩⟩,h2,h3,h4⟩
section
variable {prog:Program} {w:World} {A:Around} {E:Value->Shared->Prop} {s:Shared} {K:Frag}
def QcH(h:Heap)(L d:Addr):List (Addr×Obj):=(List.range h.objs.size).filterMap fun a=>if a=L\/a=d then none else (h.get? a).map fun o=>(a,o)
end
end Att
namespace L2
open PySem PySem.Spec PyProof.Rows
theorem Du:∀{vs:List Value} {ns:List Int},IntsAre vs ns->u3 (ns.map V.int) vs
 |_,_, .nil=> .nil
 |_,_, .cons n t h=> .cons ⟨t,rfl⟩ (Du h)
def Qbp(H:Hp):Prop:=∀b,H b=none\/∃o xs,H b=some (.frz o (.lst xs))
theorem TQ{P:Program}{w:World}{K:j6}{mg mb:Str->Option Value}{CX:Mu}{k:Nat}{fa a:Addr}{fd:FuncData}{x:Str}{sp:Sp}{s₁:Shared}{vs:List Value}{ns:List Int}
  (KX:K.In s₁.heap)(QM:s₁.heap.Ns mainGlobals mg)(hb:s₁.heap.Ns builtinsNs mb)(hbb:∀x:Str,x≠"__name__"->mb x=bootBuiltins x)(hlim:s₁.heap.NoLimit)(hg:s₁.gens= #[])
  (ha:s₁.heap.get? a=some {cls:= .type "list",data:= .seq vs.toArray})(hi:IntsAre vs ns)(hl:ns.length<=sizeLine)(hr:Room k callerA)
  (F:∀base:Heap,K.In base->base.Ns mainGlobals mg->FnOkL P w K mg base CX k fa fd [x] sp)(hbind:∀(s:Shared) (u:Value),BindsTo s fd ⟨[u],[]⟩ [(x,u)])
  (Ha:∀H:Hp,Qbp H->l7 K H a (ns.map V.int)->sp [.ref a] H (fun v _=>v= .bl true) fun _ _ _=>False)
  (hCX:∀H e s',CX [] H s₁ (fun _ _ _=>False) e s'->False):
  codeAny (model P w) callerA (.call (.ref fa) ⟨[.ref a],[]⟩) (fun r s'=>r= .ok (.ret (.bool true))/\OldK s₁.heap s'.heap/\s'.os=s₁.os/\AllBare s'.gens) s₁:=by
 have rv:=Du hi
 have lenV:=hi.length
 -- from an abstract heap in which nothing but the script may be tracked
 have core:∀H:Hp,Qbp H->l7 K H a (ns.map V.int)->AZ P w H s₁.heap->(∀b,H b≠none->b=a)->(H a≠none->K.lookup a=none)->
   codeAny (model P w) callerA (.call (.ref fa) ⟨[.ref a],[]⟩) (fun r s'=>r= .ok (.ret (.bool true))/\OldK s₁.heap s'.heap/\s'.os=s₁.os/\AllBare s'.gens) s₁:=by
  intro H hO hS hok hA hK
  have base_of:∀{b:Addr} {o:Obj},s₁.heap.get? b=some o->H b=none->(Jh s₁.heap H).get? b=some o:=fun e n=>Uh e n
  have noA:∀{b:Addr} {o:Obj} {es:Array DictEntry} {ep:Nat},s₁.heap.get? b=some o->o.data= .dict es ep->H b=none:=fun{b o es ep} e d=>by
   cases q:H b with
   |none=>rfl
   |some u=>
    have e':b=a:=hA b (by rw[q];simp)
    subst e'
    rw[ha] at e;cases e
    have d':Data.seq vs.toArray _=Data.dict es ep:=d
    cases d'
  have nsK:∀{b:Addr} {m:Str->Option Value},s₁.heap.Ns b m->(Jh s₁.heap H).Ns b m:=fun{b m} ⟨o,es,ep,e,d,r⟩=>⟨o,es,ep,base_of e (noA e d),d,r⟩
  have hKb:K.In (Jh s₁.heap H):=fun b o e=>base_of (KX b o e) (by
   cases q:H b with
   |none=>rfl
   |some u=>
    have e':b=a:=hA b (by rw[q];simp)
    subst e'
    rw[hK (by rw[q];simp)] at e;cases e)
  have hM:Mod K mg (Jh s₁.heap H):=⟨hKb,nsK QM,⟨mb,nsK hb,hbb⟩,let ⟨mc,h1,h2⟩:=hlim;⟨mc,nsK h1,h2⟩⟩
  have e0:Env0w P w K mg (Jh s₁.heap H) callerA [] s₁ H:=⟨rfl,hM,fun b o e=>WV e,EF (QP _ _),trivial,fun b hb=>absurd (show b∈([]:List Addr) from hb) (by simp),hok, .of_eq hg⟩
  refine Dk ((F _ hKb (nsK QM)).run callerA [] s₁ H ⟨[.ref a],[]⟩ [.ref a] [.ref a] _ _ hr e0 (hbind s₁ (.ref a)) (.cons rfl .nil) (Ha H hO hS)) fun r s' h=> ?_
  cases r with
  |error e=>exact(hCX H e s' h).elim
  |ok fl=>
   cases fl with
   |next=>exact False.elim h
   |brk=>exact False.elim h
   |cont=>exact False.elim h
   |ret u=>
    obtain⟨v,H',os,bare,un,hok',r',q⟩:=h
    have q':v= .bl true:=q
    subst q'
    obtain rfl:u=Value.bool true:=r'
    refine⟨rfl,OldK.of_keep fun b o e=> ?_,os,bare⟩
    cases q:H b with
    |none=>exact un.keep b o e q (by intro z;exact absurd (show b∈([]:List Addr) from z) (by simp)) (by simp)
    |some u=>
     rcases hO b with z|⟨ob,xs,z⟩
     ·rw[q] at z;cases z
     ·have z2:=un.frzs b ob _ z
      obtain⟨e1,_⟩:=hok b _ z
      obtain⟨e2,_⟩:=hok' b _ z2
      rw[e] at e1;cases e1
      exact e2
 cases hk:K.lookup a with
 |some o=>
  -- the script is one of the module's own objects
  have e:=KX a o hk
  rw[ha] at e
  cases e
  refine core (fun _=>none) (fun _=> .inl rfl) (.inr ⟨_,vs.toArray,_,hk,rfl,rfl,rfl,by rw[C6,lenV];exact hl,by simpa using rv⟩) (fun b u z=>by have z':(none:Option HO)=some u:=z;cases z') (fun b z=>absurd rfl z) fun z=>absurd rfl z
 |none=>
  refine core (fun b=>if b=a then some (.frz {cls:= .type "list",data:= .seq vs.toArray} (.lst (ns.map V.int))) else none) (fun b=> ?_) (.inl (.inr ⟨{cls:= .type "list",data:= .seq vs.toArray},if_pos rfl⟩)) (fun b u z=> ?_) (fun b z=> ?_) fun _=>hk
  ·by_cases hb:b=a
   ·exact .inr ⟨_,_,if_pos hb⟩
   ·exact .inl (if_neg hb)
  ·by_cases hb:b=a
   ·have z':=(if_pos hb).symm.trans z
    cases z'
    subst hb
    exact⟨ha,by rw[i4];exact hl,vs,_,rv,ha⟩
   ·have z':=(if_neg hb).symm.trans z
    cases z'
  ·by_cases hb:b=a
   ·exact hb
   ·exact absurd (if_neg hb) z
abbrev KOf{K:j6}{h:Heap}(_:K.In h):j6:=K
theorem Ou{l:PySem.W.OpenLaw}{n k:Nat}{q:Program}{loose:List Str}{XP:(Str->Option Value)->Heap->Prop}{YP:World->Heap->Prop}{d:DefRec}{K:Params->j6}{CX:World->Mu}{sp:World->Sp}{x:Str}
  (hn:l.most=some n)(hn2:n<=sizeLine)(hdf:d.params.defaults=[])(hr:Room k callerA)
  (hY:∀(w:World) (h:Heap),YP w h->(K w.params).In h)
  (F:∀(w:World) (mg:Str->Option Value) (fa:Addr) (h:Heap),(K w.params).In h->h.Ns mainGlobals mg->mg d.name=some (.ref fa)->
   ∃fd:FuncData,(∀(s:Shared) (u:Value),BindsTo s fd ⟨[u],[]⟩ [(x,u)])/\
    ∀base:Heap,(K w.params).In base->base.Ns mainGlobals mg->FnOkL l.prog w (K w.params) mg base (CX w) k fa fd [x] (sp w))
  (Ha:∀(w:World) (H:Hp) (a:Addr) (ns:List Int),ns.length<=n->Qbp H->l7 (K w.params) H a (ns.map V.int)->sp w [.ref a] H (fun v _=>v= .bl true) fun _ _ _=>False)
  (hCX:∀(w:World) (H:Hp) (s:Shared) (e:Value) (s':Shared),CX w [] H s (fun _ _ _=>False) e s'->False):
  PySem.W.WalkO q loose XP YP l.row.toRowW d [] (fun f vs=>PySem.call f vs):=by
 refine Att.Mb hn hdf fun w s₀ s₁ mg mb fa o pm cd doc a vs ns G Y ho hd DL hmg hobj hints G1 hg=> ?_
 have KX:=hY w _ Y
 obtain⟨fd,hb,hF⟩:=F w mg fa _ KX G.T.g hmg
 exact TQ KX G.T.g G.T.b G.T.builtins G.T.nolimit hg hobj hints (E7 G1 hn2) hr hF hb (fun H hO hS=>Ha w H a ns G1 hO hS) fun H e s'=>hCX w H s₁ e s'
end L2
/- THE LAST THEOREM (shape; LID, My.* are yours):
   My.Adr: a structure of the addresses that your layer names (classes, functions); My.Txt K t: a structure (Prop) of the equations over K;
   My.txt_mk : {K} {implicit addresses ..} (e1 : nsIn K mainGlobals "law" = some (some (.ref f))) (e2 : K.lookup f = some ⟨oc, od, .func (fnOf "law" "law" params body scope dV kV doc pm an E6 ct), sl⟩) (e3 : codeIn K E6 "law" = true) .. : ∃ t, My.Txt K t

set_option maxRecDepth 100000 in
set_option maxHeartbeats 0 in
theorem PySem.Challenge.cw_LID_holds : PySem.Challenge.rw_LID.Holds := by
  w_on; o_law; k_head; (case hw => w_witness2)
  k_fill
  refine L2.Ou (l := PySem.Challenge.rw_LID) (n := 63) (k := 40) (x := "script") (CX := fun w => ..) (sp := fun _ => My.sp_law) rfl (by decide) rfl ⟨rfl, by decide, by decide⟩ (fun w h Y => PySem.W.kIn_of Y) ?F ?S ?C
  case F =>
    intro w mg fa h KX G hmg
    have T : ∃ t, My.Txt (L2.KOf KX) t := by
      dsimp only [L2.KOf]                          -- K must stand as «<heap const> w.params» for k_is
      refine' My.txt_mk ?e1 ?e2 ?e3 ..
      (case e1 => PySem.W.k_is)                    -- in the order: a name -> n5 address -> n5 object -> n5 parts
      (case e2 => PySem.W.k_is)
      ..
    obtain ⟨t, T⟩ := T
    have e0 := hmg.symm.trans (u7 KX G T.law)
    cases e0                                       -- fa is the law's own address
    exact ⟨_, fun s u => .of_eq rfl, fun base kb nb => My.law_fn T kb nb⟩     -- if «.of_eq rfl» comes too early: refine' ⟨_, ?b, fun base kb nb => My.law_fn T kb nb⟩; exact fun s u => .of_eq rfl
  case S => exact fun w H a ns hl hO hS => ..
  case C => exact ..
(the tactic k_is has no namespace: write k_is) -/
namespace L2
open PySem PySem.Spec PyProof.Rows
def AH(s:Stmt)(j:Nat):Stmt:=match s with
 | .ClassDef _ _ _ body _ _ _ _ _ _ _=>body.getD j (.Pass ⟨0,0,0,0⟩)
 |_=> .Pass ⟨0,0,0,0⟩
def AJ(s:Stmt):Arguments:=match s with
 | .FunctionDef _ a _ _ _ _ _ _ _ _=>a
 |_=>{posonlyargs:=[],args:=[],vararg:=none,kwonlyargs:=[],kw_defaults:=[],kwarg:=none,defaults:=[]}
def S9(s:Stmt):List Stmt:=match s with
 | .FunctionDef _ _ b _ _ _ _ _ _ _=>b
 |_=>[]
def i3(s:Stmt):Scope:=match s with
 | .FunctionDef _ _ _ _ _ _ sc _ _ _=>sc
 |_=>{kind:= .function,names:=[],isGenerator:=false,isCoroutine:=false}
abbrev D7:Mu:=fun _ _ _ _ _ _=>False
abbrev E0:XK:=fun _ _ _=>False
theorem k9{X:Cx}:BE D7 X E0:=fun _ _ _ _ _ _ _ h=>h.elim
structure Fun(K:j6)(x qual:Str)(st:Stmt)(f:Addr)(fd:FuncData):Prop where
 ex:∃(oc:Value) (od:Option Addr) (kV doc pm:Value) (an:Option Addr) (E6 ct:Value) (osl:Array (Option Value)),
  fd=PySem.W.fnOf x qual (AJ st) (S9 st) (i3 st) .none kV doc pm an E6 ct/\K.lookup f=some ⟨oc,od, .func fd,osl⟩/\PySem.W.codeIn K E6 qual=true
 kp:PySem.W.keepIn K (.ref f)=true
section
variable {P:Program} {w:World} {K:j6} {mg:Str->Option Value} {base:Heap}
theorem Fun.ok{x qual:Str}{st:Stmt}{f:Addr}{fd:FuncData}{N ps:List Str}{k:Nat}{sp:Sp}(F:Fun K x qual st f fd)(S:FnScope N ps (i3 st))(len:∀vs H Q E,sp vs H Q E->vs.length=ps.length)
  (Bp:∀(E6:Value) (A:Around) (outer:List Env) (s:Shared) (H:Hp) (vs:List V) (Q:VK) (E:XK),Room k (A.deeper (envOfC qual (i3 st) s.heap.objs.size f E6))->sp vs H Q E->
   ∃t,Hm (X7 D7 P w K mg base N qual (i3 st) f E6 A outer s H E).nox (S9 st) t/\t {nx:=fun _ H'=>Q .non H',rt:=Q} (start N vs) H):FnOk P w K mg base D7 (k+1) f fd ps sp:=by
 obtain⟨oc,od,kV,doc,pm,an,E6,ct,osl,rfl,lk,DL⟩:=F.ex
 refine Zk lk DL S len fun A outer s H vs Q E hr Ha=> ?_
 obtain⟨t,h,q⟩:=Bp E6 A outer s H vs Q E hr Ha
 exact⟨t,h.nox,q⟩
theorem Fun.okL{x qual:Str}{st:Stmt}{f:Addr}{fd:FuncData}{N ps:List Str}{k:Nat}{sp:Sp}(F:Fun K x qual st f fd)(S:FnScope N ps (i3 st))(len:∀vs H Q E,sp vs H Q E->vs.length=ps.length)
  (Bp:∀(E6:Value) (A:Around) (outer:List Env) (s:Shared) (H:Hp) (vs:List V) (Q:VK) (E:XK),Room k (A.deeper (envOfC qual (i3 st) s.heap.objs.size f E6))->sp vs H Q E->
   ∃t,Ru (X7 D7 P w K mg base N qual (i3 st) f E6 A outer s H E).nox (S9 st) t/\t {nx:=fun _ H'=>Q .non H',rt:=Q} (start N vs) H):FnOkL P w K mg base D7 (k+1) f fd ps sp:=by
 obtain⟨oc,od,kV,doc,pm,an,E6,ct,osl,rfl,lk,DL⟩:=F.ex
 refine Qbd lk DL S len fun A outer s H vs Q E hr Ha=> ?_
 obtain⟨t,h,q⟩:=Bp E6 A outer s H vs Q E hr Ha
 exact⟨t,h.nox,q⟩
theorem Fun.binds{x qual:Str}{st:Stmt}{f:Addr}{fd:FuncData}{ps:List Str}(F:Fun K x qual st f fd)
  (h:∀(kV doc pm:Value) (an:Option Addr) (E6 ct:Value) (us:List Value),us.length=ps.length->bindArgs (PySem.W.fnOf x qual (AJ st) (S9 st) (i3 st) .none kV doc pm an E6 ct) ⟨us,[]⟩=pure (ps.zip us)):Binds K fd ps []:=by
 obtain⟨oc,od,kV,doc,pm,an,E6,ct,osl,rfl,lk,DL⟩:=F.ex
 exact .all (h kV doc pm an E6 ct)
theorem Uo{x qual:Str}{st:Stmt}{f:Addr}{oc:Value}{od an:Option Addr}{osl:Array (Option Value)}{kV doc pm E6 ct:Value}(l:K.lookup f=some ⟨oc,od, .func (PySem.W.fnOf x qual (AJ st) (S9 st) (i3 st) .none kV doc pm an E6 ct),osl⟩)
  (c:PySem.W.codeIn K E6 qual=true)(k:PySem.W.keepIn K (.ref f)=true):Fun K x qual st f (PySem.W.fnOf x qual (AJ st) (S9 st) (i3 st) .none kV doc pm an E6 ct):=⟨⟨oc,od,kV,doc,pm,an,E6,ct,osl,rfl,l,c⟩,k⟩
end
theorem E3{A:Around}{k:Nat}(hr:Room k A):A.units+1<cLine:=VL (Nat.add_le_add_left (by decide:1<=64) _) hr.units
theorem N9{n:Nat}(h:n<=1000):n<sizeLine:=VL h (by decide)
section
variable {X:Cx}
theorem pv(i:Nat){x:Str}{pos:Pos}(hN:X.N[i]? =some x:=by rfl)(hv:Vis X.env.scope x:=by first|exact Or.inl rfl|exact Or.inr (Or.inl rfl)|exact Or.inr (Or.inr rfl))(hd:(x==("__debug__":Str))=false:=by decide)
  (DL:(x==("__classdict__":Str))=false:=by decide):PE X (.Name x pos) (CI i):=Tn hN hv hd DL
end
theorem Ni{A B:Prop}(h:B):if false=true then A else B:=by
 rw[if_neg K3]
 exact h
theorem Xm{A B:Prop}(h:A):if true=true then A else B:=by
 rw[if_pos rfl]
 exact h
theorem X4{c A B:Prop}[Decidable c](h1:c->A)(h2:¬c->B):if c then A else B:=by
 by_cases h:c
 ·rw[if_pos h]
  exact h1 h
 ·rw[if_neg h]
  exact h2 h
def i6(H H':Hp):Prop:=∀b o,H b=some o->H' b=some o
theorem i6.refl(H:Hp):i6 H H:=fun _ _ h=>h
theorem i6.trans{H H1 H2:Hp}(a:i6 H H1)(b:i6 H1 H2):i6 H H2:=fun c o h=>b c o (a c o h)
theorem i6.free{H H':Hp}(e:i6 H H'){l:Addr}(h:H' l=Option.none):H l=Option.none:=by
 cases q:H l with
 |none=>rfl
 |some o=>
  rw[e l o q] at h
  cases h
theorem i6.seq{K:j6}{H H':Hp}{a:Addr}{xs:List V}(e:i6 H H')(h:l7 K H a xs):l7 K H' a xs:=by
 rcases h with (h|⟨o,h⟩)|h
 ·exact .inl (.inl (e _ _ h))
 ·exact .inl (.inr ⟨o,e _ _ h⟩)
 ·exact .inr h
end L2
set_option maxHeartbeats 4000000
namespace L2
open PySem
def T3(env:Env):List (Str×NameKind)->List (Str×Addr)->List (Str×Addr)
 |[],cs=>cs
 |(n,k)::r,cs=>if (k== .free)=true then T3 env r ((n,(env.cells.lookup n).getD 0)::cs) else T3 env r cs
theorem He{sc:Scope}{env:Env}(h:∀n,(n,NameKind.free)∈sc.names->∃c,env.cells.lookup n=some c):closureFor sc env=pure (T3 env sc.names []):=by
 simp only[closureFor]
 generalize sc.names=l at h
 generalize ([]:List (Str×Addr))=cs
 induction l generalizing cs with
 |nil=>rfl
 |cons x r ih=>
  obtain⟨n,k⟩:=x
  have hr:∀n,(n,NameKind.free)∈r->∃c,env.cells.lookup n=some c:=fun n hn=>h n (B1 _ hn)
  rw[Oo,T3]
  by_cases hk:(k==NameKind.free)=true
  ·have hk':k= .free:=by cases k<;>first|rfl|exact absurd hk (by decide)
   subst hk'
   obtain⟨c,hc⟩:=h n A5
   have e:cellOf env n=pure c:=by unfold cellOf;rw[hc]
   simp only[e]
   rw[if_pos hk,if_pos hk,hc]
   exact ih hr _
  ·rw[if_neg hk,if_neg hk]
   exact ih hr _
theorem Ae{env:Env}{x:Str}{c:Addr}:∀(l:List (Str×NameKind)) (cs:List (Str×Addr)),(∀n,(n,NameKind.free)∈l->∃c,env.cells.lookup n=some c)->(∀y d,cs.lookup y=some d->env.cells.lookup y=some d)->
  (T3 env l cs).lookup x=some c->env.cells.lookup x=some c
 |[],cs,_,hc,e=>hc x c e
 |(n,k)::r,cs,h,hc,e=>by
  have hr:∀n,(n,NameKind.free)∈r->∃c,env.cells.lookup n=some c:=fun n hn=>h n (B1 _ hn)
  rw[T3] at e
  split at e
  ·rename_i hk
   have hk':k= .free:=by cases k<;>first|rfl|exact absurd hk (by decide)
   subst hk'
   obtain⟨c',hc'⟩:=h n A5
   refine Ae r _ hr (fun y d hy=> ?_) e
   rw[P0] at hy
   split at hy
   ·rename_i hyn
    have:y=n:=eq_of_beq hyn
    subst this
    rw[hc'] at hy
    rw[hc'];exact hy
   ·exact hc y d hy
  ·exact Ae r cs hr hc e
theorem AK{env:Env}{x:Str}:∀(l:List (Str×NameKind)) (cs:List (Str×Addr)),((x,NameKind.free)∈l\/∃d,cs.lookup x=some d)->∃d,(T3 env l cs).lookup x=some d
 |[],cs,h=>by
  rcases h with h|h
  ·cases h
  ·exact h
 |(n,k)::r,cs,h=>by
  rw[T3]
  split
  ·rename_i hk
   refine AK r _ ?_
   by_cases hx:x=n
   ·subst hx;exact .inr ⟨_,by rw[P0];simp;rfl⟩
   ·rcases h with h|⟨d,h⟩
    ·rcases C8.mp h with e|e
     ·exact absurd (congrArg Prod.fst e) hx
     ·exact .inl e
    ·refine .inr ⟨d,?_⟩
     rw[P0]
     have:(x==n)=false:=by simpa using hx
     rw[this];exact h
  ·rename_i hk
   refine AK r _ ?_
   rcases h with h|h
   ·rcases C8.mp h with e|e
    ·have:k= .free:=(congrArg Prod.snd e).symm
     subst this
     exact absurd rfl hk
    ·exact .inl e
   ·exact .inr h
theorem Cg{env:Env}{x:Str}{k':NameKind}:∀{names:List (Str×NameKind)},(names.map fun(n,k)=>if (k==NameKind.free&&env.scope.kind== .function&&env.kindOf n==some .cell) then (n,NameKind.cell) else (n,k)).lookup x=some k'->
  ∃k,names.lookup x=some k/\(k'=k\/(k= .free/\k'= .cell))
 |[],h=>by simp at h
 |(n,k)::r,h=>by
  have ih:= @Cg env x k' r
  have h':List.lookup x ((if (k==NameKind.free&&env.scope.kind== .function&&env.kindOf n==some .cell)=true then (n,NameKind.cell) else (n,k))::(r.map fun(n,k)=>if (k==NameKind.free&&env.scope.kind== .function&&env.kindOf n==some .cell) then (n,NameKind.cell) else (n,k)))=some k':=h
  cases hx:x==n with
  |true=>
   refine⟨k,by rw[P0,hx],?_⟩
   by_cases hc:(k==NameKind.free&&env.scope.kind== .function&&env.kindOf n==some .cell)=true
   ·rw[if_pos hc,P0,hx] at h'
    have hk:(k==NameKind.free)=true:=by
     rw[Q7,Q7] at hc
     exact hc.1.1
    exact .inr ⟨eq_of_beq hk,(R7 h').symm⟩
   ·rw[if_neg hc,P0,hx] at h'
    exact .inl (R7 h').symm
  |false=>
   rw[P0,hx]
   by_cases hc:(k==NameKind.free&&env.scope.kind== .function&&env.kindOf n==some .cell)=true
   ·rw[if_pos hc,P0,hx] at h';exact ih h'
   ·rw[if_neg hc,P0,hx] at h';exact ih h'
theorem CS{env:Env}{x:Str}(hf:env.scope.kind= .function)(hx:env.kindOf x=some .cell):∀{names:List (Str×NameKind)},names.lookup x=some .free->
  (names.map fun(n,k)=>if (k==NameKind.free&&env.scope.kind== .function&&env.kindOf n==some .cell) then (n,NameKind.cell) else (n,k)).lookup x=some .cell
 |[],h=>by simp at h
 |(n,k)::r,h=>by
  have ih:= @CS env x hf hx r
  show List.lookup x ((if (k==NameKind.free&&env.scope.kind== .function&&env.kindOf n==some .cell)=true then (n,NameKind.cell) else (n,k))::(r.map fun(n,k)=>if (k==NameKind.free&&env.scope.kind== .function&&env.kindOf n==some .cell) then (n,NameKind.cell) else (n,k)))=some .cell
  cases hxn:x==n with
  |true=>
   rw[P0,hxn] at h
   have hk:k= .free:=R7 h
   have hn:n=x:=(eq_of_beq hxn).symm
   subst hk hn
   rw[if_pos (by rw[hf,hx];decide),P0,hxn]
  |false=>
   rw[P0,hxn] at h
   by_cases hc:(k==NameKind.free&&env.scope.kind== .function&&env.kindOf n==some .cell)=true
   ·rw[if_pos hc,P0,hxn];exact ih h
   ·rw[if_neg hc,P0,hxn];exact ih h
def Jv(NX:List Str)(sX sc:Scope)(N:List Str)(pick:List (Option Nat)):Bool:=
 decide (sc.kind= .function)&&(sc.names.all fun y=>decide (y.2≠ .cell))&&(sc.names.all fun y=>decide (y.2≠ .local)||decide (sc.names.lookup y.1=some .local))&&
 (sc.names.all fun y=>decide (y.2≠ .free)||decide (sX.names.lookup y.1=some .cell))&&decide (pick.length=N.length)&&
 ((List.range N.length).all fun i=>match pick[i]?,N[i]? with
  |some (some j),some x=>decide (NX[j]? =some x)&&decide (sc.names.lookup x=some .free)&&decide (sX.names.lookup x=some .cell)
  |_,_=>true)
structure CompSc(NX:List Str)(sX sc:Scope)(N:List Str)(pick:List (Option Nat)):Prop where
 kind:sc.kind= .function
 nocell:∀y∈sc.names,y.2≠ .cell
 names:∀y∈sc.names,y.2= .local->sc.names.lookup y.1=some .local
 free:∀n,(n,NameKind.free)∈sc.names->sX.names.lookup n=some .cell
 len:pick.length=N.length
 pk:∀(i j:Nat) (x:Str),pick[i]? =some (some j)->N[i]? =some x->NX[j]? =some x/\sc.names.lookup x=some .free/\sX.names.lookup x=some .cell
theorem HY{NX:List Str}{sX sc:Scope}{N:List Str}{pick:List (Option Nat)}(h:Jv NX sX sc N pick=true):CompSc NX sX sc N pick:=by
 unfold Jv at h
 rw[Q7,Q7,Q7,Q7,Q7] at h
 obtain⟨⟨⟨⟨⟨h1,h2⟩,h3⟩,h4⟩,h5⟩,h6⟩:=h
 rw[Em] at h2 h3 h4 h6
 refine⟨A2 h1,fun y hy=>A2 (h2 y hy),fun y hy hl=> ?_,fun n hn=> ?_,A2 h5,fun i j x e1 e2=> ?_⟩
 ·have q:=h3 y hy
  rw[On] at q
  rcases q with q|q
  ·exact absurd hl (A2 q)
  ·exact A2 q
 ·have q:=h4 _ hn
  rw[On] at q
  rcases q with q|q
  ·exact absurd rfl (A2 q)
  ·exact A2 q
 ·have q:=h6 i (Mj.mpr (u4.mp e2).1)
  rw[e1,e2] at q
  have q':(decide (NX[j]? =some x)&&decide (sc.names.lookup x=some .free)&&decide (sX.names.lookup x=some .cell))=true:=q
  rw[Q7,Q7] at q'
  exact⟨A2 q'.1.1,A2 q'.1.2,A2 q'.2⟩
section
variable {prog:Program} {w:World} {A:Around} {E:Value->Shared->Prop} {R:Result->Shared->Prop} {s:Shared}
theorem Jw{elt target iter:Expr}{ifs:List Expr}{scope:Scope}{pos:Pos}{it V1:Value}{env:Env}(I:Nat->Shared->Prop)
  (turn:∀n s,I n s->wpAny (model prog w) A (pyNext it) (fun r s₁=>match r with
   |none=>R (.ok .next) s₁
   |some v=>wpAny (model prog w) A (letOwnedTupleGo target it v) (fun _ s₀=>wpAny (model prog w) A (assign target env v) (fun _ s₂=>
     wpAny (model prog w) A (forIn ifs true fun c r=>if r=true then do let ok<-isTrue c env (eval c env);pure (ForInStep.yield ok) else pure (ForInStep.yield r)) (fun ok s₃=>
      if ok=true then wpAny (model prog w) A (eval elt env) (fun x s₄=>
       wpAny (model prog w) A (call (.builtin "list.append") [V1,x]) (fun _ s₅=>∃m,m<n/\I m s₅) (notedBy (model prog w) A env fun e s'=>R (.error e) s') s₄) (notedBy (model prog w) A env fun e s'=>R (.error e) s') s₃
      else ∃m,m<n/\I m s₃) (notedBy (model prog w) A env fun e s'=>R (.error e) s') s₂) (notedBy (model prog w) A env fun e s'=>R (.error e) s') s₀) (notedBy (model prog w) A env fun e s'=>R (.error e) s') s₁) (notedBy (model prog w) A env fun e s'=>R (.error e) s') s)
  (n:Nat)(h:I n s):
  codeAny (model prog w) A (.compLoop (.ListComp elt [⟨target,iter,ifs,0⟩] scope pos) 0 it V1 env) R s:=by
 refine codeAny_loop rfl I (fun n s hI=> ?_) n h
 show wpAny _ A ((compTurn (.ListComp elt [⟨target,iter,ifs,0⟩] scope pos) 0 it V1 env).onRaise (fun x=>do noteFrame x env;theTreesLotGoes x)) _ _ s
 refine wpAny_noted ?_
 rw[compTurn_list]
 refine e8 (Kn (e8 (I9 (turn n s hI) (fun r s₁ h₁=> ?_) fun _ _ h'=>h')))
 cases r with
 |none=>exact l0 h₁
 |some v=>
  refine e8 (I9 h₁ (fun _ s₀ h₀=> ?_) fun _ _ h'=>h')
  refine e8 (I9 h₀ (fun _ s₂ h₂=>e8 (I9 h₂ (fun ok s₃ h₃=> ?_) fun _ _ h'=>h')) fun _ _ h'=>h')
  cases ok with
  |false=>exact l0 ⟨rfl,h₃⟩
  |true=>
   exact e8 (e8 (I9 h₃ (fun x s₄ h₄=>e8 (I9 h₄ (fun _ s₅ h₅=>l0 (l0 ⟨rfl,h₅⟩)) fun _ _ h'=>h')) fun _ _ h'=>h'))
end
end L2
namespace L2
open PySem PySem.Spec PyProof.Rows
theorem Inw.track{X:Cx}{c4:List (Addr×Obj)}{σ:St}{H:Hp}{s:Shared}{a:Addr}{o:HO}(I:Inw X c4 σ H s)(hn:H a=none)(hL:a≠X.env.locals)(h1:X.s₀.heap.objs.size<=a)
  (h2:∀x c,X.env.cells.lookup x=some c->c≠a)(h3:∀p∈X.pn++c4,p.1≠a)(new:D0 X.prog X.w (i8 H a o) s.heap a o):Inw X c4 σ (i8 H a o) s:=by
 have ne:∀b u,H b=some u->b≠a:=fun b u e=>j4 e hn
 have old:∀b ob,X.s₀.heap.get? b=some ob->b≠a:=fun b ob e z=>by
  subst z;exact absurd (E9 (A1 e) h1) (Cd _)
 refine⟨I.ok,I.os,I.bare,⟨I.base.keep,I.base.slot,fun b ob e n hx=> ?_,I.base.there,fun b xs e=> ?_,fun b ob u e=> ?_,fun b ps e=> ?_⟩,I.loc,I.cell,?_,fun x c e=> ?_,fun p hp=> ?_,fun b u e=> ?_,I.len⟩
 ·rw[g9 (old b ob e)];exact I.base.free b ob e n hx
 ·have q:=I.base.tups b xs e;rw[g9 (ne b _ q)];exact q
 ·have q:=I.base.frzs b ob u e;rw[g9 (ne b _ q)];exact q
 ·obtain⟨more,q⟩:=I.base.tbls b ps e;exact⟨more,by rw[g9 (ne b _ q)];exact q⟩
 ·rw[g9 (D9 hL)];exact I.free
 ·rw[g9 (h2 x c e)];exact I.freeC x c e
 ·obtain⟨e,n,ne',nf,d⟩:=I.pin p hp
  exact⟨e,by rw[g9 (h3 p hp)];exact n,ne',nf,d⟩
 ·by_cases hb:b=a
  ·subst hb;rw[c6] at e;cases e;exact new
  ·rw[g9 hb] at e
   exact(I.hok b u e).stay (fun _ _ _ q=>q) (fun c q=>by rw[g9 (ne c _ q)];exact q) fun c xs q=>by rw[g9 (ne c _ q)];exact q
def Cx.blk(X:Cx)(sc:Scope)(N:List Str)(C:Addr)(s₀:Shared)(H₀:Hp)(ex:List Addr):Cx:=
 {X with N:=N,s₀:=s₀,H₀:=H₀,env:=compEnvC sc (T3 X.env sc.names []) C X.env,outer:=X.stack,ex:=ex,fn:=fun _=>false,pn:=[],xe:=fun _ _=>False}
def V8(pick:List (Option Nat))(σ:St):St:=pick.map fun o=>match o with
 |none=>none
 |some j=>match σ[j]? with
  |some (some v)=>some v
  |_=>none
theorem Qs{pick:List (Option Nat)}{σ:St}{i:Nat}{v:V}(h:(V8 pick σ)[i]? =some (some v)):∃j,pick[i]? =some (some j)/\σ[j]? =some (some v):=by
 unfold V8 at h
 rw[u8] at h
 cases e:pick[i]? with
 |none=>rw[e] at h;cases h
 |some o=>
  rw[e] at h
  cases o with
  |none=>cases h
  |some j=>
   refine⟨j,rfl,?_⟩
   have h':(match σ[j]? with|some (some v)=>some v|_=>none)=some v:=R7 h
   cases e2:σ[j]? with
   |none=>rw[e2] at h';cases h'
   |some o2=>
    rw[e2] at h'
    cases o2 with
    |none=>cases h'
    |some v'=>cases h';rfl
section
variable {X:Cx} {c4:List (Addr×Obj)} {σ:St} {H:Hp} {s₂:Shared} {NX N:List Str} {sX sc:Scope} {pick:List (Option Nat)} {fp:List Addr}
theorem U9(I:Inv X c4 σ H s₂)(ck:CompSc NX sX sc N pick)(hX:X.env.scope=sX){x:Str}{c:Addr}(e:(T3 X.env sc.names []).lookup x=some c):X.env.cells.lookup x=some c:=
 Ae sc.names [] (fun n hn=>I.ok.has n (.inl (by show X.env.scope.names.lookup n=_;rw[hX];exact ck.free n hn))) (fun _ _ h=>by simp at h) e
theorem Ma(I:Inv X c4 σ H s₂)(ck:CompSc NX sX sc N pick)(hX:X.env.scope=sX):closureFor sc X.env=pure (T3 X.env sc.names []):=
 He fun n hn=>I.ok.has n (.inl (by show X.env.scope.names.lookup n=_;rw[hX];exact ck.free n hn))
theorem Qbl(I:Inv X c4 σ H s₂)(ck:CompSc NX sX sc N pick)(hX:X.env.scope=sX){C D:Addr}{od:Obj}{H':Hp}(hC:s₂.heap.objs.size<=C)(hD:s₂.heap.objs.size<=D)(hf:∀b∈fp,Er X c4 H b)(CG:∀b∈fp,b<s₂.heap.objs.size)(hn:∀b∈fp,H' b=none):
  ∀b∈fp,Er (X.blk sc N C s₂ H fp) [(D,od)] H' b:=fun b hb=>by
 obtain⟨f0,f1,f2,f3,f4,f5⟩:=hf b hb
 have O2:=CG b hb
 refine⟨hn b hb,u9 (E9 O2 hC),fun z=> ?_, .inl hb,fun x c e=>f4 x c (U9 I ck hX e),fun p hp=> ?_⟩
 ·rcases C8.mp (I.stkSub b z) with e|e
  ·exact f1 e
  ·exact f2 e
 ·have hp':p∈[(D,od)]:=hp
  rw[x8] at hp'
  subst hp'
  exact Av (E9 O2 hD)
theorem XJ(I:Inv X c4 σ H s₂)(ck:CompSc NX sX sc N pick)(hN:X.N=NX)(hX:X.env.scope=sX)(hf:∀b∈fp,Er X c4 H b)(CG:∀b∈fp,b<s₂.heap.objs.size){h₁:Heap}{C D:Addr}{od:Obj}{m:Str->Option Value}{tk:Nat}
  (old:∀b o,s₂.heap.get? b=some o->h₁.get? b=some o)(hD:s₂.heap.objs.size<=D)(hC:s₂.heap.objs.size<=C)(hDC:D≠C)(hod:h₁.get? D=some od)(hodc:∀v,od.data≠ .cell v)(ns:h₁.Ns C m):
  Inw (X.blk sc N C s₂ H fp) [(D,od)] (V8 pick σ) H {s₂ with heap:=h₁,toks:=tk}:=by
 have kX:X.env.scope.kind= .function:=I.ok.kind
 have noStk:∀b,s₂.heap.objs.size<=b->b∉Jn X.stack:=fun b hb z=>by
  rcases C8.mp (I.stkSub b z) with e|e
  ·exact absurd (E9 I.lt (by rw[<-e];exact hb)) (Cd _)
  ·exact I.nofs hb e
 have ok:(X.blk sc N C s₂ H fp).Ok:=by
  refine⟨I.ok.mod,ck.kind,I.ok.glob,I.ok.blt,hC,fun x y c h1 h2=> ?_,fun x hx=> ?_,fun x c h _=> ?_,I.ok.hd,I.ok.frames, .inl rfl,fun b hb=> ?_,I.bs,E7 I.ok.bsz I.sz,fun b o e hb=> ?_,fun b hb z=> ?_,I.stack,I.stkFree⟩
  ·exact I.ok.inj x y c (U9 I ck hX h1) (U9 I ck hX h2)
  ·have hx':(relabel sc X.env).names.lookup x=some .cell\/(relabel sc X.env).names.lookup x=some .free:=hx
   refine AK sc.names [] (.inl ?_)
   rcases hx' with h|h
   ·obtain⟨k,h1,h2⟩:=Cg h
    rcases h2 with h2|⟨h2,_⟩
    ·exact absurd h2.symm (ck.nocell _ (Dj h1))
    ·rw[h2] at h1;exact Dj h1
   ·obtain⟨k,h1,h2⟩:=Cg h
    rcases h2 with h2|⟨_,h2⟩
    ·rw[<-h2] at h1;exact Dj h1
    ·cases h2
  ·cases h
  ·have O2:=CG b hb
   exact⟨u9 (E9 O2 hC),fun x c e=>(hf b hb).2.2.2.2.1 x c (U9 I ck hX e)⟩
  ·rcases(hf b hb).2.2.2.1 with z|z
   ·exact I.ok.noex b o e z
   ·exact absurd (E9 (A1 e) (E7 I.ok.bsz z)) (Cd _)
  ·rcases C8.mp (I.stkSub b z) with e|e
   ·exact(hf b hb).2.1 e
   ·exact(hf b hb).2.2.1 e
 refine⟨ok,rfl,I.bare,Un.kept old,⟨m,ns,fun i x v h1 h2 h3=> ?_⟩,fun x c e=> ?_,I.hok.fresh hC,fun x c e=>I.freeC x c (U9 I ck hX e),fun p hp=> ?_,I.hok.kept old,?_⟩
 ·obtain⟨j,hp,hσ⟩:=Qs h2
  obtain⟨hNX,Kv,HR⟩:=ck.pk i j x hp h1
  have kx:X.env.kindOf x=some .cell:=by show X.env.scope.names.lookup x=_;rw[hX];exact HR
  obtain⟨mX,_,hl⟩:=I.loc
  obtain⟨u,r,l⟩:=hl j x v (by rw[hN];exact hNX) hσ (.inr (.inl kx))
  refine⟨u,r, .inr ⟨.inl (CS kX kx Kv),?_⟩⟩
  rcases l with ⟨k,_⟩|⟨_,c,e,z⟩
  ·rw[kx] at k;cases k
  ·obtain⟨d,hd⟩:=AK (env:=X.env) (x:=x) sc.names [] (.inl (Dj Kv))
   have hd':=U9 I ck hX hd
   rw[e] at hd';cases hd'
   obtain⟨o,ho,hc⟩:=z
   exact⟨c,hd,o,old _ _ ho,hc⟩
 ·obtain⟨v,o,ho,hc⟩:=I.cell x c (U9 I ck hX e)
  exact⟨v,o,old _ _ ho,hc⟩
 ·have hp':p∈[(D,od)]:=hp
  rw[x8] at hp'
  subst hp'
  exact⟨hod,I.hok.fresh hD,hDC,noStk D hD,hodc⟩
 ·unfold V8
  rw[i4]
  exact ck.len
end
def VR(X:Cx)(ifs:List Expr)(t:TT):Prop:=
 ∀(c4:List (Addr×Obj)) (s:Shared) (σ:St) (H:Hp) (Q:Bool->Hp->Prop),Inv X c4 σ H s->t σ H Q->
  wpAny (model X.prog X.w) X.A (forIn ifs true fun c r=>if r=true then do let ok<-isTrue c X.env (eval c X.env);pure (ForInStep.yield ok) else pure (ForInStep.yield r)) (TP X c4 σ Q) X.xe s
def Sd:TT:=fun _ H Q=>Q true H
theorem G6{X:Cx}:VR X [] Sd:=fun _ _ _ H _ I h=>wpAny_tests_nil ⟨H,I,h⟩
theorem Bg{X:Cx}{c:Expr}{t:TT}(h:PT X c t):VR X [c] t:=fun c4 s σ H Q I q=>wpAny_tests_one (h c4 s σ H Q I q)
def Sk(wi:TI)(pick:List (Option Nat))(g:TG)(ti:TT)(te:TE):TE:=fun σ H Q=>wi σ H fun J H1=>∃W:Nat->Nat->List V->St->Hp->Prop,(∃m,W 0 m [] (V8 pick σ) H1)/\∀i m ys σ' H',W i m ys σ' H'->ys.length<=sizeLine/\
 ((J.stop i H'/\∀p,H' p=none->Q (.ref p) (i8 H' p (.lst ys)))\/
  (J.go i H'/\∃N:List V->St->Hp->Prop,(∀zs τ L,N zs τ L->∃m',m'<m/\W (i+1) m' zs τ L)/\∀x H2,J.yld i H' x H2->g x σ' H2 fun σ3 H3=>ti σ3 H3 fun b H4=>if b=true then te σ3 H4 fun v H5=>N (ys++[v]) σ3 H5 else N ys σ3 H4))
section
variable {X:Cx} {tg iter elt:Expr} {ifs:List Expr} {NX N:List Str} {sX sc:Scope} {pick:List (Option Nat)} {wi:TI} {g:TG} {ti:TT} {te:TE} {pos:Pos}
theorem Ga{c4:List (Addr×Obj)}{σ:St}{H:Hp}{s₂:Shared}{it:Addr}{fp:List Addr}{tn:Nat->Heap->Prop}{J:It}{Qv:V->Hp->Prop}{E:Value->Shared->Prop}{RR:Value->Addr->Result->Shared->Prop}
  (ck:CompSc NX sX sc N pick)(hN:X.N=NX)(hX:X.env.scope=sX)(hc:X.calm=true)
  (hg:∀C s₀ H₀ ex,PG (X.blk sc N C s₀ H₀ ex) tg g)(Ug:∀C s₀ H₀ ex,VR (X.blk sc N C s₀ H₀ ex) ifs ti)(he:∀C s₀ H₀ ex,PE (X.blk sc N C s₀ H₀ ex) elt te)
  (I:Inv X c4 σ H s₂)(T:Turn X.prog X.w X.K tg J fp it tn)(st:tn 0 s₂.heap)(hf:∀b∈fp,Er X c4 H b)
  (hW:∃W:Nat->Nat->List V->St->Hp->Prop,(∃m,W 0 m [] (V8 pick σ) H)/\∀i m ys σ' H',W i m ys σ' H'->ys.length<=sizeLine/\
   ((J.stop i H'/\∀p,H' p=none->Qv (.ref p) (i8 H' p (.lst ys)))\/
    (J.go i H'/\∃N:List V->St->Hp->Prop,(∀zs τ L,N zs τ L->∃m',m'<m/\W (i+1) m' zs τ L)/\∀x H2,J.yld i H' x H2->g x σ' H2 fun σ3 H3=>ti σ3 H3 fun b H4=>if b=true then te σ3 H4 fun v H5=>N (ys++[v]) σ3 H5 else N ys σ3 H4)))
  (fin:∀(D C:Addr) (s':Shared) (H':Hp) (ys:List V) (m:Str->Option Value),D≠C->s₂.heap.objs.size<=C->H' C=none->s'.heap.Ns C m->Inw X c4 σ (i8 H' D (.lst ys)) s'->Qv (.ref D) (i8 H' D (.lst ys))->RR (.ref D) C (.ok .next) s'):
  wpAny (model X.prog X.w) X.A (newList []) (fun V1 s₃=>wpAny (model X.prog X.w) X.A (newFunctionEnv sc X.env.globals (T3 X.env sc.names []) [] X.env.qual none .none (some X.env)) (fun cenv s₄=>
   codeAny (model X.prog X.w) X.A (.compStart (.ListComp elt [⟨tg,iter,ifs,0⟩] sc pos) 0 (.ref it) V1 {cenv with scope:=relabel sc X.env}) (RR V1 cenv.locals) s₄) E s₃) E s₂:=by
 obtain⟨W,⟨m0,w0⟩,turn⟩:=hW
 refine GG (wpAny_newFunctionEnv ck.nocell (by intro y hy;simp at hy) (fun h₁ hns₁ hsb₁=> ?_) ck.kind)
 dsimp only at hns₁ hsb₁⊢
 generalize hH2:s₂.heap.push {cls:= .type "list",dict:=none,data:= .seq ([]:List Value).toArray}=H2 at hns₁ hsb₁⊢
 have hC:H2.objs.size=s₂.heap.objs.size+1:=by rw[<-hH2,EG]
 have hDC:s₂.heap.objs.size≠H2.objs.size:=by rw[hC];exact u9 (UR _)
 have hCle:s₂.heap.objs.size<=H2.objs.size:=by rw[hC];exact Cc _
 have old:∀b o,s₂.heap.get? b=some o->h₁.get? b=some o:=fun b o e=>
  hsb₁.extBut b o (u9 (E9 (A1 e) hCle)) (q0 _ (hH2▸q0 _ e))
 have Uj:h₁.get? s₂.heap.objs.size=some {cls:= .type "list",data:= .seq ([]:List Value).toArray}:=hsb₁.extBut _ _ hDC (q0 _ (hH2▸C7 _ rfl))
 have CG:∀b∈fp,b<s₂.heap.objs.size:=fun b hb=>by
  obtain⟨o,e,_⟩:=T.obj 0 _ st b hb
  exact A1 e
 have st₁:tn 0 h₁:=T.keep 0 _ _ st fun b _ o e=>old b o e
 generalize hDd:s₂.heap.objs.size=D at*
 generalize hCc:H2.objs.size=C at*
 have loop:∀s₃:Shared,s₃={s₂ with heap:=h₁,toks:=s₂.toks+([]:List (Str×Value)).length}->
   codeAny (model X.prog X.w) X.A (.compLoop (.ListComp elt [⟨tg,iter,ifs,0⟩] sc pos) 0 (.ref it) (.ref D) (X.blk sc N C s₂ H fp).env) (RR (.ref D) C) s₃:=by
  rintro s₃ rfl
  have I0:Inw (X.blk sc N C s₂ H fp) [(D,{cls:= .type "list",data:= .seq ([]:List Value).toArray})] (V8 pick σ) H {s₂ with heap:=h₁,toks:=s₂.toks+([]:List (Str×Value)).length}:=
   XJ I ck hN hX hf (fun b hb=>by rw[hDd];exact CG b hb) old (EF hDd) (by rw[hDd];exact hCle) hDC Uj (fun v z=>by cases z) hns₁
  have fpk:∀{od:Obj} {H':Hp},(∀b∈fp,H' b=none)->∀b∈fp,Er (X.blk sc N C s₂ H fp) [(D,od)] H' b:=fun{od H'} hn=>
   Qbl I ck hX (by rw[hDd];exact hCle) (EF hDd) hf (fun b hb=>by rw[hDd];exact CG b hb) hn
  refine Jw (fun n s'=>∃(i:Nat) (ys:List V) (n5:List Value) (c:Nat) (σ':St) (H':Hp),Inv (X.blk sc N C s₂ H fp) [(D,{cls:= .type "list",data:= .seq n5.toArray c})] σ' H' s'/\u3 ys n5/\tn i s'.heap/\(∀b∈fp,H' b=none)/\W i n ys σ' H') ?_ m0
   ⟨0,[],[],0,V8 pick σ,H,⟨I0,I.pos⟩, .nil,st₁,fun b hb=>(hf b hb).1,w0⟩
  rintro n s' ⟨i,ys,n5,c,σ',H',I',rv,st',fr,w⟩
  obtain⟨G1,tw⟩:=turn i n ys σ' H' w
  rcases tw with ⟨stop,qn⟩|⟨go,Nx,hNx,step⟩
  ·refine G7 (T.done (X.blk sc N C s₂ H fp) rfl rfl rfl hc i _ s' σ' H' _ I' (fpk fr) st' stop) fun r s4 ⟨hr,I4⟩=> ?_
   subst hr
   obtain⟨m,hn,_⟩:=I4.loc
   obtain⟨p1,p2,p3,p4,_⟩:=I4.pin (D,_) (AS _ (x8.mpr rfl))
   have Jx:Inw X c4 σ H' s4:=I.call' (ch:=fp) I4.os I4.base I4.hok I4.bare fun b hb=>⟨(hf b hb).2.2.2.1,(hf b hb).2.1,(hf b hb).2.2.2.2.1,(hf b hb).2.2.2.2.2⟩
   obtain⟨k0,k1,k2,k3,k4,k5⟩:=I.fpOk (H':=H') (b:=D) (EF hDd) p2
   have Jt:Inw X c4 σ (i8 H' D (.lst ys)) s4:=Jx.track p2 k1 (by rw[<-hDd];exact I.sz) k4 k5 ⟨G1,n5,c,rv,p1⟩
   exact fin D C s4 H' ys m hDC hCle I4.free hn Jt (qn D p2)
  ·refine IB I'.pos (T.item (X.blk sc N C s₂ H fp) rfl rfl rfl hc i _ s' σ' H' _ I' (fpk fr) st' go) fun r s4 z4 ⟨u,hr,h4⟩=> ?_
   subst hr
   refine IB z4 h4 fun _ s5 z5 ⟨x,H5,I5,r5,y5,st5,fr5⟩=> ?_
   have I5':Inv _ _ _ _ s5:=⟨I5.pinned (fpk fr5) (T.obj _ _ st5),z5⟩
   refine K7 z5 (I9 (hg C s₂ H fp _ s5 σ' H5 x u _ I5' r5 (step x H5 y5)) (fun _ s6 ⟨σ6,H6,I6,q6⟩ z6=> ?_) fun _ _ z _=>False.elim z)
   refine K7 z6 (I9 (Ug C s₂ H fp _ s6 σ6 H6 _ ⟨I6,z6⟩ q6) (fun b s7 ⟨H7,I7,q7⟩ z7=> ?_) fun _ _ z _=>False.elim z)
   -- what the c4 say behind any step
   have keeps:∀{σ':St} {H':Hp} {s':Shared},Inw (X.blk sc N C s₂ H fp) ([(D,{cls:= .type "list",data:= .seq n5.toArray c})]++FF fp s5.heap) σ' H' s'->
     (∀b∈fp,∀o,s5.heap.get? b=some o->s'.heap.get? b=some o)/\(∀b∈fp,H' b=none):=fun{σ' H' s'} Iz=>
    ⟨fun b hb o e=>(Iz.pin (b,o) (AS _ (AS _ (AC hb e)))).1,fun b hb=>by
     obtain⟨o,e,d⟩:=T.obj _ _ st5 b hb
     exact(Iz.pin (b,o) (AS _ (AS _ (AC hb e)))).2.1⟩
   cases b with
   |false=>
    rw[if_neg K3] at q7⊢
    obtain⟨m',hm,w7⟩:=hNx _ _ _ q7
    obtain⟨k1,k2⟩:=keeps I7
    exact⟨m',hm,i+1,ys,n5,c,σ6,H7,⟨I7.unpinned,z7⟩,rv,T.keep _ _ _ st5 k1,k2,w7⟩
   |true=>
    rw[if_pos rfl] at q7⊢
    refine K7 z7 (I9 (he C s₂ H fp _ s7 σ6 H7 _ ⟨I7,z7⟩ q7) (fun y s8 ⟨v,H8,I8,r8,q8⟩ z8=> ?_) fun _ _ z _=>False.elim z)
    obtain⟨m',hm,w8⟩:=hNx _ _ _ q8
    obtain⟨k1,k2⟩:=keeps I8
    obtain⟨p1,p2,p3,p4,p5⟩:=I8.pin (D,_) (AS _ (Mi _ (x8.mpr rfl)))
    have hsz:n5.toArray.size<=sizeLine:=by
     rw[C6,<-rv.length];exact G1
    refine wpAny_list_append_plain (hsz:=hsz) ⟨c,p1⟩ fun h₉ ⟨c9,e9⟩ hs₉=> ?_
    have J0:Inw (X.blk sc N C s₂ H fp) [] σ6 H8 s8:=I8.pins_of fun p hp=>absurd hp (by simp)
    have J1:Inw (X.blk sc N C s₂ H fp) [] σ6 H8 {s8 with heap:=h₉}:=J0.turned (t':=s8.toks) (it:=D) (fun b o hb e=>hs₉.extBut b o hb e) p2 p3 (.inr (EF hDd)) (fun x c' e z=>by
     obtain⟨v',o',ho',_⟩:=I.cell x c' (U9 I ck hX e)
     have:=A1 ho'
     rw[hDd,z] at this
     exact absurd this (Cd _)) (fun p hp=>absurd hp (by intro z;cases z))
    have eArr:n5.toArray.push y=(n5++[y]).toArray:=by simp
    rw[eArr] at e9
    refine⟨m',hm,i+1,ys++[v],n5++[y],c9,σ6,H8,⟨J1.pins_of fun p hp=> ?_,z8⟩,rv.append (.cons r8 .nil),T.keep _ _ _ st5 fun b hb o e=>hs₉.extBut b o (u9 (CG b hb)) (k1 b hb o e),k2,w8⟩
    rw[x8] at hp
    subst hp
    exact⟨e9,p2,p3,p4,fun v z=>by cases z⟩
 exact codeAny_compStart_list (loop _ rfl) (T.self X.A 0 _ _ _ st₁ (loop _ rfl))
theorem J5(ck:Jv NX sX sc N pick=true)(hN:X.N=NX)(hX:X.env.scope=sX)(hc:X.calm=true)(hi:PI X tg iter wi)
  (hg:∀C s₀ H₀ ex,PG (X.blk sc N C s₀ H₀ ex) tg g)(Ug:∀C s₀ H₀ ex,VR (X.blk sc N C s₀ H₀ ex) ifs ti)(he:∀C s₀ H₀ ex,PE (X.blk sc N C s₀ H₀ ex) elt te)
  (hs:∀x,foldedSetIterable iter X.env x=pure x:=by intro _;rfl):PE X (.ListComp elt [⟨tg,iter,ifs,0⟩] sc pos) (Sk wi pick g ti te):=by
 intro c4 s σ H Q I h
 have ck:=HY ck
 rw[eval_ListComp]
 refine VJ (use:=none) (cl:=T3 X.env sc.names []) rfl hs (Ma I ck hX) ck.kind ck.names (G7 (hi c4 s σ H _ I h) fun v s1 g1=> ?_)
 refine IB g1.pos g1.run fun itv s2 z2 h2=> ?_
 obtain⟨it,fp,tn,J,H2,e,I2,T,st2,f2,hW⟩:=h2
 subst e
 refine Ga (Qv:=Q) (RR:=fun V1 C=>compPost (model X.prog X.w) X.A X.xe none (EP X c4 σ Q) V1 C) ck hN hX hc hg Ug he ⟨I2,z2⟩ T st2 f2 hW ?_
 intro D C s' H' ys m hDC hC hCn ns Jt q
 refine⟨m,ns,fun h' hs'=> ?_⟩
 obtain⟨k0,k1,k2,k3,k4,k5⟩:=I2.fpOk (H':=i8 H' D (.lst ys)) (b:=C) hC (by rw[g9 (D9 hDC)];exact hCn)
 exact⟨.ref D,_,Jt.turned (t':=s'.toks) (it:=C) (fun b o hb e=>hs'.extBut b o hb e) k0 k1 k3 k4 k5,rfl,q⟩
theorem IQ{i:Nat}{x:Str}{px spos:Pos}(hNd:X.N.Nodup)(hi':X.N[i]? =some x)(hx:X.env.scope.names.lookup x=some .local)(ck:Jv NX sX sc N pick=true)(hN:X.N=NX)(hX:X.env.scope=sX)(hc:X.calm=true)(hi:PI X tg iter wi)
  (hg:∀C s₀ H₀ ex,PG (X.blk sc N C s₀ H₀ ex) tg g)(Ug:∀C s₀ H₀ ex,VR (X.blk sc N C s₀ H₀ ex) ifs ti)(he:∀C s₀ H₀ ex,PE (X.blk sc N C s₀ H₀ ex) elt te)
  (hsw:swapsWith (.ListComp elt [⟨tg,iter,ifs,0⟩] sc pos) (some (.Name x px)) spos.line X.env=pure true:=by rfl)
  (hs:∀x,foldedSetIterable iter X.env x=pure x:=by intro _;rfl):PS X (.Assign [.Name x px] (.ListComp elt [⟨tg,iter,ifs,0⟩] sc pos) spos) (MH (Sk wi pick g ti te) (O3 i)):=by
 intro c4 s σ H D I h
 have ck:=HY ck
 rw[exec_Assign_Name_used _ _ _ _ hsw]
 refine e8 (Kn (e8 ?_))
 show wpAny _ X.A (do let _<-comprehension (.ListComp elt [⟨tg,iter,ifs,0⟩] sc pos) sc X.env _ (newList []) false (eval iter X.env) (some (assign (.Name x px) X.env))) _ _ s
 refine e8 (I9 (VJ (use:=some (assign (.Name x px) X.env)) (cl:=T3 X.env sc.names []) (Q:=fun _ s'=>SP X c4 D .next s') rfl hs (Ma I ck hX) ck.kind ck.names
  (G7 (hi c4 s σ H _ I h) fun v s1 g1=> ?_)) (fun _ s' q=> ?_) fun _ _ z=>z)
 ·refine IB g1.pos g1.run fun itv s2 z2 h2=> ?_
  obtain⟨it,fp,tn,J,H2,e,I2,T,st2,f2,hW⟩:=h2
  subst e
  refine Ga (Qv:=fun v H'=>D.nx (σ.set i (some v)) H') (RR:=fun V1 C=>compPost (model X.prog X.w) X.A X.xe (some (assign (.Name x px) X.env)) (fun _ s'=>SP X c4 D .next s') V1 C) ck hN hX hc hg Ug he ⟨I2,z2⟩ T st2 f2 hW ?_
  intro D' C s' H' ys m hDC hC hCn ns Jt q
  refine wpAny_assign_Name (Ht (v:= .ref D') Jt hNd hi' (.inl hx) rfl (fun s'' J' ⟨a,sb,ha⟩=> ?_) (.inr hx))
  obtain⟨k0,k1,k2,k3,k4,k5⟩:=I2.fpOk (H':=i8 H' D' (.lst ys)) (b:=C) hC (by rw[g9 (D9 hDC)];exact hCn)
  have hCa:C≠a:=by
   rcases ha with z|z
   ·rw[z];exact k1
   ·exact fun e=>k4 x a z e.symm
  refine⟨m,ns.sameBut sb hCa,fun h' hs'=> ?_⟩
  exact⟨_,_,J'.turned (t':=s''.toks) (it:=C) (fun b o hb e=>hs'.extBut b o hb e) k0 k1 k3 k4 k5,q⟩
 ·first
   |exact l0 (l0 q)
   |exact l0 q
end
section
variable {g:TG} {ti:TT} {te:TE} {Q:VK} {σ:St} {H:Hp}
theorem Rf{K:j6}{a:Addr}{xs:List V}(Pv:Nat->List V->St->Hp->Prop)(h0:Pv 0 [] σ H)(hl:∀i ys σ H,i<=xs.length->Pv i ys σ H->l7 K H a xs/\ys.length<=sizeLine)
  (hs:∀i x ys σ H,xs[i]? =some x->Pv i ys σ H->g x σ H fun σ3 H3=>ti σ3 H3 fun b H4=>if b=true then te σ3 H4 fun v H5=>Pv (i+1) (ys++[v]) σ3 H5 else Pv (i+1) ys σ3 H4)
  (hd:∀ys σ H,Pv xs.length ys σ H->∀p,H p=none->Q (.ref p) (i8 H p (.lst ys))):
  ∃W:Nat->Nat->List V->St->Hp->Prop,(∃m,W 0 m [] σ H)/\∀i m ys σ' H',W i m ys σ' H'->ys.length<=sizeLine/\
   (((Rv K a).stop i H'/\∀p,H' p=none->Q (.ref p) (i8 H' p (.lst ys)))\/
    ((Rv K a).go i H'/\∃N:List V->St->Hp->Prop,(∀zs τ L,N zs τ L->∃m',m'<m/\W (i+1) m' zs τ L)/\∀x H2,(Rv K a).yld i H' x H2->g x σ' H2 fun σ3 H3=>ti σ3 H3 fun b H4=>if b=true then te σ3 H4 fun v H5=>N (ys++[v]) σ3 H5 else N ys σ3 H4)):=by
 refine⟨fun i m ys σ H=>m=xs.length-i/\i<=xs.length/\Pv i ys σ H,⟨xs.length,by simp,o8 _,h0⟩,?_⟩
 rintro i m ys σ H ⟨rfl,hi,p⟩
 obtain⟨q,hz⟩:=hl i ys σ H hi p
 refine⟨hz,?_⟩
 by_cases O2:i<xs.length
 ·refine .inr ⟨⟨xs,xs[i],q,by simp [O2]⟩,Pv (i+1),fun zs σ' H' p'=>⟨xs.length-(i+1),by omega,rfl,O2,p'⟩,fun x H' y=> ?_⟩
  obtain⟨e,y⟩:=y
  subst e
  exact hs i x ys σ _ (y xs q) p
 ·have e:i=xs.length:=by omega
  subst e
  exact .inl ⟨⟨xs,q,l8 _⟩,hd ys σ H p⟩
end
def Oq(lo st:Int)(n:Nat):It:=⟨fun i _=>i<n,fun i H x H'=>H'=H/\x= .int (lo+i*st),fun i _=>n<=i⟩
theorem KC{P:Program}{w:World}{K:j6}{tg:Expr}(it:Addr)(lo st:Int)(n:Nat):Turn P w K tg (Oq lo st n) [it] it (fun i h=>IsRangeIter h it (lo+(i:Nat)*st) ((n:Int)-(i:Nat)) st) where
 mem:=by simp
 obj:=fun i h q b hb=>by
  have e:b=it:=by simpa using hb
  subst e
  exact⟨_,q,fun v z=>by
   have z':Data.fields _=Data.cell v:=z
   cases z'⟩
 keep:=fun i h h' q k=>k it (by simp) _ q
 item:=by
  intro X hP hw hK hc i c4 s σ H E I hf q hg
  subst hP hw hK
  obtain⟨f0,f1,f2,f3,f4,f5⟩:=hf it (by simp)
  have W:=Walks.range (prog:=X.prog) (w:=X.w) (I.ok.hd hc) it lo st n
  refine W.item i s _ _ hg q fun v h' tk hv st' kk=> ?_
  obtain⟨t,rfl⟩:=hv
  have I1:Inw X c4 σ H {s with heap:=h',toks:=tk}:=I.turned (fun b o hb e=>kk b o (by simpa using hb) e) f0 f1 f3 f4 f5
  exact⟨_,rfl,FP (s:={s with heap:=h',toks:=tk}) (n:="range_iterator") st' rfl rfl (by decide) ⟨.int (lo+i*st),H,I1,⟨t,rfl⟩,⟨rfl,rfl⟩,st',fun b hb=>(hf b hb).1⟩⟩
 done:=by
  intro X hP hw hK hc i c4 s σ H E I hf q hg
  subst hP hw hK
  obtain⟨f0,f1,f2,f3,f4,f5⟩:=hf it (by simp)
  exact wpAny_pyNext_range_end (I.ok.hd hc) q (by have:n<=i:=hg;omega) fun h' eb=>⟨rfl,I.turned (t':=s.toks) (fun b o hb e=>eb b o hb e) f0 f1 f3 f4 f5⟩
 self:=fun _ _ _ _ _ q h=>wpAny_pyIter_rangeiter q h
section
variable {X:Cx} {tg:Expr}
def Zd(ta:TA):TI:=fun σ H R=>ta σ H fun vs H1=>∃j c:Int,vs=[.int 0, .int j, .int c]/\(0<=j/\j<=16777216/\1<=c/\c<=1000000)/\R (Oq 0 c ((j+c-1)/c).toNat) H1
theorem Nt{lo st:Int}{n:Nat}{g:TG}{tb:TS}{D:Ends}{σ:St}{H:Hp}(Pv:Nat->St->Hp->Prop)(h0:Pv 0 σ H)
  (hs:∀i σ H,i<n->Pv i σ H->g (.int (lo+i*st)) σ H fun σ2 H2=>tb {D with nx:=Pv (i+1),ct:=Pv (i+1),bk:=D.nx} σ2 H2)(hd:∀σ H,Pv n σ H->D.nx σ H):
  ∃W:Nat->Nat->St->Hp->Prop,(∃m,W 0 m σ H)/\∀i m σ H,W i m σ H->
   ((Oq lo st n).stop i H/\D.nx σ H)\/((Oq lo st n).go i H/\∃N:St->Hp->Prop,(∀σ' H',N σ' H'->∃m',m'<m/\W (i+1) m' σ' H')/\∀x H',(Oq lo st n).yld i H x H'->g x σ H' fun σ2 H2=>tb {D with nx:=N,ct:=N,bk:=D.nx} σ2 H2):=by
 refine⟨fun i m σ H=>m=n-i/\i<=n/\Pv i σ H,⟨n,by simp,o8 _,h0⟩,?_⟩
 rintro i m σ H ⟨rfl,hi,p⟩
 by_cases O2:i<n
 ·refine .inr ⟨O2,Pv (i+1),fun σ' H' p'=>⟨n-(i+1),by omega,rfl,O2,p'⟩,fun x H' y=> ?_⟩
  obtain⟨e,y⟩:=y
  subst e y
  exact hs i σ _ O2 p
 ·have e:i=n:=by omega
  subst e
  exact .inl ⟨l8 _,hd σ H p⟩
end
def Ite(K:j6)(a:Addr):It:=
 ⟨fun i H=>∃xs x,l7 K H a xs/\xs[i]? =some x,fun i H x H'=>∃(T:Addr) (y:V),H T=none/\x= .ref T/\H'=i8 H T (.tup [.int i,y])/\∀xs,l7 K H a xs->xs[i]? =some y,fun i H=>∃xs,l7 K H a xs/\xs.length<=i⟩
theorem Qa{P:Program}{w:World}{K:j6}{es:List Expr}{k:Nat}{tp:Pos}(a e it:Addr)(hei:e≠it):Turn P w K (.Tuple es k tp) (Ite K a) [e,it] e (fun i h=>(∃old,IsEnum h e it i old)/\h.IsListIter it a i) where
 mem:=by simp
 obj:=fun i h q b hb=>by
  obtain⟨⟨old,he⟩,o,ho,c,d⟩:=q
  have hb':b=e\/b=it:=by simpa using hb
  rcases hb' with z|z
  ·subst z
   exact⟨_,he,fun v z=>by
    have z':Data.fields _=Data.cell v:=z
    cases z'⟩
  ·subst z
   exact⟨o,ho,fun v z=>by rw[d] at z;cases z⟩
 keep:=fun i h h' q kk=>⟨let ⟨old,he⟩:=q.1;⟨old,kk e (by simp) _ he⟩,q.2.at fun o x=>kk it (by simp) o x⟩
 item:=by
  intro X hP hw hK hc i c4 s σ H E I hf q hg
  subst hP hw hK
  obtain⟨xs,x,hq,hx⟩:=hg
  obtain⟨n5,rv,p,hz⟩:=I.list hq
  obtain⟨u,hu,ru⟩:=rv.get hx
  obtain⟨⟨old,he⟩,QO⟩:=q
  obtain⟨f0,f1,f2,f3,f4,f5⟩:=hf e (by simp)
  obtain⟨g0,g1,g2,g3,g4,g5⟩:=hf it (by simp)
  refine wpAny_pyNext_enum_item he QO p.isList (x:=u) (by simpa using hu) hei fun h' ho hit' hT hsz hk=> ?_
  refine⟨_,rfl,wpAny_letOwnedTupleGo_enum ho fun h2 he2 hs2=> ?_⟩
  have helt:e<s.heap.objs.size:=A1 he
  -- both records have turned, the tuple is new
  have k2:∀b o,b≠e->b≠it->s.heap.get? b=some o->h2.get? b=some o:=fun b o b1 b2 q=>hs2.extBut b o b1 (hk b o b1 b2 q)
  have hT2:h2.get? s.heap.objs.size=some {cls:= .type "tuple",data:= .seq #[.int i s.toks,u]}:=hs2.extBut _ _ (Av helt) hT
  have fn:H s.heap.objs.size=none:=I.hok.fresh (l8 _)
  have I1:Inw X c4 σ (i8 H s.heap.objs.size (.tup [.int i,x])) {s with heap:=h2,toks:=s.toks+1}:=by
   obtain⟨m,⟨oL,es,ep,hoL,rL⟩,_⟩:=id I.loc
   refine I.step (g':=s.gens) (d':=s.drawn) (ch:=[e,it]) (fun b hb=> ?_) (fun b o _ _ Y6 q _=>k2 b o (fun z=>Y6 (by simp [z])) (fun z=>Y6 (by simp [z])) q)
    (fun b o _ _ Y6 q _=>⟨o.slots,k2 b o (fun z=>Y6 (by simp [z])) (fun z=>Y6 (by simp [z])) q⟩) (fun b o _ q n=> ?_) (fun b o Y6 q=>⟨o,k2 b o (fun z=>Y6 (by simp [z])) (fun z=>Y6 (by simp [z])) q⟩)
    (fun b ys q=>by rw[g9 (j4 q fn)];exact q) (fun b o u q=>by rw[g9 (j4 q fn)];exact q) (fun b ps q=>⟨#[],by rw[g9 (j4 q fn),q];simp⟩) (fun m' hm=> ?_) (fun b v q=> ?_) I.bare
   ·have hb':b=e\/b=it:=by simpa using hb
    rcases hb' with z|z
    ·subst z;exact⟨f3,f1,f4,f5⟩
    ·subst z;exact⟨g3,g1,g4,g5⟩
   ·rw[g9 (u9 (A1 q))];exact n
   ·obtain⟨o',es',ep',ho',r'⟩:=hm
    exact⟨o',es',ep',k2 _ _ (D9 f1) (D9 g1) ho',r'⟩
   ·by_cases hb:b=s.heap.objs.size
    ·subst hb
     rw[c6] at q
     cases q
     exact⟨by show 2<=sizeLine;decide,[.int i s.toks,u], .cons ⟨_,rfl⟩ (.cons ru .nil),_,hT2,rfl,_,rfl⟩
    ·rw[g9 hb] at q
     refine(I.hok b v q).stay (fun c w Y6 r=>k2 c w ?_ ?_ r) (fun c r=>by rw[g9 (j4 r fn)];exact r) fun c ys r=>by rw[g9 (j4 r fn)];exact r
     ·intro z;subst z
      rcases Y6 with z|z
      ·rw[<-z,f0] at q;cases q
      ·rw[f0] at z;cases z
     ·intro z;subst z
      rcases Y6 with z|z
      ·rw[<-z,g0] at q;cases q
      ·rw[g0] at z;cases z
  refine⟨.ref s.heap.objs.size,_,I1,rfl,⟨_,x,fn,rfl,rfl,fun ys hy=>by rw[I.list_inj hy hq];exact hx⟩,⟨⟨_,by simpa using he2⟩,hit'.at fun o y=>(hs2.2 it hei.symm).trans y⟩,fun b hb=> ?_⟩
  have hb':b=e\/b=it:=by simpa using hb
  rcases hb' with z|z
  ·subst z;rw[g9 (u9 helt)];exact f0
  ·subst z
   obtain⟨o,ho',_⟩:=QO
   rw[g9 (u9 (A1 ho'))];exact g0
 done:=by
  intro X hP hw hK hc i c4 s σ H E I hf q hg
  subst hP hw hK
  obtain⟨xs,hq,hx⟩:=hg
  obtain⟨n5,rv,p,hz⟩:=I.list hq
  obtain⟨⟨old,he⟩,QO⟩:=q
  obtain⟨g0,g1,g2,g3,g4,g5⟩:=hf it (by simp)
  have hl:=rv.length
  exact wpAny_pyNext_enum_end (I.ok.hd hc) he QO p.isList (by simp;omega) fun h' eb=>⟨rfl,I.turned (t':=s.toks) (fun b o hb e=>eb b o hb e) g0 g1 g3 g4 g5⟩
 self:=fun _ _ _ _ _ q h=>let ⟨⟨_,he⟩,_⟩:=q;wpAny_pyIter_enum he h
section
variable {X:Cx} {es:List Expr} {k:Nat} {tp:Pos}
def TZ(K:j6)(ta:TA):TI:=fun σ H R=>ta σ H fun vs H1=>∃a,vs=[.ref a]/\(∃xs,l7 K H1 a xs)/\R (Ite K a) H1
theorem Rr:bootBuiltins "enumerate"=some (.type "enumerate"):=by decide+kernel
theorem CU{a:Expr}{ta:TA}{p pos:Pos}(hg:Gl X "enumerate")(hm:X.mg "enumerate"=none)(ha:PA X [a] ta)(hs:starEach [a] X.env=[(false,eval a X.env)]:=by rfl):
  PI X (.Tuple es k tp) (.Call (.Name "enumerate" p) [a] [] pos) (TZ X.K ta):=by
 intro c4 s σ H R I h
 refine Call_ (Bm I hg hm Rr (Io (G7 (ha pos c4 s σ H _ I h) fun us s1 ⟨vs,H1,I1,r1,q1⟩=> ?_) hs rfl))
 obtain⟨a',e,⟨xs,hq⟩,q⟩:=q1
 subst e
 obtain⟨u,rfl,ru⟩:=vals1 r1
 cases ru
 obtain⟨n5,rv,pl,hz⟩:=I1.list hq
 refine call_enumerate_list pl.isList fun h' he QO hsz kp=> ?_
 refine wpAny_pyIter_enum he ?_
 have I2:Inw X c4 σ H1 {s1 with heap:=h'}:=I1.kept (t':=s1.toks) kp
 refine⟨s1.heap.objs.size+1,[s1.heap.objs.size+1,s1.heap.objs.size],_,_,H1,rfl,I2,Qa a' _ _ (Nat.succ_ne_self _),⟨⟨_,he⟩,QO⟩,fun b hb=> ?_,q⟩
 have hb':b=s1.heap.objs.size+1\/b=s1.heap.objs.size:=by simpa using hb
 rcases hb' with z|z
 ·subst z;exact I1.fpOk (Cc _) (I1.hok.fresh (Cc _))
 ·subst z;exact I1.fpOk (l8 _) (I1.hok.fresh (l8 _))
theorem Us{K:j6}{a:Addr}{xs:List V}{g:TG}{tb:TS}{D:Ends}{σ:St}{H:Hp}(Pv:Nat->St->Hp->Prop)(h0:Pv 0 σ H)(hl:∀i σ H,i<=xs.length->Pv i σ H->l7 K H a xs)
  (hs:∀(i:Nat) y T σ H,xs[i]? =some y->Pv i σ H->H T=none->g (.ref T) σ (i8 H T (.tup [.int i,y])) fun σ2 H2=>tb {D with nx:=Pv (i+1),ct:=Pv (i+1),bk:=D.nx} σ2 H2)(hd:∀σ H,Pv xs.length σ H->D.nx σ H):
  ∃W:Nat->Nat->St->Hp->Prop,(∃m,W 0 m σ H)/\∀i m σ H,W i m σ H->
   ((Ite K a).stop i H/\D.nx σ H)\/((Ite K a).go i H/\∃N:St->Hp->Prop,(∀σ' H',N σ' H'->∃m',m'<m/\W (i+1) m' σ' H')/\∀x H',(Ite K a).yld i H x H'->g x σ H' fun σ2 H2=>tb {D with nx:=N,ct:=N,bk:=D.nx} σ2 H2):=by
 refine⟨fun i m σ H=>m=xs.length-i/\i<=xs.length/\Pv i σ H,⟨xs.length,by simp,o8 _,h0⟩,?_⟩
 rintro i m σ H ⟨rfl,hi,p⟩
 have q:=hl i σ H hi p
 by_cases O2:i<xs.length
 ·refine .inr ⟨⟨xs,xs[i],q,by simp [O2]⟩,Pv (i+1),fun σ' H' p'=>⟨xs.length-(i+1),by omega,rfl,O2,p'⟩,fun x H' y=> ?_⟩
  obtain⟨T,y,hT,e1,e2,e3⟩:=y
  subst e1 e2
  exact hs i y T σ H (e3 xs q) p hT
 ·have e:i=xs.length:=by omega
  subst e
  exact .inl ⟨⟨xs,q,l8 _⟩,hd σ H p⟩
end
section
variable {X:Cx}
end
inductive DV where
 |non|bl (b:Bool)|int (i:Int)|str (x:Str)|lst (ds:List DV)|tup (ds:List DV)
mutual
def T6(K:j6)(H:Hp):DV->V->Prop
 | .non,v=>v= .non
 | .bl b,v=>v= .bl b
 | .int i,v=>v= .int i
 | .str x,v=>v= .str x
 | .lst ds,v=>∃a xs,v= .ref a/\l7 K H a xs/\Q9 K H ds xs
 | .tup ds,v=>∃a xs,v= .ref a/\W3 K H a xs/\Q9 K H ds xs
def Q9(K:j6)(H:Hp):List DV->List V->Prop
 |[],xs=>xs=[]
 |d::ds,xs=>∃y ys,xs=y::ys/\T6 K H d y/\Q9 K H ds ys
end
theorem Q9.length{K:j6}{H:Hp}:∀{ds:List DV} {xs:List V},Q9 K H ds xs->xs.length=ds.length
 |[],xs,h=>by rw[Q9] at h;subst h;rfl
 |d::ds,xs,h=>by rw[Q9] at h;obtain⟨y,ys,rfl,_,h⟩:=h;rw[List.length_cons,List.length_cons,Q9.length h]
mutual
def Jr:DV->Nat
 | .lst ds=>AI ds+1
 | .tup ds=>AI ds+1
 |_=>0
def AI:List DV->Nat
 |[]=>0
 |d::ds=>max (Jr d) (AI ds)
end
def Qbx{K:j6}{H H':Hp}:Prop:=(∀a xs,l7 K H a xs->l7 K H' a xs)/\∀a xs,W3 K H a xs->W3 K H' a xs
/- the same data is equal -/
theorem BS:∀l:List Nat,(l.all fun _=>true)=true
 |[]=>rfl
 |_::r=>by rw[UJ,BS r];rfl
mutual
theorem QV{X:Cx}{c4:List (Addr×Obj)}{σ:St}{H:Hp}{s:Shared}(I:Inv X c4 σ H s):∀(d:DV) (x y:V) (u v:Value) (A:Around),T6 X.K H d x->T6 X.K H d y->RelV x u->RelV y v->A.units+Jr d<cLine->SeqAt.EqAt A s u v true
 | .non,x,y,u,v,A,hx,hy,rx,ry,hu=>by
  rw[T6] at hx hy;subst hx hy;cases rx;cases ry;exact Ih _
 | .bl b,x,y,u,v,A,hx,hy,rx,ry,hu=>by
  rw[T6] at hx hy;subst hx hy;cases rx;cases ry;exact Ih _
 | .int i,x,y,u,v,A,hx,hy,rx,ry,hu=>by
  rw[T6] at hx hy;subst hx hy;obtain⟨t,rfl⟩:=rx;obtain⟨t',rfl⟩:=ry
  have:=UL (A:=A) (s:=s) i t i t'
  simpa using this
 | .str z,x,y,u,v,A,hx,hy,rx,ry,hu=>by
  rw[T6] at hx hy;subst hx hy;obtain⟨t,rfl⟩:=rx;obtain⟨t',rfl⟩:=ry
  have:=UK (A:=A) (s:=s) z t z t'
  simpa using this
 | .lst ds,x,y,u,v,A,hx,hy,rx,ry,hu=>by
  rw[T6] at hx hy
  obtain⟨a,xs,rfl,hq,hd⟩:=hx
  obtain⟨b,ys,rfl,hq',hd'⟩:=hy
  cases rx;cases ry
  by_cases Wb:a=b
  ·subst Wb;exact Ih _
  ·obtain⟨n5,r,pl,hz⟩:=I.list hq
   obtain⟨its',r',pl',hz'⟩:=I.list hq'
   have l1:=r.length;have l2:=r'.length;have l3:=hd.length;have l4:=hd'.length
   have hu':A.units+(AI ds+1)<cLine:=hu
   have q:=SeqAt.RcAt.lists (A:=A) (e:=fun _=>true) pl.isList pl'.isList (by simp only[C6];omega) (by omega) fun j h1 h2=>by
    have:=U1 I ds xs ys n5 its' A.in1 hd hd' r r' (by rw[GF];omega) j (by simpa using h1) (by simpa using h2)
    simpa using this
   refine SeqAt.EqAt.of_refs Wb ?_
   rw[BS] at q
   exact q
 | .tup ds,x,y,u,v,A,hx,hy,rx,ry,hu=>by
  rw[T6] at hx hy
  obtain⟨a,xs,rfl,hq,hd⟩:=hx
  obtain⟨b,ys,rfl,hq',hd'⟩:=hy
  cases rx;cases ry
  by_cases Wb:a=b
  ·subst Wb;exact Ih _
  ·obtain⟨n5,r,pl,hz⟩:=I.tuple hq
   obtain⟨its',r',pl',hz'⟩:=I.tuple hq'
   have l1:=r.length;have l2:=r'.length;have l3:=hd.length;have l4:=hd'.length
   have hu':A.units+(AI ds+1)<cLine:=hu
   have q:=SeqAt.RcAt.tuples (A:=A) (e:=fun _=>true) pl pl' (by omega) fun j h1 h2=>by
    have:=U1 I ds xs ys n5 its' A.in1 hd hd' r r' (by rw[GF];omega) j (by simpa using h1) (by simpa using h2)
    simpa using this
   refine SeqAt.EqAt.of_refs Wb ?_
   have e:n5.length=its'.length:=by omega
   rw[BS] at q
   simpa [e] using q
theorem U1{X:Cx}{c4:List (Addr×Obj)}{σ:St}{H:Hp}{s:Shared}(I:Inv X c4 σ H s):∀(ds:List DV) (xs ys:List V) (us vs:List Value) (A:Around),Q9 X.K H ds xs->Q9 X.K H ds ys->u3 xs us->u3 ys vs->A.units+AI ds<cLine->
  ∀(j:Nat) (h1:j<us.length) (h2:j<vs.length),SeqAt.EqAt A s us[j] vs[j] true
 |[],xs,ys,us,vs,A,hx,hy,rx,ry,hu,j,h1,h2=>by
  rw[Q9] at hx;subst hx;cases rx;exact absurd h1 (Nat.not_lt_zero _)
 |d::ds,xs,ys,us,vs,A,hx,hy,rx,ry,hu,j,h1,h2=>by
  rw[Q9] at hx hy
  obtain⟨x,xs,rfl,dx,hx⟩:=hx
  obtain⟨y,ys,rfl,dy,hy⟩:=hy
  cases rx with
  |cons rx rxs=>
   cases ry with
   |cons ry rys=>
    have hu':A.units+max (Jr d) (AI ds)<cLine:=hu
    cases j with
    |zero=>exact QV I d x y _ _ A dx dy rx ry (by omega)
    |succ j=>exact U1 I ds xs ys _ _ A hx hy rxs rys (by omega) j (by simpa using h1) (by simpa using h2)
end
section
variable {X:Cx}
theorem QaK{k:Nat}(hr:Room k X.A):BF X (compareOp .Eq) (fun x y H Q=>∃d ds,(d= .lst ds\/d= .tup ds)/\Jr d<=60/\T6 X.K H d x/\T6 X.K H d y/\Q (.bl true) H):=by
 intro c4 s σ H x y v u Q I rx ry h
 obtain⟨d,ds,hd,hdp,dx,dy,q⟩:=h
 have HR:X.A.units+64<cLine:=hr.units
 rcases hd with rfl|rfl
 ·rw[T6] at dx dy
  obtain⟨a,xs,rfl,hq,hd⟩:=dx
  obtain⟨b,ys,rfl,hq',hd'⟩:=dy
  cases rx;cases ry
  obtain⟨n5,r,pl,hz⟩:=I.list hq
  obtain⟨its',r',pl',hz'⟩:=I.list hq'
  have l1:=r.length;have l2:=r'.length;have l3:=hd.length;have l4:=hd'.length
  have hdp':AI ds+1<=60:=hdp
  refine SeqAt.eq_listAt (e:=fun _=>true) pl.isList pl'.isList (by simp only[C6];omega) (by omega) (fun j h1 h2=> ?_) ⟨.bl true,H,I,?_,q⟩
  ·have:=U1 I ds xs ys n5 its' X.A.in1 hd hd' r r' (by rw[GF];omega) j (by simpa using h1) (by simpa using h2)
   simpa using this
  ·show Value.bool _=Value.bool true
   rw[BS]
 ·rw[T6] at dx dy
  obtain⟨a,xs,rfl,hq,hd⟩:=dx
  obtain⟨b,ys,rfl,hq',hd'⟩:=dy
  cases rx;cases ry
  obtain⟨n5,r,pl,hz⟩:=I.tuple hq
  obtain⟨its',r',pl',hz'⟩:=I.tuple hq'
  have l1:=r.length;have l2:=r'.length;have l3:=hd.length;have l4:=hd'.length
  have hdp':AI ds+1<=60:=hdp
  have e:n5.length=its'.length:=by omega
  refine SeqAt.eq_tupleAt (e:=fun _=>true) pl pl' (by omega) (fun j h1 h2=> ?_) ⟨.bl true,H,I,?_,q⟩
  ·have:=U1 I ds xs ys n5 its' X.A.in1 hd hd' r r' (by rw[GF];omega) j (by simpa using h1) (by simpa using h2)
   simpa using this
  ·show Value.bool _=Value.bool true
   rw[BS]
   simp [e]
theorem QaH{k:Nat}(hr:Room k X.A):BF X (compareOp .NotEq) (fun x y H Q=>∃ds,Jr (.lst ds)<=60/\T6 X.K H (.lst ds) x/\T6 X.K H (.lst ds) y/\Q (.bl false) H):=by
 intro c4 s σ H x y v u Q I rx ry h
 obtain⟨ds,hdp,dx,dy,q⟩:=h
 have HR:X.A.units+64<cLine:=hr.units
 rw[T6] at dx dy
 obtain⟨a,xs,rfl,hq,hd⟩:=dx
 obtain⟨b,ys,rfl,hq',hd'⟩:=dy
 cases rx;cases ry
 obtain⟨n5,r,pl,hz⟩:=I.list hq
 obtain⟨its',r',pl',hz'⟩:=I.list hq'
 have l1:=r.length;have l2:=r'.length;have l3:=hd.length;have l4:=hd'.length
 have hdp':AI ds+1<=60:=hdp
 have q2:=SeqAt.RcNeAt.lists (A:=X.A) (s:=s) (e:=fun _=>true) pl.isList pl'.isList (by simp only[C6];omega) (by omega) (fun j h1 h2=>by
  have:=U1 I ds xs ys n5 its' X.A.in1 hd hd' r r' (by rw[GF];omega) j (by simpa using h1) (by simpa using h2)
  simpa using this)
 refine q2 X.prog X.w X.xe _ ⟨.bl false,H,I,?_,q⟩
 show Value.bool _=Value.bool false
 rw[BS]
 rfl
end
theorem Q9.ints{K:j6}{H:Hp}:∀(ns:List Int),Q9 K H (ns.map DV.int) (ns.map V.int)
 |[]=>by simp [Q9]
 |n::r=>by
  rw[List.map_cons,List.map_cons,Q9]
  exact⟨_,_,rfl,by rw[T6],Q9.ints r⟩
/- no list within -/
mutual
def QbX:DV->Bool
 | .lst _=>false
 | .tup ds=>TB ds
 |_=>true
def TB:List DV->Bool
 |[]=>true
 |d::ds=>QbX d&&TB ds
end
theorem c7{H:Hp}{p:Addr}(h:H p=none)(o:HO):i6 H (i8 H p o):=fun b u q=>by rw[g9 (j4 q h)];exact q
theorem i6.newer{H H':Hp}{p:Addr}(e:i6 H H')(h:H p=none)(o:HO):i6 H (i8 H' p o):=fun b u q=>by rw[g9 (j4 q h)];exact e b u q
theorem small{n:Nat}(h:n<=1000):n<=sizeLine:=EI (N9 h)
theorem Gc{α:Type}{xs:List α}{k:Int}(h0:0<=k)(h:k<(xs.length:Int)):∃v,PJ xs k=some v/\xs[k.toNat]? =some v:=by
 have hk:k.toNat<xs.length:=by omega
 have ek:k=((k.toNat:Nat):Int):=by omega
 refine⟨xs[k.toNat],?_,E5 hk⟩
 have q:PJ xs ((k.toNat:Nat):Int)=some xs[k.toNat]:=PH (E5 hk)
 rw[<-ek] at q
 exact q
section
variable {X:Cx}
theorem QI(K:j6)(h:X.K=K:=by rfl):IxR X (Qi K):=by subst h;exact Xk
theorem YK(K:j6)(h:X.K=K:=by rfl):IxR X (Ll K):=by subst h;exact Qa9
theorem Wq(K:j6)(h:X.K=K:=by rfl):SlR X (WC K):=by subst h;exact Wp
theorem Nd(K:j6)(h:X.K=K:=by rfl):P8 X (.builtin "len") (fun xs H Q=>∃p ys,xs=[.ref p]/\(l7 K H p ys\/W3 K H p ys)/\Q (.int ys.length) H):=by subst h;exact JA
theorem lstK(K:j6)(h:X.K=K:=by rfl):P8 X (.type "list") (fun xs H Q=>∃p ys,xs=[.ref p]/\(l7 K H p ys\/W3 K H p ys)/\∀l,H l=none->Q (.ref l) (i8 H l (.lst ys))):=by subst h;exact Jz
theorem GV(K:j6){es:List Expr}{k:Nat}{t:XT}{n:Nat}{pos:Pos}(hc:X.calm=true)(h:PGs X es t)(hK:X.K=K:=by rfl)
  (hn:(assignEach es X.env).length=n:=by rfl)(Mr:(assignEach es X.env).findIdx? (·.1)=none:=by rfl):PG X (.Tuple es k pos) (LJ K n t):=by subst hK;exact QaB hc h hn Mr
theorem Qa2(K:j6)(h:X.K=K:=by rfl):BF X (compareOp .NotIn) (rIn K true):=by subst h;exact IX
theorem l6(K:j6){tg l:Expr}{tl:TE}(hl:PE X l tl)(h:X.K=K:=by rfl):PI X tg l (LD K tl):=by subst h;exact OU hl
variable {o e:Expr} {es:List Expr} {to:TE} {t:TA} {name:Str} {apos cpos:Pos} {T id:String} {r:V->List V->Hp->VK->Prop}
theorem LZ(K:j6)(pa:PlainAttrs T)(slot:Slot T name id)(hty:typeOf (.builtin id)=pure (.type "method_descriptor"))(hm:MtR X id r)(ho:PE X o to)(h:X.K=K:=by rfl)
  (FO:attributeBase o name X.env (eval o X.env)=eval o X.env:=by rfl)(FN:(apos.endLine==cpos.line)=true:=by rfl):PE X (.Call (.Attribute o name apos) [] [] cpos) (Wk K T r to):=by subst h;exact QaD pa slot hty hm ho FO FN
theorem Ms(K:j6)(pa:PlainAttrs T)(slot:Slot T name id)(hty:typeOf (.builtin id)=pure (.type "method_descriptor"))(hm:MtR X id r)(ho:PE X o to)(ha:PA X (e::es) t)(h:X.K=K:=by rfl)
  (FO:attributeBase o name X.env (eval o X.env)=eval o X.env:=by rfl)
  (hfew:((backTo cpos (starEach (e::es) X.env)).all (fun x=> !x.1)&&(backToKw cpos (keywordEach [] X.env)).all (fun x=>x.1.isSome)
   &&decide ((e::es).length+([]:List Keyword).length+(if ([]:List Keyword).isEmpty then 0 else 1)<30))=true:=by rfl)
  (FN:(apos.endLine==cpos.line)=true:=by rfl)(hs:starEach (e::es) X.env=(false,eval e X.env)::starEach es X.env:=by rfl)(hplain:(backTo cpos (starEach es X.env)).any (·.1)=false:=by rfl):
  PE X (.Call (.Attribute o name apos) (e::es) [] cpos) (tBM K T r to t):=by subst h;exact QbK pa slot hty hm ho ha FO hfew FN hs hplain
end
def Mn(g:TG)(tb:TS)(D:Ends)(σ:St)(J:It)(H1:Hp):Prop:=∃W:Nat->Nat->St->Hp->Prop,(∃m,W 0 m σ H1)/\∀i m σ H,W i m σ H->
 (J.stop i H/\D.nx σ H)\/(J.go i H/\∃N:St->Hp->Prop,(∀σ' H',N σ' H'->∃m',m'<m/\W (i+1) m' σ' H')/\∀x H',J.yld i H x H'->g x σ H' fun σ2 H2=>tb {D with nx:=N,ct:=N,bk:=D.nx} σ2 H2)
theorem OA(wi:TI)(g:TG)(tb:TS)(D:Ends)(σ:St)(H:Hp):ZO wi g tb D σ H=wi σ H fun J H1=>Mn g tb D σ J H1:=rfl
def BH(pick:List (Option Nat))(g:TG)(ti:TT)(te:TE)(Q:VK)(σ:St)(J:It)(H1:Hp):Prop:=∃W:Nat->Nat->List V->St->Hp->Prop,(∃m,W 0 m [] (V8 pick σ) H1)/\∀i m ys σ' H',W i m ys σ' H'->ys.length<=sizeLine/\
 ((J.stop i H'/\∀p,H' p=none->Q (.ref p) (i8 H' p (.lst ys)))\/
  (J.go i H'/\∃N:List V->St->Hp->Prop,(∀zs τ L,N zs τ L->∃m',m'<m/\W (i+1) m' zs τ L)/\∀x H2,J.yld i H' x H2->g x σ' H2 fun σ3 H3=>ti σ3 H3 fun b H4=>if b=true then te σ3 H4 fun v H5=>N (ys++[v]) σ3 H5 else N ys σ3 H4))
theorem KL(wi:TI)(pick:List (Option Nat))(g:TG)(ti:TT)(te:TE)(σ:St)(H:Hp)(Q:VK):Sk wi pick g ti te σ H Q=wi σ H fun J H1=>BH pick g ti te Q σ J H1:=rfl
def VP(c:TT)(tb:TS)(D:Ends)(σ:St)(H:Hp):Prop:=MD c tb D σ H
theorem Hs(c:TT)(tb:TS)(D:Ends)(σ:St)(H:Hp):MD c tb D σ H=VP c tb D σ H:=rfl
def X6(p:Addr)(H:Hp):Hp:=fun b=>if b=p then none else H b
theorem Q8(p:Addr)(H:Hp):i6 (X6 p H) H:=fun b o e=>by
 unfold X6 at e
 split at e
 ·cases e
 ·exact e
theorem Xx(p:Addr)(H:Hp):X6 p H p=none:=by unfold X6;rw[if_pos rfl]
theorem BQ{p b:Addr}{H:Hp}(h:b≠p):X6 p H b=H b:=by unfold X6;rw[if_neg h]
theorem LH(p:Addr)(H:Hp)(o:HO):X6 p (i8 H p o)=X6 p H:=by
 funext b
 unfold X6
 split
 ·rfl
 ·rename_i h;rw[g9 h]
theorem HQ{p:Addr}{H H':Hp}(e:i6 H H'):i6 (X6 p H) (X6 p H'):=fun b o q=>by
 have hb:b≠p:=fun z=>by subst z;rw[Xx] at q;cases q
 rw[BQ hb] at q⊢
 exact e b o q
theorem w9{H:Hp}{p q:Addr}{o u:HO}(h:H q=some u)(hp:H p=none):i8 H p o q=some u:=by rw[g9 (j4 h hp)];exact h
theorem Br{ns:List Int}{k:Int}(h0:0<=k)(h:k<(ns.length:Int)):∃v,PJ (ns.map V.int) k=some (.int v):=by
 obtain⟨v,hv,hv'⟩:=Gc (xs:=ns.map V.int) h0 (by rw[i4];exact h)
 rw[u8] at hv'
 cases e:ns[k.toNat]? with
 |none=>rw[e] at hv';cases hv'
 |some z=>
  rw[e] at hv'
  have:v=V.int z:=(R7 hv').symm
  subst this
  exact⟨z,hv⟩
section
variable {g:TG} {ti:TT} {te:TE} {Q:VK} {σ:St} {H:Hp} {pick:List (Option Nat)} {tb:TS} {D:Ends} {K:j6} {a:Addr} {xs:List V}
theorem C0(xs:List V)(Pv:Nat->List V->St->Hp->Prop)(h0:Pv 0 [] (V8 pick σ) H)(hl:∀i ys σ H,i<=xs.length->Pv i ys σ H->l7 K H a xs/\ys.length<=sizeLine)
  (hs:∀i x ys σ H,xs[i]? =some x->Pv i ys σ H->g x σ H fun σ3 H3=>ti σ3 H3 fun b H4=>if b=true then te σ3 H4 fun v H5=>Pv (i+1) (ys++[v]) σ3 H5 else Pv (i+1) ys σ3 H4)
  (hd:∀ys σ H,Pv xs.length ys σ H->∀p,H p=none->Q (.ref p) (i8 H p (.lst ys))):BH pick g ti te Q σ (Rv K a) H:=Rf Pv h0 hl hs hd
theorem w4(xs:List V)(Pv:Nat->St->Hp->Prop)(h0:Pv 0 σ H)(hl:∀i σ H,i<=xs.length->Pv i σ H->l7 K H a xs)
  (hs:∀i x σ H,xs[i]? =some x->Pv i σ H->g x σ H fun σ2 H2=>tb {D with nx:=Pv (i+1),ct:=Pv (i+1),bk:=D.nx} σ2 H2)(hd:∀σ H,Pv xs.length σ H->D.nx σ H):Mn g tb D σ (Rv K a) H:=Ur Pv h0 hl hs hd
theorem BR(xs:List V)(Pv:Nat->St->Hp->Prop)(h0:Pv 0 σ H)(hl:∀i σ H,i<=xs.length->Pv i σ H->l7 K H a xs)
  (hs:∀(i:Nat) y T σ H,xs[i]? =some y->Pv i σ H->H T=none->g (.ref T) σ (i8 H T (.tup [.int i,y])) fun σ2 H2=>tb {D with nx:=Pv (i+1),ct:=Pv (i+1),bk:=D.nx} σ2 H2)(hd:∀σ H,Pv xs.length σ H->D.nx σ H):Mn g tb D σ (Ite K a) H:=Us Pv h0 hl hs hd
theorem FR{lo:Int}{n:Nat}(Pv:Nat->St->Hp->Prop)(h0:Pv 0 σ H)(hs:∀i σ H,i<n->Pv i σ H->g (.int (lo+i)) σ H fun σ2 H2=>tb {D with nx:=Pv (i+1),ct:=Pv (i+1),bk:=D.nx} σ2 H2)(hd:∀σ H,Pv n σ H->D.nx σ H):
  Mn g tb D σ (ZC lo n) H:=QS Pv h0 hs hd
theorem LK{lo st:Int}{n:Nat}(Pv:Nat->St->Hp->Prop)(h0:Pv 0 σ H)(hs:∀i σ H,i<n->Pv i σ H->g (.int (lo+i*st)) σ H fun σ2 H2=>tb {D with nx:=Pv (i+1),ct:=Pv (i+1),bk:=D.nx} σ2 H2)(hd:∀σ H,Pv n σ H->D.nx σ H):
  Mn g tb D σ (Oq lo st n) H:=Nt Pv h0 hs hd
end
theorem Fg{n:Nat}:∀{ds:List DV},(∀d∈ds,Jr d<=n)->AI ds<=n
 |[],_=>by rw[AI];exact o8 _
 |d::ds,h=>by
  rw[AI]
  exact Nat.max_le.mpr ⟨h d A5,Fg fun e he=>h e (B1 _ he)⟩
theorem HW(ns:List Int):AI (ns.map DV.int)=0:=Nat.le_zero.mp (Fg fun d hd=>by
 obtain⟨n,_,rfl⟩:=n8.mp hd
 simp [Jr])
abbrev Str.cs(x:Str):List Nat:=x.cps.toList
def At{α:Type}(xs:List α)(lo hi:Option Int):List α:=(xs.drop (HT.CP xs.length 0 lo)).take (HT.CP xs.length xs.length hi-HT.CP xs.length 0 lo)
theorem UF{α:Type}(xs:List α){j k:Nat}(h:j<=k):At xs (some (j:Int)) (some (k:Int))=(xs.drop j).take (k-j):=by
 unfold At
 rw[HT.OJ,HT.OJ]
 apply Om
 intro i
 rw[Y3,Y3,Ak,Ak]
 by_cases h1:i<k-j
 ·rw[if_pos h1]
  by_cases h2:j+i<xs.length
  ·rw[if_pos (by omega)]
   congr 1
   omega
  ·rw[if_neg (by omega),CC (by omega)]
 ·rw[if_neg h1,if_neg (by omega)]
theorem MI(lo hi:Option Int)(n:Nat):Builtin.Str.strSliceIndices lo hi 1 n=Builtin.Str.strSliceIndices (some ((HT.CP n 0 lo:Nat):Int)) (some ((HT.CP n n hi:Nat):Int)) 1 n:=by
 have clipS:∀(v:Int) (d:Nat),max 0 (min (if v<0 then v+(n:Int) else v) (n:Int))=((HT.CP n d (some v):Nat):Int):=fun v d=>by
  show max 0 (min (if v<0 then v+(n:Int) else v) (n:Int))=(((if v<0 then (v+(n:Int)).toNat else min v.toNat n):Nat):Int)
  by_cases hv:v<0
  ·simp only[if_pos hv];omega
  ·simp only[if_neg hv];omega
 have clipN:∀k:Nat,k<=n->max 0 (min (if (k:Int)<0 then (k:Int)+(n:Int) else (k:Int)) (n:Int))=(k:Int):=fun k hk=>by
  rw[if_neg (by omega)];omega
 have h1:(1:Int)>0:=by omega
 have l1:=HT.IL n 0 (o8 _) lo
 have l2:=HT.IL n n (l8 _) hi
 unfold Builtin.Str.strSliceIndices
 simp only[h1,if_true]
 rw[clipN _ l1,clipN _ l2]
 cases lo with
 |none=>
  cases hi with
  |none=>rfl
  |some u=>dsimp only;rw[clipS u n];rfl
 |some v=>
  cases hi with
  |none=>dsimp only;rw[clipS v 0];rfl
  |some u=>dsimp only;rw[clipS v 0,clipS u n]
theorem GQ(x:Str)(lo hi:Option Int):StrLaws.sliceText x lo hi=⟨(At x.cps.toList lo hi).toArray⟩:=by
 have hn:x.cps.toList.length=x.length:=by simp [Str.length]
 unfold At
 rw[hn]
 have l1:=HT.IL x.length 0 (o8 _) lo
 have l2:=HT.IL x.length x.length (l8 _) hi
 have e:StrLaws.sliceText x lo hi=StrLaws.sliceText x (some ((HT.CP x.length 0 lo:Nat):Int)) (some ((HT.CP x.length x.length hi:Nat):Int)):=by
  unfold StrLaws.sliceText
  rw[MI]
 rw[e]
 generalize HT.CP x.length 0 lo=a at*
 generalize HT.CP x.length x.length hi=b at*
 by_cases Wb:a<=b
 ·exact StrLaws.sliceText_nat x Wb l2
 ·have e0:b-a=0:=by omega
  rw[e0,Aj]
  have ei:Builtin.Str.strSliceIndices (some (a:Int)) (some (b:Int)) 1 x.length=[]:=by
   unfold Builtin.Str.strSliceIndices
   simp only[show (1:Int)>0 by omega,if_true]
   rw[if_neg (by omega),if_neg (by omega)]
   have q1:max 0 (min (a:Int) (x.length:Int))=(a:Int):=by omega
   have q2:max 0 (min (b:Int) (x.length:Int))=(b:Int):=by omega
   rw[q1,q2]
   unfold sliceRange
   simp only[show (1:Int)>0 by omega,if_true]
   rw[if_neg (by omega)]
   rfl
  unfold StrLaws.sliceText
  rw[ei]
  split
  ·rename_i h
   have hl:x.length=0:=by simp at h;omega
   apply Str.ext'
   have:x.cps= #[]:=Array.eq_empty_of_size_eq_zero (by simpa [Str.length] using hl)
   rw[this]
  ·rfl
section
variable {X:Cx}
def Qav:V->Option Int->Option Int->Hp->VK->Prop:=fun x lo hi H Q=>∃z,x= .str z/\z.length<=sizeLine/\Q (.str ⟨(At z.cps.toList lo hi).toArray⟩) H
theorem Qad:SlR X Qav:=by
 intro c4 s σ H x v vl vu lo hi sl Q I rx hs pl pu h
 obtain⟨z,rfl,hz,q⟩:=h
 obtain⟨t,rfl⟩:=rx
 refine⟨"str",_,F.slot_str_getitem.lookup,PL _ _ _,?_⟩
 obtain⟨o,ho,hc,hd⟩:=hs
 obtain⟨l,hl,el⟩:∃l:Option (Int×Tok),vl=partValue l/\l.map (·.1)=lo:=by
  cases pl with
  |none=>exact⟨none,rfl,rfl⟩
  |int i t=>exact⟨some (i,t),rfl,rfl⟩
 obtain⟨u,hu,eu⟩:∃l:Option (Int×Tok),vu=partValue l/\l.map (·.1)=hi:=by
  cases pu with
  |none=>exact⟨none,rfl,rfl⟩
  |int i t=>exact⟨some (i,t),rfl,rfl⟩
 subst hl hu el eu
 refine wpAny_getItem_str_slice (l:=l) (u:=u) (st:=none) ⟨o,ho,hc,hd⟩ rfl ?_
 have e:=GQ z (l.map (·.1)) (u.map (·.1))
 unfold sliceMade
 refine post_val_or_made (fun _=> ?_) fun t' k=>⟨.str ⟨(At z.cps.toList (l.map (·.1)) (u.map (·.1))).toArray⟩,H,I.tok _,⟨t',?_⟩,q⟩
 ·rename_i hno
  have e2:StrLaws.sliceText z (l.map (·.1)) (u.map (·.1))=⟨((slicePicked z l u none).filterMap (z.cps[·]?)).toArray⟩:=by
   unfold StrLaws.sliceText
   exact if_neg hno
  rw[<-e2,e]
  show (At z.cps.toList (l.map (·.1)) (u.map (·.1))).toArray.size<=sizeLine
  rw[C6]
  unfold At
  rw[A4,AQ]
  have:z.cps.toList.length=z.length:=by simp [Str.length]
  omega
 ·rw[<-e]
  rfl
theorem T9:BF X (compareOp .LtE) (fun x y H Q=>∃i j,x= .str i/\y= .str j/\Q (.bl (!decide (j.cps.toList<i.cps.toList))) H):=by
 intro c4 s σ H x y v u Q I rx ry h
 obtain⟨i,j,rfl,rfl,q⟩:=h
 obtain⟨t,rfl⟩:=rx
 obtain⟨t',rfl⟩:=ry
 exact PySem.P.le_str ⟨.bl _,H,I,rfl,q⟩
def FA:V->List V->Hp->VK->Prop:=fun x vs H Q=>∃z,x= .str z/\vs=[]/\z.length<=1000000/\(∀c∈z.cps.toList,c<128)/\Q (.str ⟨z.cps.map lo1⟩) H
theorem Lx:MtM X "str.lower" FA:=by
 intro c4 s σ H x vs v us Q I rx rv h
 obtain⟨z,rfl,rfl,hz,hA,q⟩:=h
 obtain⟨t,rfl⟩:=rx
 cases rv
 have e:=lower_ascii hA
 have hl:(Txt.lower z).length=z.length:=by rw[e];simp [Str.length]
 have Ac:Builtin.Str.tooLong (Txt.lower z).length=false:=by
  rw[hl]
  unfold Builtin.Str.tooLong
  have:=B9
  exact X8 (by omega)
 refine call_gives F.slot_str_lower (PL _ _ _) F.entry_str_lower (F.args_str_lower_1 _) (gives_str_lower z t Ac) ⟨?_,⟨.str ⟨z.cps.map lo1⟩,H,I.tok _,⟨_,by rw[<-e];rfl⟩,q⟩⟩
 exact fit_le Ac
def Tb:V->List V->Hp->VK->Prop:=fun x vs H Q=>∃z c,x= .str z/\vs=[.str ⟨#[c]⟩]/\c∈z.cps.toList/\Q (.int (Txt.find z ⟨#[c]⟩)) H
theorem Gb(K:j6)(hK:X.K=K:=by rfl):P8 X (.builtin "isinstance") (fun xs H Q=>∃x T t b,xs=[x, .ty T]/\TyOf K H x t/\PySem.W.kitOne K t (.type T)=some b/\Q (.bl b) H):=by
 subst hK
 intro c4 s σ H xs us Q I r h
 obtain⟨x,T,t,b,rfl,ty,e,q⟩:=h
 obtain⟨u,v,rfl,ru,rv⟩:=vals2 r
 cases rv
 exact HP I ru ty e fun tk=>⟨.bl b,H,I.tok _,rfl,q⟩
theorem QaJ(K:j6){k:Nat}(hr:Room k X.A)(hK:X.K=K:=by rfl):BF X (compareOp .Eq) (fun x y H Q=>∃p xs q,x= .ref p/\y= .ref q/\l7 K H p xs/\l7 K H q []/\Q (.bl xs.isEmpty) H):=by
 subst hK
 intro c4 s σ H x y v u Q I rx ry h
 obtain⟨p,xs,q,rfl,rfl,hp,hq,k⟩:=h
 cases rx;cases ry
 have HR:X.A.units+64<cLine:=hr.units
 obtain⟨n5,r,pl,hz⟩:=I.list hp
 obtain⟨its',r',pl',hz'⟩:=I.list hq
 cases r'
 cases r with
 |nil=>exact SeqAt.eq_listAt (e:=fun _=>true) pl.isList pl'.isList rfl (by omega) (fun j h1 h2=>absurd h1 (by simp)) ⟨.bl true,H,I,rfl,k⟩
 |cons r0 rs=>exact SeqAt.eq_list_lengthsAt pl.isList pl'.isList (by simp) (by omega) ⟨.bl false,H,I,rfl,k⟩
theorem QaG(K:j6){k:Nat}(hr:Room k X.A)(hK:X.K=K:=by rfl):BF X (compareOp .NotEq) (fun x y H Q=>∃p xs q,x= .ref p/\y= .ref q/\l7 K H p xs/\l7 K H q []/\Q (.bl (!xs.isEmpty)) H):=by
 subst hK
 intro c4 s σ H x y v u Q I rx ry h
 obtain⟨p,xs,q,rfl,rfl,hp,hq,k⟩:=h
 cases rx;cases ry
 have HR:X.A.units+64<cLine:=hr.units
 obtain⟨n5,r,pl,hz⟩:=I.list hp
 obtain⟨its',r',pl',hz'⟩:=I.list hq
 cases r'
 cases r with
 |nil=>exact SeqAt.RcNeAt.lists (A:=X.A) (s:=s) (e:=fun _=>true) pl.isList pl'.isList rfl (by omega) (fun j h1 h2=>absurd h1 (by simp)) X.prog X.w X.xe _ ⟨.bl false,H,I,rfl,k⟩
 |cons r0 rs=>exact SeqAt.RcNeAt.lists_lengths (A:=X.A) (s:=s) pl.isList pl'.isList (by simp) (by omega) X.prog X.w X.xe _ ⟨.bl true,H,I,rfl,k⟩
end
mutual
def k7(H:Hp):DV->V->Prop
 | .non,v=>v= .non
 | .bl b,v=>v= .bl b
 | .int i,v=>v= .int i
 | .str x,v=>v= .str x
 | .lst ds,v=>∃a xs,v= .ref a/\H a=some (.lst xs)/\c8 H ds xs
 | .tup ds,v=>∃a xs,v= .ref a/\H a=some (.tup xs)/\c8 H ds xs
def c8(H:Hp):List DV->List V->Prop
 |[],xs=>xs=[]
 |d::ds,xs=>∃y ys,xs=y::ys/\k7 H d y/\c8 H ds ys
end
mutual
theorem k7.deep{K:j6}{H:Hp}:∀(d:DV) (v:V),k7 H d v->T6 K H d v
 | .non,v,h=>by rw[k7] at h;rw[T6];exact h
 | .bl b,v,h=>by rw[k7] at h;rw[T6];exact h
 | .int i,v,h=>by rw[k7] at h;rw[T6];exact h
 | .str x,v,h=>by rw[k7] at h;rw[T6];exact h
 | .lst ds,v,h=>by rw[k7] at h;rw[T6];obtain⟨a,xs,r,q,t⟩:=h;exact⟨a,xs,r,l7.of q,c8.deep ds xs t⟩
 | .tup ds,v,h=>by rw[k7] at h;rw[T6];obtain⟨a,xs,r,q,t⟩:=h;exact⟨a,xs,r,W3.of q,c8.deep ds xs t⟩
theorem c8.deep{K:j6}{H:Hp}:∀(ds:List DV) (xs:List V),c8 H ds xs->Q9 K H ds xs
 |[],xs,h=>by rw[c8] at h;rw[Q9];exact h
 |d::ds,xs,h=>by rw[c8] at h;rw[Q9];obtain⟨y,ys,r,q,t⟩:=h;exact⟨y,ys,r,k7.deep d y q,c8.deep ds ys t⟩
end
theorem c8.length{H:Hp}:∀{ds:List DV} {xs:List V},c8 H ds xs->xs.length=ds.length
 |[],xs,h=>by rw[c8] at h;subst h;rfl
 |d::ds,xs,h=>by rw[c8] at h;obtain⟨y,ys,rfl,_,h⟩:=h;rw[List.length_cons,List.length_cons,c8.length h]
mutual
theorem k7.same{H H':Hp}(e:i6 H H'):∀(d:DV) (v:V),k7 H d v->k7 H' d v
 | .non,v,h=>by rw[k7] at h⊢;exact h
 | .bl b,v,h=>by rw[k7] at h⊢;exact h
 | .int i,v,h=>by rw[k7] at h⊢;exact h
 | .str x,v,h=>by rw[k7] at h⊢;exact h
 | .lst ds,v,h=>by rw[k7] at h⊢;obtain⟨a,xs,r,q,t⟩:=h;exact⟨a,xs,r,e _ _ q,c8.same e ds xs t⟩
 | .tup ds,v,h=>by rw[k7] at h⊢;obtain⟨a,xs,r,q,t⟩:=h;exact⟨a,xs,r,e _ _ q,c8.same e ds xs t⟩
theorem c8.same{H H':Hp}(e:i6 H H'):∀(ds:List DV) (xs:List V),c8 H ds xs->c8 H' ds xs
 |[],xs,h=>by rw[c8] at h⊢;exact h
 |d::ds,xs,h=>by rw[c8] at h⊢;obtain⟨y,ys,r,q,t⟩:=h;exact⟨y,ys,r,k7.same e d y q,c8.same e ds ys t⟩
end
theorem c8.get{H:Hp}:∀{ds:List DV} {xs:List V} {i:Nat} {x:V},c8 H ds xs->xs[i]? =some x->∃d,ds[i]? =some d/\k7 H d x
 |[],xs,i,x,h,e=>by rw[c8] at h;subst h;simp at e
 |d::ds,xs,0,x,h,e=>by
  rw[c8] at h;obtain⟨y,ys,rfl,q,t⟩:=h
  simp at e;subst e;exact⟨d,rfl,q⟩
 |d::ds,xs,i+1,x,h,e=>by
  rw[c8] at h;obtain⟨y,ys,rfl,q,t⟩:=h
  obtain⟨d',e1,e2⟩:=c8.get (i:=i) t (by simpa using e)
  exact⟨d',by simpa using e1,e2⟩
theorem c8.get'{H:Hp}{ds:List DV}{xs:List V}{i:Nat}{d:DV}(h:c8 H ds xs)(e:ds[i]? =some d):∃x,xs[i]? =some x/\k7 H d x:=by
 have hl:=h.length
 have hi:i<xs.length:=by rw[hl];exact(u4.mp e).1
 obtain⟨d',e1,e2⟩:=h.get (E5 hi)
 rw[e] at e1;cases e1
 exact⟨_,E5 hi,e2⟩
theorem c8.app{H:Hp}:∀{ds es:List DV} {xs ys:List V},c8 H ds xs->c8 H es ys->c8 H (ds++es) (xs++ys)
 |[],es,xs,ys,h,q=>by rw[c8] at h;subst h;exact q
 |d::ds,es,xs,ys,h,q=>by
  rw[c8] at h;obtain⟨y,zs,rfl,r,t⟩:=h
  show c8 H (d::(ds++es)) _
  rw[c8]
  exact⟨y,zs++ys,rfl,r,c8.app t q⟩
theorem c8.one{H:Hp}{d:DV}{x:V}(h:k7 H d x):c8 H [d] [x]:=by
 rw[c8];exact⟨x,[],rfl,h,by rw[c8]⟩
theorem c8.nil{H:Hp}:c8 H [] []:=by rw[c8]
theorem c8.take{H:Hp}:∀{ds:List DV} {xs:List V} (n:Nat),c8 H ds xs->c8 H (ds.take n) (xs.take n)
 |ds,xs,0,_=>by simp [c8]
 |[],xs,n+1,h=>by rw[c8] at h;subst h;simp [c8]
 |d::ds,xs,n+1,h=>by
  rw[c8] at h;obtain⟨y,zs,rfl,r,t⟩:=h
  rw[Ol,Ol,c8]
  exact⟨y,_,rfl,r,c8.take n t⟩
theorem c8.drop{H:Hp}:∀{ds:List DV} {xs:List V} (n:Nat),c8 H ds xs->c8 H (ds.drop n) (xs.drop n)
 |ds,xs,0,h=>by simpa using h
 |[],xs,n+1,h=>by rw[c8] at h;subst h;simp [c8]
 |d::ds,xs,n+1,h=>by
  rw[c8] at h;obtain⟨y,zs,rfl,r,t⟩:=h
  rw[VI,VI]
  exact c8.drop n t
theorem c8.ints{H:Hp}:∀(ns:List Int),c8 H (ns.map DV.int) (ns.map V.int)
 |[]=>by simp [c8]
 |n::r=>by
  rw[List.map_cons,List.map_cons,c8]
  exact⟨_,_,rfl,by rw[k7],c8.ints r⟩
theorem Ot{c:TT}{tb:TS}{D:Ends}{σ:St}{H:Hp}(Pv:St->Hp->Prop)(μ:St->Hp->Nat)(h0:Pv σ H)
  (hs:∀σ H,Pv σ H->c σ H fun b H1=>if b=true then ∃N:St->Hp->Prop,(∀σ' H',N σ' H'->∃m',m'<μ σ H/\m'=μ σ' H'/\Pv σ' H')/\tb {D with nx:=N,ct:=N,bk:=D.nx} σ H1 else D.nx σ H1):VP c tb D σ H:=
 ⟨fun m σ H=>m=μ σ H/\Pv σ H,⟨_,rfl,h0⟩,fun m σ H ⟨e,p⟩=>by subst e;exact hs σ H p⟩
def Its(z:Str):It:=⟨fun i _=>i<z.length,fun i H x H'=>H'=H/\∃c,z.cps.toList[i]? =some c/\x= .str ⟨#[c]⟩,fun i _=>z.length<=i⟩
theorem PY{P:Program}{w:World}{K:j6}{tg:Expr}(it:Addr)(z:Str)(t:Tok):Turn P w K tg (Its z) [it] it (fun i h=>h.IsStrIter it "str_ascii_iterator" z t i) where
 mem:=by simp
 obj:=fun i h st b hb=>by
  have e:b=it:=by simpa using hb
  subst e
  obtain⟨o,e,c,d⟩:=st
  exact⟨o,e,fun v z=>by rw[d] at z;cases z⟩
 keep:=fun i h h' st k=>let ⟨o,ho,r⟩:=st;⟨o,k it (by simp) o ho,r⟩
 item:=by
  intro X hP hw hK hc i c4 s σ H E I hf st hg
  subst hP hw hK
  obtain⟨f0,f1,f2,f3,f4,f5⟩:=hf it (by simp)
  have hi:i<z.cps.size:=hg
  refine wpAny_pyNext_ascii_item st (c:=z.cps[i]) (by simp [hi]) fun h' st' sb=> ?_
  have I1:Inw X c4 σ H {s with heap:=h',toks:=s.toks+1}:=I.turned (t':=s.toks+1) (fun b o hb e=>(sb.2 b hb).trans e) f0 f1 f3 f4 f5
  obtain⟨o,e,c,d⟩:=id st'
  exact⟨_,rfl,FP (s:={s with heap:=h',toks:=s.toks+1}) e c d (by decide) ⟨.str ⟨#[z.cps[i]]⟩,H,I1,⟨_,rfl⟩,⟨rfl,z.cps[i],by simp [hi],rfl⟩,st',fun b hb=>(hf b hb).1⟩⟩
 done:=by
  intro X hP hw hK hc i c4 s σ H E I hf st hg
  subst hP hw hK
  obtain⟨f0,f1,f2,f3,f4,f5⟩:=hf it (by simp)
  have hi:z.cps.size<=i:=hg
  exact wpAny_pyNext_ascii_end (I.ok.hd hc) st (by simp [hi]) fun h' eb=>⟨rfl,I.turned (t':=s.toks) (fun b o hb e=>eb b o hb e) f0 f1 f3 f4 f5⟩
 self:=fun _ _ _ _ _ st h=>wpAny_pyIter_striter_ascii st h
theorem PX{P:Program}{w:World}{K:j6}{tg:Expr}(it:Addr)(z:Str)(t:Tok):Turn P w K tg (Its z) [it] it (fun i h=>h.IsStrIter it "str_iterator" z t i) where
 mem:=by simp
 obj:=fun i h st b hb=>by
  have e:b=it:=by simpa using hb
  subst e
  obtain⟨o,e,c,d⟩:=st
  exact⟨o,e,fun v z=>by rw[d] at z;cases z⟩
 keep:=fun i h h' st k=>let ⟨o,ho,r⟩:=st;⟨o,k it (by simp) o ho,r⟩
 item:=by
  intro X hP hw hK hc i c4 s σ H E I hf st hg
  subst hP hw hK
  obtain⟨f0,f1,f2,f3,f4,f5⟩:=hf it (by simp)
  have hi:i<z.cps.size:=hg
  refine wpAny_pyNext_wide_item st (c:=z.cps[i]) (by simp [hi]) fun h' st' sb=> ?_
  have I1:Inw X c4 σ H {s with heap:=h',toks:=s.toks+1}:=I.turned (t':=s.toks+1) (fun b o hb e=>(sb.2 b hb).trans e) f0 f1 f3 f4 f5
  obtain⟨o,e,c,d⟩:=id st'
  exact⟨_,rfl,FP (s:={s with heap:=h',toks:=s.toks+1}) e c d (by decide) ⟨.str ⟨#[z.cps[i]]⟩,H,I1,⟨_,rfl⟩,⟨rfl,z.cps[i],by simp [hi],rfl⟩,st',fun b hb=>(hf b hb).1⟩⟩
 done:=by
  intro X hP hw hK hc i c4 s σ H E I hf st hg
  subst hP hw hK
  obtain⟨f0,f1,f2,f3,f4,f5⟩:=hf it (by simp)
  have hi:z.cps.size<=i:=hg
  exact wpAny_pyNext_wide_end (I.ok.hd hc) st (by simp [hi]) fun h' eb=>⟨rfl,I.turned (t':=s.toks) (fun b o hb e=>eb b o hb e) f0 f1 f3 f4 f5⟩
 self:=fun _ _ _ _ _ st h=>wpAny_pyIter_striter_wide st h
def Xp(tl:TE):TI:=fun σ H R=>tl σ H fun x H1=>∃z,x= .str z/\R (Its z) H1
theorem Tk{X:Cx}{tg l:Expr}{tl:TE}(hl:PE X l tl):PI X tg l (Xp tl):=by
 intro c4 s σ H R I h
 refine G7 (hl c4 s σ H _ I h) fun v s1 ⟨x,H1,I1,r1,q1⟩=> ?_
 obtain⟨z,e,q⟩:=q1
 subst e
 obtain⟨t,rfl⟩:=r1
 have fp:∀b∈[s1.heap.objs.size],Er X c4 H1 b:=fun b hb=>by
  have e:b=s1.heap.objs.size:=by simpa using hb
  subst e
  exact I1.fpOk (l8 _) (I1.hok.fresh (l8 _))
 cases ha:z.cps.all (· <128)
 ·exact wpAny_pyIter_wide ha ⟨s1.heap.objs.size,[s1.heap.objs.size],_,_,H1,rfl,I1.kept (t':=s1.toks) fun b o e=>q0 _ e,PX _ z t,⟨_,C7 _ rfl,rfl,rfl⟩,fp,q⟩
 ·exact wpAny_pyIter_ascii ha ⟨s1.heap.objs.size,[s1.heap.objs.size],_,_,H1,rfl,I1.kept (t':=s1.toks) fun b o e=>q0 _ e,PY _ z t,⟨_,C7 _ rfl,rfl,rfl⟩,fp,q⟩
section
variable {g:TG} {ti:TT} {te:TE} {Q:VK} {σ:St} {H:Hp} {pick:List (Option Nat)}
theorem Rj{z:Str}(Pv:Nat->List V->St->Hp->Prop)(h0:Pv 0 [] (V8 pick σ) H)(hl:∀i ys σ H,i<=z.length->Pv i ys σ H->ys.length<=sizeLine)
  (hs:∀i c ys σ H,z.cps.toList[i]? =some c->Pv i ys σ H->g (.str ⟨#[c]⟩) σ H fun σ3 H3=>ti σ3 H3 fun b H4=>if b=true then te σ3 H4 fun v H5=>Pv (i+1) (ys++[v]) σ3 H5 else Pv (i+1) ys σ3 H4)
  (hd:∀ys σ H,Pv z.length ys σ H->∀p,H p=none->Q (.ref p) (i8 H p (.lst ys))):BH pick g ti te Q σ (Its z) H:=by
 refine⟨fun i m ys σ H=>m=z.length-i/\i<=z.length/\Pv i ys σ H,⟨z.length,by simp,o8 _,h0⟩,?_⟩
 rintro i m ys σ H ⟨rfl,hi,p⟩
 refine⟨hl i ys σ H hi p,?_⟩
 by_cases O2:i<z.length
 ·refine .inr ⟨O2,Pv (i+1),fun zs σ' H' p'=>⟨z.length-(i+1),by omega,rfl,O2,p'⟩,fun x H' y=> ?_⟩
  obtain⟨e,c,hc,y⟩:=y
  subst e y
  exact hs i c ys σ _ hc p
 ·have e:i=z.length:=by omega
  subst e
  exact .inl ⟨l8 _,hd ys σ H p⟩
theorem Uu{tb:TS}{D:Ends}{z:Str}(Pv:Nat->St->Hp->Prop)(h0:Pv 0 σ H)
  (hs:∀i c σ H,z.cps.toList[i]? =some c->Pv i σ H->g (.str ⟨#[c]⟩) σ H fun σ2 H2=>tb {D with nx:=Pv (i+1),ct:=Pv (i+1),bk:=D.nx} σ2 H2)(hd:∀σ H,Pv z.length σ H->D.nx σ H):Mn g tb D σ (Its z) H:=by
 refine⟨fun i m σ H=>m=z.length-i/\i<=z.length/\Pv i σ H,⟨z.length,by simp,o8 _,h0⟩,?_⟩
 rintro i m σ H ⟨rfl,hi,p⟩
 by_cases O2:i<z.length
 ·refine .inr ⟨O2,Pv (i+1),fun σ' H' p'=>⟨z.length-(i+1),by omega,rfl,O2,p'⟩,fun x H' y=> ?_⟩
  obtain⟨e,c,hc,y⟩:=y
  subst e y
  exact hs i c σ _ hc p
 ·have e:i=z.length:=by omega
  subst e
  exact .inl ⟨l8 _,hd σ H p⟩
end
section
variable {X:Cx}
theorem WK(K:j6){k:Nat}(hr:Room k X.A)(hK:X.K=K:=by rfl):BF X (compareOp .Eq) (fun x y H Q=>∃d ds,(d= .lst ds\/d= .tup ds)/\Jr d<=60/\T6 K H d x/\T6 K H d y/\Q (.bl true) H):=by subst hK;exact QaK hr
end
def Dp(h:Heap)(e:Addr)(C:Value)(dx:Option Addr)(tb:Value):Prop:=∃(oe:Obj) (vs:Array Value),h.get? e=some oe/\oe.cls=C/\oe.dict=dx/\oe.data= .fields vs/\vs[1]? =some tb/\(dx≠none->vs[2]? =some .none)
def Kq(h:Heap)(T:Addr)(fl:Value):Prop:=∃(o:Obj) (ts:Array Value),h.get? T=some o/\o.data= .fields ts/\ts[3]? =some fl
def Qbo(h:Heap)(tb:Value):Prop:=tb= .none\/∃T,tb= .ref T/\Kq h T .none
def AT(fr:List Addr)(e:Addr)(tb:Value)(h h':Heap):Prop:=
 ∀b o,h.get? b=some o->b≠e->tb≠ .ref b->∃sl,h'.get? b=some {o with slots:=sl}/\(b∉fr->sl=o.slots)
theorem AT.there{fr:List Addr}{e:Addr}{tb:Value}{h h':Heap}(k:AT fr e tb h h'){b:Addr}{o:Obj}(q:h.get? b=some o)(n:b≠e)(n':tb≠ .ref b)(f:b∉fr):h'.get? b=some o:=by
 obtain⟨sl,x,y⟩:=k b o q n n'
 rw[x,y f]
section
variable {M:Model} {A:Around} {E:Value->Shared->Prop} {s:Shared} {base:Heap} {env:Env} {outer:List Env} {L e:Addr} {C:Value} {dx:Option Addr} {tb:Value} {Q:Unit->Shared->Prop}
theorem Pr{hadNext:Bool}{hdv:Value}(Kv:A.frames=some (env::outer))(hl:s.heap.FunFrames base (env::outer))(hf:env.frame=some L)(x:Dp s.heap e C dx tb)
  (q:∀h' T,s.heap.objs.size<=T->Dp h' e C dx (.ref T)->Kq h' T (rawInt L)->AT (Jn (env::outer)) e .none s.heap h'->Q () {s with heap:=h'}):
  wpAny M A (do let a<-frameOf env;let pl<-entryPlaceOf L hadNext;let b<-EntryCells.newEntry hdv a .none (rawInt L) .none pl;setField (.ref e) 1 b) Q E s:=by
 obtain⟨oe,vs,he,hc,hd,hv,h1,hcn⟩:=x
 have h1s:1<vs.size:=(Km.mp h1).1
 refine e8 (wpAny_frameOf_fun Kv hl hf fun g1 so=>e8 (wpAny_entryPlaceOf fun pl ip=> ?_))
 obtain⟨sz,oth,all⟩:=so
 obtain⟨sle,he1⟩:=all e oe he
 unfold EntryCells.newEntry newFields
 refine e8 (GG ?_ (ip.sizeOk5 _ _ _ _ _))
 dsimp only
 have O2:e<g1.objs.size:=A1 he1
 refine Gz (q0 _ he1) (show ({oe with slots:=sle}:Obj).data= .fields vs from hv) h1s (q _ g1.objs.size (EF sz.symm) ?_ ?_ fun b o hb Jk _=> ?_)
 ·refine⟨_,_,Kl _ (q0 _ he1) (Oj (El (show ({oe with slots:=sle}:Obj).data= .fields vs from hv) _)),?_,?_,El (show ({oe with slots:=sle}:Obj).data= .fields vs from hv) _,by simp [h1s],fun z=>by have:=hcn z;rw[Array.getElem?_setIfInBounds_ne (by decide)];exact this⟩
  ·rw[Obj.cls_mapFields];exact hc
  ·unfold Obj.mapFields
   rw[show ({oe with slots:=sle}:Obj).data= .fields vs from hv]
   exact hd
 ·refine⟨_,_,(Eo _ _ (u9 O2)).trans (C7 _ rfl),rfl,?_⟩
  first
   |(simp;done)
   |(rcases ip with rfl|⟨_,_,_,_,_,_,_,rfl⟩<;>simp)
 ·obtain⟨sl,k⟩:=all b o hb
  refine⟨sl,(Eo _ _ (D9 Jk)).trans (q0 _ k),fun nf=> ?_⟩
  have k2:=(oth b nf).trans hb
  rw[k] at k2
  exact congrArg Obj.slots (R7 k2)
end
section
variable {M:Model} {A:Around} {E:Value->Shared->Prop} {s:Shared} {base:Heap} {env:Env} {outer:List Env} {L e:Addr} {C:Value} {dx:Option Addr} {tb:Value} {Q:Unit->Shared->Prop}
theorem RY{h:Heap}{T:Addr}{o:Obj}{ts:Array Value}{v:Value}(hT:h.get? T=some o)(hd:o.data= .fields ts)(n:3<ts.size):(∀b,b≠T->(h.update T (Obj.mapFields (·.setIfInBounds 3 v))).get? b=h.get? b)/\Kq (h.update T (Obj.mapFields (·.setIfInBounds 3 v))) T v:=
 ⟨fun b hb=>Eo _ _ (D9 hb),_,_,Kl _ hT (Oj (El hd _)),El hd _,by simp [n]⟩
theorem Tx(Kv:A.frames=some (env::outer))(hl:s.heap.FunFrames base (env::outer))(hf:env.frame=some L)(x:Dp s.heap e C dx tb)(t:Qbo s.heap tb)(hte:tb≠ .ref e)
  (q:∀h' T,s.heap.objs.size<=T->Dp h' e C dx (.ref T)->Kq h' T (rawInt L)->AT (Jn (env::outer)) e tb s.heap h'->Q () {s with heap:=h'}):wpAny M A (noteFrame (.ref e) env) Q E s:=by
 obtain⟨oe,vs,he,hc,hd,hv,h1,hcn⟩:=id x
 unfold noteFrame
 simp only[hf]
 refine e8 (O9 he hv h1 ?_)
 rcases t with rfl|⟨T0,rfl,oT,ts,hT,hdT,h3⟩
 ·rw[if_neg (by decide)]
  exact Pr Kv hl hf x q
 ·have n3:3<ts.size:=(Km.mp h3).1
  have eT:e≠T0:=fun z=>hte (by rw[z])
  rw[if_pos (by simp)]
  refine e8 (O9 hT hdT h3 ?_)
  rw[if_neg (by simp [rawInt])]
  obtain⟨oth,_⟩:=RY (v:=Value.none) hT hdT n3
  refine e8 (Gz hT hdT n3 (Pr (base:=base) Kv ?_ hf ⟨oe,vs,(oth e eT).trans he,hc,hd,hv,h1,hcn⟩ fun h' T hs xo tt k=> ?_))
  ·refine hl.of_keeps fun b o hb nf=>⟨o,(oth b fun z=> ?_).trans hb,rfl⟩
   subst z
   rw[hT] at hb
   cases hb
   exact nf ts hdT
  ·refine q h' T ?_ xo tt fun b o hb Jk hbt=>k b o ((oth b fun z=>hbt (by rw[z])).trans hb) Jk (by simp)
   have:(s.heap.update T0 (Obj.mapFields (·.setIfInBounds 3 Value.none))).objs.size=s.heap.objs.size:=Heap.size_after_update ..
   rw[<-this]
   exact hs
theorem FS{T:Addr}{fl:Value}(x:Dp s.heap e C dx (.ref T))(t:Kq s.heap T fl)(hTe:T≠e)
  (q:∀h',Dp h' e C dx (.ref T)->Kq h' T .none->h'.objs.size=s.heap.objs.size->(∀b,b≠T->h'.get? b=s.heap.get? b)->Q () {s with heap:=h'}):wpAny M A (setFlight (.ref e) none) Q E s:=by
 obtain⟨oe,vs,he,hc,hd,hv,h1,hcn⟩:=x
 obtain⟨oT,ts,hT,hdT,h3⟩:=t
 have n3:3<ts.size:=(Km.mp h3).1
 obtain⟨oth,tt⟩:=RY (v:=Value.none) hT hdT n3
 unfold setFlight
 refine e8 (O9 he hv h1 ?_)
 rw[if_pos (by simp)]
 exact Gz hT hdT n3 (q _ ⟨oe,vs,(oth e (D9 hTe)).trans he,hc,hd,hv,h1,hcn⟩ tt (Heap.size_after_update ..) oth)
theorem Xi(Kv:A.frames=some (env::outer))(hl:s.heap.FunFrames base (env::outer))(hf:env.frame=some L)(x:Dp s.heap e C dx tb)(t:Qbo s.heap tb)(hte:tb≠ .ref e)
  (q:∀h' T,s.heap.objs.size<=T->Dp h' e C dx (.ref T)->Kq h' T .none->AT (Jn (env::outer)) e tb s.heap h'->Q () {s with heap:=h'}):wpAny M A (leaving env (.ref e)) Q E s:=by
 unfold leaving
 have elt:e<s.heap.objs.size:=let ⟨_,_,he,_⟩:=x;A1 he
 refine e8 (Tx Kv hl hf x t hte fun h' T hs xo tt k=> ?_)
 refine FS (s:={s with heap:=h'}) xo tt (Av (E9 elt hs)) fun h2 xo2 tt2 sz oth=>q h2 T hs xo2 tt2 fun b o hb Jk hbt=> ?_
 obtain⟨sl,k1,k2⟩:=k b o hb Jk hbt
 exact⟨sl,(oth b (u9 (E9 (A1 hb) hs))).trans k1,k2⟩
end
def XP(e:Addr)(C:Value)(dx:Option Addr)(h:Heap):Prop:=∃(oe:Obj) (vs:Array Value),h.get? e=some oe/\oe.cls=C/\oe.dict=dx/\oe.data= .fields vs/\1<vs.size
def XO(e:Addr)(C:Value)(dx:Option Addr):HO:= .ext (XP e C dx)
theorem Dp.xp{h:Heap}{e:Addr}{C:Value}{dx:Option Addr}{tb:Value}(x:Dp h e C dx tb):XP e C dx h:=
 let ⟨oe,vs,he,hc,hd,hv,h1,_⟩:=x;⟨oe,vs,he,hc,hd,hv,(Km.mp h1).1⟩
theorem XP.obj{P:Program}{w:World}{H:Hp}{h:Heap}{e:Addr}{C:Value}{dx:Option Addr}(x:XP e C dx h):D0 P w H h e (XO e C dx):=by
 obtain⟨oe,vs,he,r⟩:=id x
 refine⟨x,⟨oe,he⟩,fun h1 h2 y k=> ?_⟩
 obtain⟨o1,v1,g1,r1⟩:=y
 exact⟨o1,v1,k o1 g1,r1⟩
theorem XO.at{P:Program}{w:World}{H:Hp}{h:Heap}{e:Addr}{C:Value}{dx:Option Addr}(k:AZ P w H h)(x:H e=some (XO e C dx)):XP e C dx h:=(k e _ x).1
def Kt(P:Program)(w:World):Mu:=fun outer H s E ev s'=>∃(e:Addr) (C:Value) (dx:Option Addr) (T:Addr) (H':Hp),ev= .ref e/\s'.os=s.os/\AllBare s'.gens/\Un (Jn outer) [] H H' s.heap s'.heap/\AZ P w H' s'.heap/\
 s.heap.objs.size<=e/\s.heap.objs.size<=T/\T≠e/\H' e=some (XO e C dx)/\H' T=none/\Dp s'.heap e C dx (.ref T)/\Kq s'.heap T .none/\E ev none H'
section
variable {X:Cx} {c4:List (Addr×Obj)} {σ:St} {H:Hp} {s:Shared} {e:Addr} {C:Value} {dx:Option Addr} {tb:Value}
theorem AT.hok{h':Heap}(I:Inw X c4 σ H s)(k:AT (Jn X.stack) e tb s.heap h')(he:H e=some (XO e C dx))(hn:∀T,tb= .ref T->H T=none)(x:XP e C dx h'):AZ X.prog X.w H h':=fun b u q=>by
 by_cases hb:b=e
 ·subst hb
  rw[he] at q
  cases q
  exact x.obj
 ·refine(I.hok b u q).stay (fun c v hc r=> ?_) (fun _ z=>z) fun _ _ z=>z
  have hce:c≠e:=by
   rcases hc with z|z
   ·rw[z];exact hb
   ·intro z';rw[z',he] at z;cases z
  have hc1:∃w,H c=some w:=by
   rcases hc with z|z
   ·exact⟨u,by rw[z];exact q⟩
   ·exact⟨_,z⟩
  obtain⟨w1,hw⟩:=hc1
  refine k.there r hce (fun z=> ?_) fun z=> ?_
  ·rw[hn c z] at hw;cases hw
  ·rw[I.stkFree c z] at hw;cases hw
theorem AT.un{h':Heap}(k:AT (Jn X.stack) e tb s.heap h')(I:Inw X c4 σ H s)(he:H e=some (XO e C dx))(hx:XP e C dx h')(hex:∀T,tb= .ref T->T∈X.ex\/X.s₀.heap.objs.size<=T):Un X.fs X.ex X.H₀ H X.s₀.heap h':=by
 have ne:∀b o,s.heap.get? b=some o->H b=none->b≠e:=fun b o _ n z=>by rw[z,he] at n;cases n
 have nt:∀b o,X.s₀.heap.get? b=some o->b∉X.ex->tb≠ .ref b:=fun b o q hx z=>by
  rcases hex b z with r|r
  ·exact hx r
  ·exact absurd (E9 (A1 q) r) (Cd _)
 have nl:∀b o,X.s₀.heap.get? b=some o->b≠X.env.locals:=fun b o q=>u9 (E9 (A1 q) I.ok.above)
 refine⟨fun b o q n hb VT=> ?_,fun b o q n hb VT=> ?_,I.base.free,fun b o q VT=> ?_,I.base.tups,I.base.frzs,I.base.tbls⟩
 ·have q1:=I.base.keep b o q n hb VT
  have n1:=I.base.free b o q n VT
  refine k.there q1 (ne b o q1 n1) (nt b o q VT) fun z=> ?_
  rcases C8.mp (I.stkSub b z) with r|r
  ·exact nl b o q r
  ·exact hb r
 ·obtain⟨sl,q1⟩:=I.base.slot b o q n hb VT
  have n1:=I.base.free b o q n VT
  obtain⟨sl2,q2,_⟩:=k b _ q1 (ne b _ q1 n1) (nt b o q VT)
  exact⟨sl2,q2⟩
 ·obtain⟨o1,q1⟩:=I.base.there b o q VT
  by_cases Jk:b=e
  ·obtain⟨oe,_,g,_⟩:=hx
   exact⟨oe,by rw[Jk];exact g⟩
  ·obtain⟨sl2,q2,_⟩:=k b _ q1 Jk (nt b o q VT)
   exact⟨_,q2⟩
end
section
variable {P:Program} {w:World} {K:j6} {mg:Str->Option Value} {base:Heap} {N:List Str} {qual:Str} {scope:Scope} {f:Addr} {cd:Value} {A:Around} {outer:List Env} {s:Shared} {H:Hp} {E:XK}
theorem LB{c4:List (Addr×Obj)}{σ:St}{H1:Hp}{s1:Shared}{e:Addr}{C:Value}{dx:Option Addr}{tb:Value}(I:Inw (X7 (Kt P w) P w K mg base N qual scope f cd A outer s H E) c4 σ H1 s1)
  (he:H1 e=some (XO e C dx))(x:Dp s1.heap e C dx tb)(t:Qbo s1.heap tb)(hte:tb≠ .ref e)(hn:∀T,tb= .ref T->H1 T=none/\s.heap.objs.size<=T)(hs:s.heap.objs.size<=e)(q:E (.ref e) none H1):
  (X7 (Kt P w) P w K mg base N qual scope f cd A outer s H E).xe (.ref e) s1:=by
 have elt:e<s1.heap.objs.size:=let ⟨_,_,he,_⟩:=x;A1 he
 refine Xi (base:=base) I.ok.frames I.stack rfl x t hte fun h' T hT xo tt k=> ?_
 exact⟨e,C,dx,T,H1,rfl,I.os,I.bare,AT.un k I he xo.xp fun T0 z=> .inr (hn T0 z).2,AT.hok I k he (fun T0 z=>(hn T0 z).1) xo.xp,hs,E7 I.sz hT,Av (E9 elt hT),he,I.hok.fresh hT,xo,tt,q⟩
theorem QbL:BE (Kt P w) (X7 (Kt P w) P w K mg base N qual scope f cd A outer s H E) E:=by
 intro c4 σ H1 s1 ev s' I h
 obtain⟨e,C,dx,T,H',rfl,os,bare,un,hok,l1,l2,te,he,hT,xo,tt,q⟩:=h
 obtain⟨hh,g,d,t,os'⟩:=s'
 obtain rfl:os'=s1.os:=os
 have J:=I.call (h':=hh) (g':=g) (d':=d) (t':=t) (ch:=[]) un hok bare (fun b z=>absurd z (by simp))
 refine LB J he xo (.inr ⟨T,rfl,tt⟩) (fun z=>te (BB z)) (fun T0 z=> ?_) (E7 I.sz l1) q
 obtain rfl:T=T0:=BB z
 exact⟨hT,E7 I.sz l2⟩
theorem Fun.okX{x:Str}{st:Stmt}{fd:FuncData}{ps:List Str}{k:Nat}{sp:Sp}(F:Fun K x qual st f fd)(S:FnScope N ps (i3 st))(len:∀vs H Q E,sp vs H Q E->vs.length=ps.length)
  (Bp:∀(E6:Value) (A:Around) (outer:List Env) (s:Shared) (H:Hp) (vs:List V) (Q:VK) (E:XK),Room k (A.deeper (envOfC qual (i3 st) s.heap.objs.size f E6))->sp vs H Q E->
   ∃t,Hm (X7 (Kt P w) P w K mg base N qual (i3 st) f E6 A outer s H E) (S9 st) t/\t {nx:=fun _ H'=>Q .non H',rt:=Q} (start N vs) H):FnOk P w K mg base (Kt P w) (k+1) f fd ps sp:=by
 obtain⟨oc,od,kV,doc,pm,an,E6,ct,osl,rfl,lk,DL⟩:=F.ex
 exact Zk lk DL S len fun A outer s H vs Q E hr Ha=>Bp E6 A outer s H vs Q E hr Ha
end
abbrev RE:List Value:=[.type "ValueError", .type "Exception", .type "BaseException", .type "object"]
abbrev Kw(vs:List Value):Obj:={cls:= .type "tuple",data:= .seq vs.toArray}
abbrev Iq(C t:Addr):Obj:={cls:= .ref C,data:= .fields #[.ref t, .none, .none, .none, .bool false, .none]}
section
variable {prog:Program} {w:World} {A:Around} {E:Value->Shared->Prop} {h:Heap} {g:Array GenState} {d:Drawn} {t:Nat} {os:OsState} {K:j6}
variable {nm qn:Str} {C N fI:Addr} {bs bm:List Value} {hdct:Bool} {sn:List Str} {sub:List Value} {ab:Bool} {col:Option Bool} {dd:Option Addr} {k0 k1 k2 k3 k5:Option Value}
theorem Mz{C3:List Value}{Q:Fin->Shared->Prop}(X:K.In h)(hC:h.get? C=some (excClassObj nm qn C N bs bm hdct sn sub ab col dd k0 k1 k2 k3 k5 "ValueError.__new__"))(T:OwnTail h RE bm)
  (hi:PySem.W.findIn K (.ref C) "__init__"=some (some (.ref fI)))(hf:PySem.W.isFn K (.ref fI)=true)(hrest:C3.length<=sizeLine)
  (q:wpAny (model prog w) A (call (.ref fI) (.ref (h.objs.size+1)::C3)) (fun r s'=>r= .none/\Q (.done (.ret (.ref (h.objs.size+1)))) s') E ⟨(h.push (Kw C3)).push (Iq C h.objs.size),g,d,t,os⟩):
  wpAny (model prog w) A (Builtin.«type.__call__» ⟨.ref C::C3,[]⟩) Q E ⟨h,g,d,t,os⟩:=by
 have V:=F.excBase_ValueError
 repeat (first
  |with_reducible refine wpAny_madeBy_exc hC ?_
  |with_reducible refine CB hC ?_
  |wp_step)
 refine codeAny_call_builtin_code (Code.quiet_builtin _ V.quiet) (wpAny_check_new_subT V T hC (codeAny_exc_new_subT V T hC ?_ hrest))
 show wpAny _ _ _ _ _ _
 have kp:∀b o,h.get? b=some o->((h.push (Kw C3)).push (Iq C h.objs.size)).get? b=some o:=fun b o e=>q0 _ (q0 _ e)
 have hx:((h.push (Kw C3)).push (Iq C h.objs.size)).get? (h.objs.size+1)=some (Iq C h.objs.size):=by heap_get
 have self:(Value.ref C::bm).contains (.ref C)=true:=by simp
 unfold isInstance
 repeat (first
  |with_reducible refine CB hx ?_
  |(with_reducible refine wpAny_isSubtype_exc (kp _ _ hC) ?_;rw[self])
  |wp_step)
 show wpAny _ _ (typeLookup (.ref C) _) _ _ _
 refine Zs X hi _ _ _ _ kp ?_
 dsimp only
 refine Y2 (e8 (PySem.W.bind_fn X (.ref (h.objs.size+1)) (Dn.mp hf) _ _ _ _ kp (e8 (I9 q (fun r s' z=> ?_) fun _ _ z=>z))))
 obtain⟨rfl,z⟩:=z
 wp_walk
 exact z
theorem Qbk{C3:List Value}{Q:Value->Shared->Prop}(X:K.In h)(hC:h.get? C=some (excClassObj nm qn C N bs bm hdct sn sub ab col dd k0 k1 k2 k3 k5 "ValueError.__new__"))(T:OwnTail h RE bm)
  (hi:PySem.W.findIn K (.ref C) "__init__"=some (some (.ref fI)))(hf:PySem.W.isFn K (.ref fI)=true)(hrest:C3.length<=sizeLine)
  (q:wpAny (model prog w) (A.under (.builtin "type.__call__" ⟨.ref C::C3,[]⟩)) (call (.ref fI) (.ref (h.objs.size+1)::C3)) (fun r s'=>r= .none/\Q (.ref (h.objs.size+1)) s') E ⟨(h.push (Kw C3)).push (Iq C h.objs.size),g,d,t,os⟩):
  wpAny (model prog w) A (call (.ref C) C3) Q E ⟨h,g,d,t,os⟩:=by
 have hT:(⟨h,g,d,t,os⟩:Shared).TypeIs (.ref C) "type":=⟨_,hC,rfl⟩
 have look:=tc_lookup
 have bnd:=tc_bind (.ref C)
 refine Dm (codeAny_of_tree ?_)
 show wpAny _ _ (callAny (.ref C) _) _ _ _
 repeat (any_goals (first
  |assumption
  |with_reducible refine CB hC ?_
  |wp_step))
 refine⟨rfl,codeAny_call_builtin_at (Code.quiet_builtin _ (by decide+kernel)) entry_typeCall (wpAny_check_type_call_sub hC (Mz X hC T hi hf hrest ?_))⟩
 exact q
end
section
open PySem.W Builtin Builtin.ObjectAttr
variable {prog:Program} {w:World} {A:Around} {E:Value->Shared->Prop} {s:Shared} {K:j6} {C FE x:Addr} {o:Obj} {name:Str} {v:Value} {cd:ClassData} {vs:Array Value}
theorem SS{tk:Tok}{R:Result->Shared->Prop}(X:K.In s.heap)(DL:clsIn K C=some cd)(hm:cd.mro= .ref C:: .ref FE::RE)(Zi:findIn K (.ref C) name=some none)(I:PySem.W.InstAt s.heap x o C none)
  (q:wpAny (model prog w) A.in1 (storeInOwnDict (.ref x) (.ref C) (.str name tk) name v false) (fun fin s'=>match fin with| .done f=>R (.ok f) s'| .again c'=>c'.quiet=true/\codeAny (model prog w) A c' R s') (fun e s'=>R (.error e) s') s):
  codeAny (model prog w) A (.call (.builtin "object.__setattr__") ⟨[.ref x, .str name tk,v],[]⟩) R s:=by
 have V:=VH
 have isO:Looks (model prog w) s.heap (isInstance (.ref x) (.type "object")) true:=I.type.andThen (looks_mroIn X (by unfold mroIn;rw[DL,Option.bind_some,hm];rfl))
 have mro:Looks (model prog w) s.heap (mroOf (.ref C)) cd.mro:=(looks_clsIn X DL).andThen .now
 refine codeAny_call_builtin V.slot.plain V.entry (@check_slot (model prog w) _ _ s "object.__setattr__" "object" "__setattr__" (.ref x) [.str name tk,v] [] _ V.kind V.split isO (V.args _ _ _) ?_)
 rw[osa_eq,refuse_eq]
 refine e8 (e8 (I.type.here (e8 (mro.here ?_))))
 rw[hm,refuseLoop_ref,refuseLoop_ref,V.passes]
 exact l0 (e8 (I.type.here (e8 ((Kk X Zi).here (e8 (l0 q))))))
theorem Wn{Q:Unit->Shared->Prop}(X:K.In s.heap)(DL:clsIn K C=some cd)(hm:cd.mro= .ref C:: .ref FE::RE)(hdc:cd.hasDict=true)(Zi:findIn K (.ref C) name=some none)
  (hsa:findIn K (.ref C) "__setattr__"=some (some (.builtin "object.__setattr__")))(hx:s.heap.get? x=some o)(hc:o.cls= .ref C)(hd:o.dict=none)(hv:o.data= .fields vs)
  (q:∀h' tk,h'.get? x=some {o with dict:=some s.heap.objs.size}->h'.Ns1 s.heap.objs.size (fun y=>if y=name then some v else none)->(∀b ob,b≠x->s.heap.get? b=some ob->h'.get? b=some ob)->Q () {s with heap:=h',toks:=tk}):
  wpAny (model prog w) A (setAttr (.ref x) name v) Q E s:=by
 have I:PySem.W.InstAt s.heap x o C none:=⟨hx,hc,by obtain⟨_,_,dt,_⟩:=o;obtain rfl:dt=_:=hv;rfl,by rw[hd];trivial⟩
 have V:=VH
 unfold setAttr callSpecial? specialOf
 refine e8 (wpAny_mkText (e8 (e8 (e8 (I.type _ _ _ _ (fun _ _ z=>z) (Kk X hsa _ _ _ _ (fun _ _ z=>z) ?_))))))
 dsimp only
 refine Y2 (e8 (wpAny_of_eq (V.slot.bind _) ?_))
 dsimp only
 refine e8 (Dm (SS (s:={s with toks:=s.toks+1}) X DL hm Zi I ?_))
 obtain⟨oc,od,oda,osl⟩:=o
 dsimp only at hc hd hv
 subst hc hd hv
 refine e8 (l0 (e8 (e8 (US hx (e8 (looks_clsIn X DL _ _ _ _ (fun _ _ z=>z) ?_))))))
 rw[hdc]
 dsimp only
 rw[if_neg (by decide),if_neg (by simp [typeHasDict])]
 have xlt:x<s.heap.objs.size:=A1 hx
 have hx1:=q0 (h:=s.heap) {cls:= .type "dict",data:= .dict #[]} hx
 refine e8 (wpAny_alloc (e8 (wpAny_update hx1 (l0 ?_))))
 dsimp only
 have gd:((s.heap.push {cls:= .type "dict",data:= .dict #[]}).update x fun o=>{cls:=o.cls,dict:=some s.heap.objs.size,data:=o.data,slots:=o.slots}).get? s.heap.objs.size=some {cls:= .type "dict",data:= .dict #[]}:=
  (Eo _ _ (u9 xlt)).trans (C7 _ rfl)
 have nd:((s.heap.push {cls:= .type "dict",data:= .dict #[]}).update x fun o=>{cls:=o.cls,dict:=some s.heap.objs.size,data:=o.data,slots:=o.slots}).Ns s.heap.objs.size (fun _=>none):=⟨_,#[],_,gd,rfl,fun _ z=>absurd z (by simp),fun _=>rfl⟩
 unfold storeInDict newKeyGuard
 refine e8 (l0 (e8 (wpAny_nsSet1 (Heap.Ns1.of_empty nd) fun h2 n2 sb=> ?_)))
 obtain⟨oD,esD,epD,hoD,hdD,hcD⟩:=n2.count (Within.cons name v Within.nil)
 refine e8 (wpAny_lookBehind hoD (by rw[hdD];exact pastItsLine_dict (E7 hcD (by rw[B9];simp))) (l0 (l0 (l0 (q h2 _ ?_ n2 fun b ob hbx hb=> ?_)))))
 ·refine(sb.2 x (u9 xlt)).trans (Kl _ hx1 rfl)
 ·exact(sb.2 b (u9 (A1 hb))).trans ((Eo _ _ (D9 hbx)).trans (q0 _ hb))
end
def Zz(e:Addr)(C:Value)(dx:Option Addr)(h:Heap):Prop:=∃(oe:Obj) (vs:Array Value),h.get? e=some oe/\oe.cls=C/\oe.dict=dx/\oe.data= .fields vs/\vs[1]? =some .none/\vs[2]? =some .none
theorem Zz.on{h:Heap}{e:Addr}{C:Value}{dx:Option Addr}(x:Zz e C dx h):Dp h e C dx .none:=let ⟨oe,vs,he,hc,hd,hv,h1,h2⟩:=x;⟨oe,vs,he,hc,hd,hv,h1,fun _=>h2⟩
def XN(e:Addr)(C:Value)(dx:Option Addr):HO:= .ext (Zz e C dx)
theorem Zz.obj{P:Program}{w:World}{H:Hp}{h:Heap}{e:Addr}{C:Value}{dx:Option Addr}(x:Zz e C dx h):D0 P w H h e (XN e C dx):=by
 obtain⟨oe,vs,he,r⟩:=id x
 refine⟨x,⟨oe,he⟩,fun h1 h2 y k=> ?_⟩
 obtain⟨o1,v1,g1,r1⟩:=y
 exact⟨o1,v1,k o1 g1,r1⟩
theorem XN.at{P:Program}{w:World}{H:Hp}{h:Heap}{e:Addr}{C:Value}{dx:Option Addr}(k:AZ P w H h)(x:H e=some (XN e C dx)):Zz e C dx h:=(k e _ x).1
def EO(es:Array DictEntry):Bool:=es.toList.all fun e=>match e.key with
 | .str _ _=>true
 |_=>false
structure XCls(K:j6)(C FE:Addr):Prop where
 ob:∃(nm qn:Str) (N:Addr) (bs:List Value) (sn:List Str) (sub:List Value) (ab:Bool) (col:Option Bool) (dd:Option Addr) (k0 k1 k2 k3 k5:Option Value),K.lookup C=some (excClassObj nm qn C N bs (.ref FE::RE) true sn sub ab col dd k0 k1 k2 k3 k5 "ValueError.__new__")
 fe:∃(c0:Value) (dd:Option Addr) (cd:ClassData) (sl:Array (Option Value)) (c1:Value) (d1:Option Addr) (es:Array DictEntry) (n:Nat) (sl1:Array (Option Value)),K.lookup FE=some ⟨c0,dd, .cls cd,sl⟩/\K.lookup cd.ns=some ⟨c1,d1, .dict es n,sl1⟩/\EO es=true/\nsFind es "__init__"=none
 sa:PySem.W.findIn K (.ref C) "__setattr__"=some (some (.builtin "object.__setattr__"))
theorem XCls.cd{K:j6}{C FE:Addr}(x:XCls K C FE):∃cd,PySem.W.clsIn K C=some cd/\cd.mro= .ref C:: .ref FE::RE/\cd.hasDict=true:=by
 obtain⟨nm,qn,N,bs,sn,sub,ab,col,dd,k0,k1,k2,k3,k5,l⟩:=x.ob
 have q:PySem.W.clsIn K C=some {name:=nm,bases:=bs,mro:= .ref C:: .ref FE::RE,ns:=N,qualname:=qn,hasDict:=true,slotNames:=sn,subclasses:=sub,abstract:=ab,collection:=col,hasDel:=false}:=by
  unfold PySem.W.clsIn
  rw[l]
 exact⟨_,q,rfl,rfl⟩
theorem XCls.tail{K:j6}{C FE:Addr}{h:Heap}(x:XCls K C FE)(X:K.In h):OwnTail h RE (.ref FE::RE):=by
 obtain⟨c0,dd,cd,sl,c1,d1,es,n,sl1,l1,l2,sk,ni⟩:=x.fe
 refine .own (X _ _ l1) ⟨_,es,n,X _ _ l2,rfl,fun e he=> ?_,fun _=>rfl⟩ ni .base
 have z:=Em.mp sk e (by simpa using he)
 cases ek:e.key with
 |str nm t=>exact⟨nm,t,rfl⟩
 |_=>rw[ek] at z;cases z
def Qbt(K:j6)(f:Str)(ta tv:TE):TS:=fun D σ H=>tv σ H fun y H1=>ta σ H1 fun x H2=>∃e C FE,x= .ref e/\H2 e=some (XN e (.ref C) none)/\XCls K C FE/\PySem.W.findIn K (.ref C) f=some none/\
 ∀dx,H2 dx=none->D.nx σ (i8 (i8 H2 e (XN e (.ref C) (some dx))) dx (.xd [(f,y)]))
theorem WE{X:Cx}{o value:Expr}{f:Str}{ta tv:TE}{pos pos':Pos}(ha:PE X o ta)(hv:PE X value tv)(hs:swapsWith value (some (.Attribute o f pos')) pos.line X.env=pure false):PS X (.Assign [.Attribute o f pos'] value pos) (Qbt X.K f ta tv):=by
 intro c4 s σ H D I h
 refine Zr (G7 (hv c4 s σ H _ I h) fun u s1 ⟨y,H1,I1,ry,q⟩=>G7 (ha c4 s1 σ H1 _ I1 q) fun ov s2 ⟨x,H2,I2,rx,e,C,FE,ex,he,xc,Zi,q2⟩=> ?_) hs
 subst ex
 obtain rfl:ov=Value.ref e:=rx
 obtain⟨oe,vs,g1,g2,g3,g4,g5⟩:=XN.at I2.hok he
 obtain⟨cd,c1,c2,c3⟩:=xc.cd
 have fr:H2 s2.heap.objs.size=none:=I2.hok.fresh (l8 _)
 have elt:e<s2.heap.objs.size:=A1 g1
 refine Wn I2.kIn c1 c2 c3 Zi xc.sa g1 g2 g3 g4 fun h' tk k1 k2 k3=>⟨σ,_,?_,q2 _ fr⟩
 have J:Inw X c4 σ (i8 H2 e (XN e (.ref C) (some s2.heap.objs.size))) {s2 with heap:=h',toks:=tk}:=
  I2.write (x:=e) (e:=e) (by rw[he];trivial) (.inl rfl) (fun b ob hb z=>k3 b ob hb z) ⟨_,k1⟩ (Zz.obj ⟨_,vs,k1,g2,rfl,g4,g5⟩)
 obtain⟨a0,a1,a2,a3,a4,a5⟩:=I2.fpOk (H':=H2) (b:=s2.heap.objs.size) (l8 _) fr
 refine J.track (by rw[g9 (Av elt)];exact fr) a1 I2.sz a4 a5 ⟨_,k2,fun g=> ?_⟩
 show Ax (List.lookup g [(f,y)]) (if g=f then some u else none)
 rw[P0]
 by_cases z:g=f
 ·subst z
  simp
  exact ry
 ·rw[if_neg z,show (g==f)=false by simpa using z]
  trivial
theorem WB{M:Model}{A:Around}{E:Value->Shared->Prop}{s:Shared}{env:Env}{x:Sem Value}{Q:Flow->Shared->Prop}{nm qn:Str}{C N:Addr}{bs bm:List Value}{hdct:Bool}{sn:List Str}{sub:List Value}{ab:Bool}{col:Option Bool}{dd:Option Addr}{k0 k1 k2 k3 k5:Option Value}{newId:String}
  (hb:bm.contains (.type "BaseException")=true)(hh:A.handled=none)
  (h:wpAny M A x (fun v s1=>∃(e:Addr) (oe:Obj) (vs:Array Value),v= .ref e/\s1.heap.get? C=some (excClassObj nm qn C N bs bm hdct sn sub ab col dd k0 k1 k2 k3 k5 newId)/\s1.heap.get? e=some oe/\oe.cls= .ref C/\oe.data= .fields vs/\vs[1]? =some .none/\E (.ref e) s1) E s):
  wpAny M A (raiseStmt env (some x) none) Q E s:=by
 have isB:(Value.ref C::bm).contains (.type "BaseException")=true:=by rw[List.contains_cons,hb,Bool.or_true]
 unfold raiseStmt
 refine e8 (I9 h (fun v s1 h1=> ?_) fun _ _ z=>z)
 obtain⟨e,oe,vs,rfl,hC,he,hc,hv,h0,hE⟩:=h1
 obtain⟨hp,g,d,tk,os⟩:=s1
 obtain⟨oc,od,oda,osl⟩:=oe
 dsimp only at hc hv
 subst hc hv
 repeat (first
  |with_reducible refine CB he ?_
  |with_reducible refine CB hC ?_
  |(with_reducible refine wpAny_isSubtype_exc hC ?_;rw[isB])
  |with_reducible refine O9 he rfl h0 ?_
  |wp_step)
 exact wpAny_raiseNew_none hh hE
def ER(K:j6)(f:Str):Sp:=fun vs H Q _=>∃(e C FE:Addr) (y:V),vs=[.ref e,y]/\H e=some (XN e (.ref C) none)/\XCls K C FE/\PySem.W.findIn K (.ref C) f=some none/\∀dx,H dx=none->Q .non (i8 (i8 H e (XN e (.ref C) (some dx))) dx (.xd [(f,y)]))
def Se(C:Addr)(f:Str)(E:XK)(te:TA):TS:=fun _ σ H=>te σ H fun vs H1=>∃y,vs=[y]/\∀e dx H',i6 H1 H'->H1 e=none->H1 dx=none->H' e=some (XO e (.ref C) (some dx))->H' dx=some (.xd [(f,y)])->E (.ref e) none H'
section
variable {P:Program} {w:World} {K:j6} {mg:Str->Option Value} {base:Heap} {N:List Str} {qual:Str} {scope:Scope} {f0:Addr} {cd:Value} {A:Around} {outer:List Env} {s0:Shared} {H0:Hp} {E:XK}
theorem Qn{x f:Str}{C FE fI:Addr}{fd:FuncData}{ps:List Str}{k:Nat}{e1:Expr}{te:TA}{p cpos pos:Pos}(xc:XCls K C FE)(hi:PySem.W.findIn K (.ref C) "__init__"=some (some (.ref fI)))(hf:PySem.W.isFn K (.ref fI)=true)(hk:PySem.W.keepIn K (.ref C)=true)
  (Zi:PySem.W.findIn K (.ref C) f=some none)(F:FnOk P w K mg base D7 k fI fd ps (ER K f))(hr:Room (k+1) (X7 (Kt P w) P w K mg base N qual scope f0 cd A outer s0 H0 E).A)(hb:Binds K fd ps [])(hg:Gl (X7 (Kt P w) P w K mg base N qual scope f0 cd A outer s0 H0 E) x)(hm:mg x=some (.ref C))
  (ha:PA (X7 (Kt P w) P w K mg base N qual scope f0 cd A outer s0 H0 E) [e1] te)(Jj:(x==("__debug__":Str))=false:=by decide)(he:starEach [e1] (X7 (Kt P w) P w K mg base N qual scope f0 cd A outer s0 H0 E).env=[(false,eval e1 (X7 (Kt P w) P w K mg base N qual scope f0 cd A outer s0 H0 E).env)]:=by rfl):
  PS (X7 (Kt P w) P w K mg base N qual scope f0 cd A outer s0 H0 E) (.Raise (some (.Call (.Name x p) [e1] [] cpos)) none pos) (Se C f E te):=by
 intro c4 s σ H D I h
 obtain⟨nm,qn,Nn,bs,sn,sub,ab,col,dd,k0,k1,k2,k3,k5,l⟩:=xc.ob
 rw[arm_exec_Raise]
 refine e8 (Kn (WB (C:=C) (nm:=nm) (qn:=qn) (N:=Nn) (bs:=bs) (bm:= .ref FE::RE) (hdct:=true) (sn:=sn) (sub:=sub) (ab:=ab) (col:=col) (dd:=dd) (k0:=k0) (k1:=k1) (k2:=k2) (k3:=k3) (k5:=k5) (newId:="ValueError.__new__") rfl (I.ok.hd rfl) ?_))
 refine e8 (I9 (Gf (AE I hg hm ?_ Jj)) (fun v s' z=>e8 (Kn (l0 z))) fun _ _ z=>z)
 refine Il (h₀:=base) I.ok.mod.kin hk (G7 (ha cpos c4 s σ H _ I h) fun us s1 ⟨vs,H1,I1,r,q⟩=>⟨I1.kIn,?_⟩) he rfl
 obtain⟨y,rfl,q⟩:=q
 obtain⟨u,rfl,ry⟩:=vals1 r
 have fr:H1 (s1.heap.objs.size+1)=none:=I1.hok.fresh (Cc _)
 have gx:((s1.heap.push (Kw [u])).push (Iq C s1.heap.objs.size)).get? (s1.heap.objs.size+1)=some (Iq C s1.heap.objs.size):=by heap_get
 have Ja:=I1.kept (h':=s1.heap.push (Kw [u])) (t':=s1.toks) fun b o z=>q0 _ z
 have xn:Zz (s1.heap.objs.size+1) (.ref C) none ((s1.heap.push (Kw [u])).push (Iq C s1.heap.objs.size)):=⟨_,_,gx,rfl,rfl,rfl,rfl,rfl⟩
 have J:=Ja.laid (a:=s1.heap.objs.size+1) (o:=XN (s1.heap.objs.size+1) (.ref C) none) (h':=(s1.heap.push (Kw [u])).push (Iq C s1.heap.objs.size)) (t':=s1.toks) (fun b o z=>q0 _ z) (EF (EG _ _)) xn.obj
 refine Qbk (h:=s1.heap) (g:=s1.gens) (d:=s1.drawn) (t:=s1.toks) (os:=s1.os) I1.kIn (I1.kIn _ _ l) (xc.tail I1.kIn) hi hf (by show 1<=sizeLine;decide) ?_
 have sp:ER K f [.ref (s1.heap.objs.size+1),y] (i8 H1 (s1.heap.objs.size+1) (XN (s1.heap.objs.size+1) (.ref C) none))
   (fun v H2=>v= .non/\∃dx,(i8 H1 (s1.heap.objs.size+1) (XN (s1.heap.objs.size+1) (.ref C) none)) dx=none/\H2=i8 (i8 (i8 H1 (s1.heap.objs.size+1) (XN (s1.heap.objs.size+1) (.ref C) none)) (s1.heap.objs.size+1) (XN (s1.heap.objs.size+1) (.ref C) (some dx))) dx (.xd [(f,y)])) E0:=
  ⟨_,C,FE,y,rfl,c6,xc,Zi,fun dx hd=>⟨rfl,dx,hd,rfl⟩⟩
 have rv:u3 [V.ref (s1.heap.objs.size+1),y] [Value.ref (s1.heap.objs.size+1),u]:= .cons rfl (.cons ry .nil)
 have hl:([Value.ref (s1.heap.objs.size+1),u]++([]:List Value)).length=ps.length:=by
  have e:=F.len _ _ _ _ sp
  rw[<-e]
  rfl
 refine Dm (Dk (F.run _ _ _ _ ⟨[Value.ref (s1.heap.objs.size+1),u],[]⟩ _ _ _ _ (hr.make C [u] []) ((Inv.env0 ⟨J,I1.pos⟩).make C [u] []) (hb _ [Value.ref (s1.heap.objs.size+1),u] J.kIn hl) rv sp) fun r' s' hq=> ?_)
 cases r' with
 |error e=>exact False.elim hq
 |ok fl=>
  cases fl with
  |next=>exact False.elim hq
  |brk=>exact False.elim hq
  |cont=>exact False.elim hq
  |ret u'=>
   obtain⟨v,H',I3,rv',rfl,dx,QQ,rfl⟩:=J.after hq
   cases rv'
   have ned:dx≠s1.heap.objs.size+1:=fun z=>by rw[z,c6] at QQ;cases QQ
   have hd1:H1 dx=none:=by rw[g9 ned] at QQ;exact QQ
   have x2:=XN.at (C:= .ref C) (dx:=some dx) I3.hok (by rw[g9 (D9 ned)];exact c6)
   obtain⟨oe,vs,h1,h2,h3,h4,h5,_⟩:=id x2
   have J4:Inw _ c4 σ (i8 _ (s1.heap.objs.size+1) (XO (s1.heap.objs.size+1) (.ref C) (some dx))) s':=
    I3.write (x:=s1.heap.objs.size+1) (e:=s1.heap.objs.size+1) (t':=s'.toks) (by rw[g9 (D9 ned),c6];trivial) (.inl rfl) (fun b ob _ z=>z) ⟨_,h1⟩ (XP.obj x2.on.xp)
   refine⟨rfl,_,oe,vs,rfl,I3.kIn _ _ l,h1,h2,h4,h5,LB J4 c6 x2.on (.inl rfl) (by simp) (fun T z=>by cases z) (E7 I1.sz (Cc _)) (q _ dx _ (fun b o z=> ?_) fr hd1 c6 (by rw[g9 ned];exact c6))⟩
   have n1:=j4 z fr
   rw[g9 n1,g9 (j4 z hd1),g9 n1,g9 n1]
   exact z
end
structure XCatch(K:j6)(FE:Addr):Prop where
 lk:∃(dd:Option Addr) (cd:ClassData) (sl:Array (Option Value)),K.lookup FE=some ⟨.type "type",dd, .cls cd,sl⟩
 ba:PySem.W.mroIn K FE (.type "BaseException")=some true
theorem Xd{M:Model}{A:Around}{E:Value->Shared->Prop}{s:Shared}{K:j6}{FE C e:Addr}{oe:Obj}{b:Bool}{Q:Bool->Shared->Prop}(X:K.In s.heap)(c:XCatch K FE)(hS:PySem.W.mroIn K C (.ref FE)=some b)
  (he:s.heap.get? e=some oe)(hc:oe.cls= .ref C)(q:Q b s):wpAny M A (excMatches (.ref e) (.ref FE)) Q E s:=by
 obtain⟨dd,cd,sl,l⟩:=c.lk
 have hF:=X _ _ l
 have f:=tc_notTuple
 have g1:=VG (M:=M) X c.ba
 have g2:=VG (M:=M) X hS
 obtain⟨hp,g,d,tk,os⟩:=s
 dsimp only at X hF he g1 g2
 have g1':∀{A':Around} {Q':Bool->Shared->Prop} {E':Value->Shared->Prop},Q' true ⟨hp,g,d,tk,os⟩->wpAny M A' (isSubtype (.ref FE) (.type "BaseException")) Q' E' ⟨hp,g,d,tk,os⟩:=fun z=>g1 _ _ _ _ (fun _ _ z=>z) z
 have g2':∀{A':Around} {Q':Bool->Shared->Prop} {E':Value->Shared->Prop},Q' b ⟨hp,g,d,tk,os⟩->wpAny M A' (isSubtype (.ref C) (.ref FE)) Q' E' ⟨hp,g,d,tk,os⟩:=fun z=>g2 _ _ _ _ (fun _ _ z=>z) z
 unfold excMatches isInstance isExcClass
 repeat (first
  |(with_reducible refine CB he ?_;rw[hc])
  |with_reducible refine CB hF ?_
  |with_reducible refine g1' ?_
  |with_reducible refine g2' ?_
  |wp_step)
 cases b with
 |true=>wp_walk;exact q
 |false=>wp_walk;exact q
def xeT(X:Cx)(c4:List (Addr×Obj))(W:St->Addr->Hp->Prop)(ev:Value)(s':Shared):Prop:=∃(e:Addr) (C:Value) (dx:Option Addr) (T:Addr) (σ:St) (H':Hp),ev= .ref e/\Inw X c4 σ H' s'/\H' e=some (XO e C dx)/\T≠e/\Er X c4 H' T/\Dp s'.heap e C dx (.ref T)/\Kq s'.heap T .none/\W σ e H'
def Cx.tr(X:Cx)(c4:List (Addr×Obj))(W:St->Addr->Hp->Prop):Cx:={X with pn:=X.pn++c4,xe:=xeT X c4 W}
def Cx.hn(X:Cx)(ev:Value):Cx:={X with A:=X.A.mark (some ev),calm:=false,xe:=fun _ _=>False}
section
variable {X:Cx} {c4 pins':List (Addr×Obj)} {σ:St} {H:Hp} {s:Shared} {W:St->Addr->Hp->Prop} {ev:Value}
theorem Inw.tr(I:Inw X c4 σ H s):Inw (X.tr c4 W) [] σ H s:=
 ⟨⟨I.ok.mod,I.ok.kind,I.ok.glob,I.ok.blt,I.ok.above,I.ok.inj,I.ok.has,I.ok.cab,I.ok.hd,I.ok.frames,I.ok.stk,I.ok.exf,I.ok.bs,I.ok.bsz,I.ok.noex,I.ok.exfs,I.ok.funs,I.ok.frf⟩,
  I.os,I.bare,I.base,I.loc,I.cell,I.free,I.freeC,fun p hp=>I.pin p (by rw[List.append_nil] at hp;exact hp),I.hok,I.len⟩
theorem Inw.untr(I:Inw (X.tr c4 W) pins' σ H s):Inw X c4 σ H s:=
 ⟨⟨I.ok.mod,I.ok.kind,I.ok.glob,I.ok.blt,I.ok.above,I.ok.inj,I.ok.has,I.ok.cab,I.ok.hd,I.ok.frames,I.ok.stk,I.ok.exf,I.ok.bs,I.ok.bsz,I.ok.noex,I.ok.exfs,I.ok.funs,I.ok.frf⟩,
  I.os,I.bare,I.base,I.loc,I.cell,I.free,I.freeC,fun p hp=>I.pin p (Mi _ hp),I.hok,I.len⟩
theorem Inw.hn(I:Inw X c4 σ H s):Inw (X.hn ev) c4 σ H s:=
 ⟨⟨I.ok.mod,I.ok.kind,I.ok.glob,I.ok.blt,I.ok.above,I.ok.inj,I.ok.has,I.ok.cab,fun z=>(by cases z),I.ok.frames,I.ok.stk,I.ok.exf,I.ok.bs,I.ok.bsz,I.ok.noex,I.ok.exfs,I.ok.funs,I.ok.frf⟩,
  I.os,I.bare,I.base,I.loc,I.cell,I.free,I.freeC,I.pin,I.hok,I.len⟩
theorem Inw.unhn(hd:X.calm=true->X.A.handled=none)(I:Inw (X.hn ev) c4 σ H s):Inw X c4 σ H s:=
 ⟨⟨I.ok.mod,I.ok.kind,I.ok.glob,I.ok.blt,I.ok.above,I.ok.inj,I.ok.has,I.ok.cab,hd,I.ok.frames,I.ok.stk,I.ok.exf,I.ok.bs,I.ok.bsz,I.ok.noex,I.ok.exfs,I.ok.funs,I.ok.frf⟩,
  I.os,I.bare,I.base,I.loc,I.cell,I.free,I.freeC,I.pin,I.hok,I.len⟩
end
def Sm(sp:Sp)(W:St->Addr->Hp->Prop)(t:TA):TE:=fun σ H Q=>t σ H fun vs H1=>∃E:XK,sp vs H1 Q E/\∀e H',E (.ref e) none H'->W σ e H'
theorem Tp{X:Cx}{c4:List (Addr×Obj)}{W:St->Addr->Hp->Prop}{k:Nat}{f:Addr}{fd:FuncData}{ps:List Str}{sp:Sp}{x:Str}{p pos:Pos}{e:Expr}{es:List Expr}{t:TA}(F:FnOk X.prog X.w X.K X.mg X.base (Kt X.prog X.w) k f fd ps sp)(hr:Room k X.A)(hg:Gl X x)
  (hm:X.mg x=some (.ref f))(hk:PySem.W.keepIn X.K (.ref f)=true)(hb:Binds X.K fd ps [])(ha:PA (X.tr c4 W) (e::es) t)(Jj:(x==("__debug__":Str))=false:=by decide)
  (he:starEach (e::es) X.env=(false,eval e X.env)::starEach es X.env:=by rfl)(Fb:(backTo pos (starEach es X.env)).any (·.1)=false:=by rfl):PE (X.tr c4 W) (.Call (.Name x p) (e::es) [] pos) (Sm sp W t):=by
 intro pins' s σ H Q I h
 refine Gf (AE I hg hm ?_ Jj)
 refine Il (h₀:=X.base) I.ok.mod.kin hk (G7 (ha pos pins' s σ H _ I h) fun us s1 ⟨vs,H1,I1,r,q⟩=>⟨I1.kIn,?_⟩) he Fb
 obtain⟨E,Ha,hW⟩:=q
 have hl:(us++([]:List Value)).length=ps.length:=by rw[List.append_nil,<-r.length];exact F.len _ _ _ _ Ha
 have hb1:=hb s1 us I1.kIn hl
 rw[List.append_nil] at hb1
 refine Dm (Dk (F.run X.A X.stack s1 H1 ⟨us,[]⟩ us vs Q E hr I1.env0 hb1 r Ha) fun r' s' hq=> ?_)
 cases r' with
 |error ev=>
  obtain⟨e,C,dx,T,H',rfl,os,bare,un,hok,l1,l2,te,he,hT,xo,tt,qE⟩:=hq
  exact⟨e,C,dx,T,σ,H',rfl,I1.untr.call' os un hok bare (fun b z=>absurd z (by simp)),he,te,I1.untr.fpOk l2 hT,xo,tt,hW e H' qE⟩
 |ok fl=>
  cases fl with
  |ret u=>exact I1.after hq
  |next=>exact False.elim hq
  |brk=>exact False.elim hq
  |cont=>exact False.elim hq
section
variable {X:Cx} {c4:List (Addr×Obj)} {σ:St} {H:Hp} {s:Shared}
theorem Inw.gone{i:Nat}{x:Str}{h':Heap}{m:Str->Option Value}{v:Option Value}{tk:Nat}(I:Inw X c4 σ H s)(hN:X.N.Nodup)(hi:X.N[i]? =some x)(hk:X.env.scope.names.lookup x=some .local)(hm:s.heap.Ns X.env.locals m)
  (hl:∀(j:Nat) (y:Str) (u:V),X.N[j]? =some y->σ[j]? =some (some u)->Vis X.env.scope y->∃z,RelV u z/\Look X.env s.heap m y z)
  (n':h'.Ns X.env.locals (fun y=>if y=x then v else m y))(sb:Heap.SameBut X.env.locals s.heap h'):Inw X c4 (σ.set i none) H {s with heap:=h',toks:=tk}:=by
 have lt:∀b o,X.s₀.heap.get? b=some o->b≠X.env.locals:=fun b o e=>u9 (E9 (A1 e) I.ok.above)
 obtain⟨oL,_,_,hoL,_⟩:=id hm
 refine⟨I.ok,I.os,I.bare,⟨fun b o e n hb hx=>(sb.2 b (lt b o e)).trans (I.base.keep b o e n hb hx),fun b o e n hb hx=> ?_,I.base.free,fun b o e hx=> ?_,I.base.tups,I.base.frzs,I.base.tbls⟩,⟨_,n',fun j y u e1 e2 e3=> ?_⟩,fun y c e=> ?_,I.free,I.freeC,fun p hp=> ?_,fun b ob e=> ?_,by simpa using I.len⟩
 ·obtain⟨sl,e1⟩:=I.base.slot b o e n hb hx
  exact⟨sl,(sb.2 b (lt b o e)).trans e1⟩
 ·obtain⟨o',e1⟩:=I.base.there b o e hx
  exact⟨o',(sb.2 b (lt b o e)).trans e1⟩
 ·by_cases hj:j=i
  ·subst hj
   rw[List.getElem?_set] at e2
   simp at e2
  ·rw[Vr (D9 hj)] at e2
   obtain⟨z,r,q⟩:=hl j y u e1 e2 e3
   refine⟨z,r,?_⟩
   rcases q with ⟨k,e⟩|⟨k,c,e,w⟩
   ·have ne:y≠x:=fun e=>hj (FH hN e1 (e▸hi))
    exact .inl ⟨k,by simp [ne,e]⟩
   ·exact .inr ⟨k,c,e,w.sameBut sb (I.cne y c e)⟩
 ·obtain⟨w,z⟩:=I.cell y c e
  exact⟨w,z.sameBut sb (I.cne y c e)⟩
 ·obtain⟨e,n,ne,nf,d⟩:=I.pin p hp
  exact⟨(sb.2 p.1 ne).trans e,n,ne,nf,d⟩
 ·refine(I.hok b ob e).stay (fun c w hc q=>(sb.2 c ?_).trans q) (fun _ q=>q) fun _ _ q=>q
  intro z
  rcases hc with r|r
  ·rw[<-r,z,I.free] at e;cases e
  ·rw[z,I.free] at r;cases r
theorem Jl{M:Model}{A:Around}{E:Value->Shared->Prop}{i:Nat}{n:Str}{pos:Pos}{Q:Unit->Shared->Prop}(I:Inw X c4 σ H s)(hN:X.N.Nodup)(hi:X.N[i]? =some n)(hk:X.env.scope.names.lookup n=some .local)(q:∀s',Inw X c4 (σ.set i none) H s'->Q () s'):
  wpAny M A (do bindName X.env n .none;unbindBehindTheSuite X.env n pos) Q E s:=by
 refine e8 (wpAny_bindName (U6 (v:= .non) (u:= .none) I hN hi (.inl hk) rfl (fun s1 I1=> ?_) (.inr hk)))
 have hiσ:i<σ.length:=by rw[I.len];exact(u4.mp hi).1
 obtain⟨m,hm,hl⟩:=id I1.loc
 obtain⟨z,rz,lk⟩:=hl i n .non hi (PR hiσ) (.inl hk)
 have hmn:m n=some z:=by
  rcases lk with ⟨_,e⟩|⟨k,_⟩
  ·exact e
  ·rcases k with k|k
   ·rw[show X.env.kindOf n=some .local from hk] at k;cases k
   ·rw[show X.env.kindOf n=some .local from hk] at k;cases k
 have hcls:(X.env.scope.kind== .class||(X.env.scope.kind== .module&&X.env.locals != X.env.globals))=false:=by rw[I.ok.kind];rfl
 unfold unbindBehindTheSuite
 refine Gy ?_
 unfold unbindName
 refine e8 (wpAny_point (e8 ?_))
 unfold deleteName
 simp only[show X.env.kindOf n=some .local from hk,hcls]
 rw[if_neg (by decide)]
 refine e8 (wpAny_nsDel_keeps hm fun h2 v n2 sb=> ?_)
 rw[hmn]
 simp only[VF,Bool.not_true,Bool.false_eq_true,if_false]
 have K:=I1.gone (tk:=s1.toks) hN hi hk hm hl n2 sb
 rw[List.set_set] at K
 exact l0 (wpAny_point (q _ K))
end
def Qbw(K:j6)(FE:Addr)(i:Nat)(tb:(St->Addr->Hp->Prop)->TS)(th:TS):TS:=fun D σ H=>∃W:St->Addr->Hp->Prop,tb W D σ H/\∀σ' e C dx H',W σ' e H'->H' e=some (XO e C dx)->∃Ca,C= .ref Ca/\PySem.W.mroIn K Ca (.ref FE)=some true/\
 th {nx:=fun σ2 H2=>D.nx (σ2.set i none) H2,rt:=D.rt,bk:=fun σ2 H2=>D.bk (σ2.set i none) H2,ct:=fun σ2 H2=>D.ct (σ2.set i none) H2} (σ'.set i (some (.ref e))) H'
theorem Tg{X:Cx}{body suite:List Stmt}{b0:Stmt}{fe n:Str}{i:Nat}{FE:Addr}{tb:(St->Addr->Hp->Prop)->TS}{th:TS}{np hpos pos:Pos}(hstk:X.stack=X.env::X.outer)(hfrm:X.env.frame=some X.env.locals)
  (hg:Gl X fe)(hm:X.mg fe=some (.ref FE))(xc:XCatch X.K FE)(hN:X.N.Nodup)(hi:X.N[i]? =some n)(hk:X.env.scope.names.lookup n=some .local)(hb:∀c4 W,Hm (X.tr c4 W) body (tb W))(hh:∀ev,Hm (X.hn ev) (b0::suite) th)
  (Jj:(fe==("__debug__":Str))=false:=by decide):PS X (.Try body [.ExceptHandler (some (.Name fe np)) (some n) (b0::suite) hpos] [] [] pos) (Qbw X.K FE i tb th):=by
 intro c4 s σ H D I h
 obtain⟨W,hW,hx⟩:=h
 refine wpAny_Try_except (K7 I.pos (I9 (hb c4 W [] s σ H D ⟨I.tr,I.pos⟩ hW) (fun f s1 z _=> ?_) fun ev s1 z zp=> ?_))
 ·cases f with
  |next=>
   obtain⟨σ1,H1,I1,q⟩:=z
   exact Mh ⟨σ1,H1,I1.untr,q⟩
  |brk=>
   obtain⟨σ1,H1,I1,q⟩:=z
   exact⟨σ1,H1,I1.untr,q⟩
  |cont=>
   obtain⟨σ1,H1,I1,q⟩:=z
   exact⟨σ1,H1,I1.untr,q⟩
  |ret u=>
   obtain⟨v,σ1,H1,I1,rv,q⟩:=z
   exact⟨v,σ1,H1,I1.untr,rv,q⟩
 ·obtain⟨e,C,dx,T,σ1,H1,rfl,J,he,te,fp,xo,tt,w1⟩:=z
  obtain⟨f0,f1,f2,f3,f4,f5⟩:=fp
  obtain⟨Ca,rfl,hmro,q⟩:=hx σ1 e C dx H1 w1 he
  have elt:e<s1.heap.objs.size:=let ⟨_,_,z,_⟩:=xo;A1 z
  have Mr:=J.stack
  rw[hstk] at Mr
  refine Tx (base:=X.base) (J.ok.frames.trans (congrArg some hstk)) Mr hfrm xo (.inr ⟨T,rfl,tt⟩) (fun z=>te (BB z)) fun h1 T1 hT1 xo1 tt1 k=> ?_
  rw[<-hstk] at k
  have un:Un (Jn X.stack) [T] H1 H1 s1.heap h1:=by
   refine⟨fun b o z n hb hx=> ?_,fun b o z n hb hx=> ?_,fun _ _ _ n _=>n,fun b o z hx=> ?_,fun _ _ z=>z,fun _ _ _ z=>z,fun b ps z=>⟨#[],by rw[z];simp⟩⟩
   ·exact k.there z (fun z=>by rw[z,he] at n;cases n) (fun z=>hx (by simp [BB z])) hb
   ·obtain⟨sl,z1,_⟩:=k b o z (fun z=>by rw[z,he] at n;cases n) (fun z=>hx (by simp [BB z]))
    exact⟨sl,z1⟩
   ·by_cases Jk:b=e
    ·obtain⟨oe,_,z1,_⟩:=xo1
     exact⟨oe,by rw[Jk];exact z1⟩
    ·obtain⟨sl,z1,_⟩:=k b o z Jk (fun z=>hx (by simp [BB z]))
     exact⟨_,z1⟩
  have J1:Inw X c4 σ1 H1 {s1 with heap:=h1}:=J.call (g':=s1.gens) (t':=s1.toks) (d':=s1.drawn) (ch:=[T]) un (AT.hok J k he (fun T0 z=>by obtain rfl:T=T0:=BB z;exact f0) xo1.xp) J.bare fun b hb=>by
   obtain rfl:b=T:=by simpa using hb
   exact⟨f3,f1,f4,f5⟩
  obtain⟨g0,g1,g2,g3,g4,g5⟩:=J.fpOk (H':=H1) hT1 (J.hok.fresh hT1)
  have neT:T1≠e:=Av (E9 elt hT1)
  refine FS (s:={s1 with heap:=h1}) xo1 tt1 neT fun h2 xo2 tt2 sz2 oth2=> ?_
  have J2:Inw X c4 σ1 H1 {s1 with heap:=h2}:=Inw.turned (s:={s1 with heap:=h1}) (h':=h2) (t':=s1.toks) (it:=T1) J1 (fun b o hb z=>(oth2 b hb).trans z) g0 g1 g3 g4 g5
  refine wpAny_handleBy_cons (codeAny_handlers_test ?_) (by intro z;cases z)
  refine AE (X:=X.hn (.ref e)) ⟨J2.hn,zp⟩ hg hm ?_ Jj
  obtain⟨oe,vs,z1,z2,_⟩:=id xo2
  refine Xd J2.kIn xc hmro z1 z2 ?_
  refine codeAny_handlers_suite_as ?_
  refine FS (s:={s1 with heap:=h2}) xo2 tt2 neT fun h3 xo3 tt3 sz3 oth3=> ?_
  have J3:Inw X c4 σ1 H1 {s1 with heap:=h3}:=Inw.turned (s:={s1 with heap:=h2}) (h':=h3) (t':=s1.toks) (it:=T1) J2 (fun b o hb z=>(oth3 b hb).trans z) g0 g1 g3 g4 g5
  refine K7 (s:={s1 with heap:=h3}) zp (U6 (v:= .ref e) J3 hN hi (.inl hk) rfl (fun s4 J4 z4=> ?_) (.inr hk))
  refine I9 (hh (.ref e) c4 s4 _ H1 _ ⟨J4.hn,z4⟩ q) (fun f s5 z=> ?_) fun _ _ z=>False.elim z
  cases f with
  |next=>
   obtain⟨σ5,H5,I5,q5⟩:=z
   exact Jl (I5.unhn J.ok.hd) hN hi hk fun s6 J6=>⟨_,_,J6,q5⟩
  |brk=>
   obtain⟨σ5,H5,I5,q5⟩:=z
   exact Jl (I5.unhn J.ok.hd) hN hi hk fun s6 J6=>⟨_,_,J6,q5⟩
  |cont=>
   obtain⟨σ5,H5,I5,q5⟩:=z
   exact Jl (I5.unhn J.ok.hd) hN hi hk fun s6 J6=>⟨_,_,J6,q5⟩
  |ret u=>
   obtain⟨v,σ5,H5,I5,rv,q5⟩:=z
   exact Jl (I5.unhn J.ok.hd) hN hi hk fun s6 J6=>⟨v,_,_,J6,rv,q5⟩
structure XAttr(K:j6)(C:Addr):Prop where
 ga:PySem.W.findIn K (.ref C) "__getattribute__"=some (some (.builtin "BaseException.__getattribute__"))
 hk:PySem.W.findIn K (.ref C) "__getattr__"=some none
 ba:PySem.W.mroIn K C (.type "BaseException")=some true
 ob:PySem.W.mroIn K C (.type "object")=some true
 hd:PySem.W.hasDictIn K C=true
 cl:PySem.W.findIn K (.ref C) "__class__"=some (some (.builtin "object.__class__"))
 cg:PySem.W.specialIn K (.builtin "object.__class__") "__get__"=some (some (.builtin "getset_descriptor.__get__"))
 ct:PySem.W.takesIn K (.builtin "object.__class__")=some true
section
open PySem.W Builtin Builtin.ObjectAttr
variable {prog:Program} {w:World} {A:Around} {E:Value->Shared->Prop} {s:Shared} {K:j6} {C x:Addr} {ox:Obj} {od:Option Obj} {name:Str} {v:Value}
theorem Qct{tk:Tok}{fill expr:Bool}{Q:Value->Shared->Prop}(X:K.In s.heap)(I:PySem.W.InstAt s.heap x ox C od)(c:XAttr K C)(hv:handedIn v=true)
  (ent:∀{A':Around} {Q':Fin->Shared->Prop} {E':Value->Shared->Prop},Q' (.done (.ret v)) s->wpAny (model prog w) A' (Builtin.«object.__getattribute__» ⟨[.ref x, .str name tk],[]⟩) Q' E' s)(q:Q v s):
  wpAny (model prog w) A (getAttrBy (.ref x) (.str name tk) fill expr) Q E s:=by
 have V:=F.attr_ValueError.ga
 have isB:Looks (model prog w) s.heap (isInstance (.ref x) (.type "BaseException")) true:=I.type.andThen (looks_mroIn X c.ba)
 unfold getAttrBy
 refine Y2 (e8 (I.type.here (e8 ((Kk X c.ga).here ?_))))
 dsimp only
 have nga:(Value.builtin "BaseException.__getattribute__"==Value.builtin "object.__getattribute__")=false:=by decide+kernel
 rw[if_neg (by rw[nga,Bool.and_false];decide)]
 unfold getAttrByItsOwn hookBefore
 refine e8 (show wpAny _ _ (typeLookup (.ref C) _) _ _ _ from (Kk X c.hk).here (e8 (Gx (Y2 ?_))))
 unfold callGetattribute boundAndCalled
 rw[if_neg (by cases expr<;>decide)]
 refine e8 (wpAny_of_eq (V.bind _) ?_)
 dsimp only
 refine Dm (codeAny_call_builtin V.plain F.entry_bexc_ga (@check_slot (model prog w) _ _ s "BaseException.__getattribute__" "BaseException" "__getattribute__" (.ref x) [.str name tk] [] _ (by decide+kernel) (by decide+kernel) isB (F.args_bexc_ga _ _) (ent ?_)))
 exact handed_on hv q
theorem QR{expr:Bool}{Q:Value->Shared->Prop}(X:K.In s.heap)(I:PySem.W.InstAt s.heap x ox C od)(c:XAttr K C)(hv:handedIn v=true)(hf:findObj K C od name=some (.value v))(q:Q v {s with toks:=s.toks+1}):
  wpAny (model prog w) A (getAttr (.ref x) name expr) Q E s:=by
 unfold getAttr
 refine e8 (wpAny_mkText (Qct (s:={s with toks:=s.toks+1}) X I c hv (fun z=> ?_) q))
 exact e8 (l0 (e8 (l0 (e8 (I.type _ _ _ _ (fun _ _ z=>z) (e8 (looks_find X I hf _ _ _ _ (fun _ _ z=>z) (l0 z))))))))
theorem XI{Q:Option Value->Shared->Prop}(X:K.In s.heap)(I:PySem.W.InstAt s.heap x ox C od)(c:XAttr K C)(hf:findObj K C od "__class__"=some (.bind (.builtin "getset_descriptor.__get__") (.builtin "object.__class__")))(q:Q (some (.ref C)) {s with toks:=s.toks+1}):
  wpAny (model prog w) A (getAttr? (.ref x) "__class__") Q E s:=by
 unfold getAttr? getAttrBy?
 refine e8 (wpAny_mkText (e8 (Gx (Qct (s:={s with toks:=s.toks+1}) X I c rfl (fun z=> ?_) (l0 q)))))
 refine e8 (l0 (e8 (l0 (e8 (I.type _ _ _ _ (fun _ _ z=>z) (e8 (looks_find X I hf _ _ _ _ (fun _ _ z=>z) ?_)))))))
 dsimp only
 unfold bindTo
 exact e8 (Y2 (Dm (class_get (s:={s with toks:=s.toks+1}) X I c.ob (l0 z))))
theorem Jo(c:XAttr K C):∀od:Option Obj,findObj K C od "__class__"=some (.bind (.builtin "getset_descriptor.__get__") (.builtin "object.__class__"))
 |some o=>findObj_data (by have h:=c.hd;unfold hasDictIn at h;cases q:clsIn K C with|none=>rw[q] at h;cases h|some cd=>rfl) c.cl c.cg c.ct
 |none=>by
  have h:=c.hd
  unfold hasDictIn at h
  cases q:clsIn K C with
  |none=>rw[q] at h;cases h
  |some cd=>
   unfold findObj
   rw[q,c.cl]
   simp only[Option.bind_some,c.cg,c.ct]
theorem Qa4{e:Addr}(c:XAttr K C):KitX K (.ref e) (.ref C) (fun h=>∃ox od,PySem.W.InstAt h e ox C od) where
 ty:=fun _ _ _ z=>let ⟨_,_,I⟩:=z;I.type
 it:=fun _ _ X _=>by
  have h:=c.hd
  unfold hasDictIn clsIn at h
  split at h
  ·rename_i c' d' cd' sl' ho
   intro A' Q' E' s' k q
   unfold isType loadHead
   exact e8 (US (k _ _ (X _ _ ho)) (l0 q))
  ·cases h
 ne:=fun h tp dd n5 n sl X htp=>by
  have hd:=c.hd
  unfold hasDictIn clsIn at hd
  refine CA.mpr fun q=> ?_
  obtain rfl:C=tp:=BB (Dn.mp q)
  split at hd
  ·rename_i ho
   have z:=(X _ _ ho).symm.trans htp
   cases z
  ·cases hd
 ca:=fun X z k=>by
  obtain⟨ox,od,I⟩:=z
  exact XI X I c (Jo c od) k
end
theorem XO.inst{P:Program}{w:World}{H:Hp}{h:Heap}{e C:Addr}{dx:Option Addr}(k:AZ P w H h)(x:H e=some (XO e (.ref C) dx))(d:∀a,dx=some a->∃fs,H a=some (.xd fs)):∃ox od,PySem.W.InstAt h e ox C od:=by
 obtain⟨oe,vs,g1,g2,g3,g4,g5⟩:=XO.at k x
 have nc:PySem.W.notCls oe=true:=by obtain⟨_,_,dt,_⟩:=oe;obtain rfl:dt=_:=g4;rfl
 cases dx with
 |none=>exact⟨oe,none,⟨g1,g2,nc,by rw[g3];trivial⟩⟩
 |some a=>
  obtain⟨fs,hfs⟩:=d a rfl
  obtain⟨mA,⟨o,es,ep,ho,_⟩,_⟩:=(show D0 P w H h a (.xd fs) from k a _ hfs)
  exact⟨oe,some o,⟨g1,g2,nc,by rw[g3];exact ho⟩⟩
def TyX(K:j6)(H:Hp)(x:V)(t:Value):Prop:=(x= .non/\t= .type "NoneType")\/∃e C dx,x= .ref e/\t= .ref C/\H e=some (XO e (.ref C) dx)/\(∀a,dx=some a->∃fs,H a=some (.xd fs))/\XAttr K C
section
variable {X:Cx}
theorem Au(K:j6)(hK:X.K=K:=by rfl):P8 X (.builtin "isinstance") (fun xs H Q=>∃x c t b,xs=[x,c]/\TyX K H x t/\((∃a,c= .ref a/\PySem.W.kitOne K t (.ref a)=some b)\/∃T,c= .ty T/\PySem.W.kitOne K t (.type T)=some b)/\Q (.bl b) H):=by
 subst hK
 intro c4 s σ H xs us Q I r h
 obtain⟨x,c,t,b,rfl,ty,kc,q⟩:=h
 obtain⟨u,v,rfl,ru,rv⟩:=vals2 r
 have fin:∀tk,EP X c4 σ Q (.bool b) {s with toks:=tk}:=fun tk=>⟨.bl b,H,I.tok _,rfl,q⟩
 have go:PySem.W.kitOne X.K t v=some b->wpAny (model X.prog X.w) X.A (call (.builtin "isinstance") [u,v]) (EP X c4 σ Q) X.xe s:=fun kv=>by
  rcases ty with ⟨rfl,rfl⟩|⟨e,C,dx,rfl,rfl,he,hd,xa⟩
  ·exact HP I ru .non kv fin
  ·cases ru
   exact AR (Qa4 xa) I.kIn (XO.inst I.hok he hd) kv (fun z=>nomatch z) fin
 rcases kc with ⟨a,rfl,k⟩|⟨T,rfl,k⟩
 ·cases rv
  exact go k
 ·cases rv
  exact go k
theorem EU{x:Str}{C:Addr}{pos:Pos}(hg:Gl X x)(hm:X.mg x=some (.ref C))(Jj:(x==("__debug__":Str))=false:=by decide):PE X (.Name x pos) (tC (.ref C)):=fun _ _ _ H _ I h=>AE I hg hm ⟨.ref C,H,I,rfl,h⟩ Jj
theorem WJ{x:Str}{i:Int}{t:Tok}{pos:Pos}(hg:Gl X x)(hm:X.mg x=some (.int i t))(Jj:(x==("__debug__":Str))=false:=by decide):PE X (.Name x pos) (tC (.int i)):=fun _ _ _ H _ I h=>AE I hg hm ⟨.int i,H,I,⟨_,rfl⟩,h⟩ Jj
def Yl(K:j6)(f:Str)(ta:TE):TE:=fun σ H Q=>ta σ H fun x H1=>∃e C dx fs v,x= .ref e/\H1 e=some (XO e (.ref C) (some dx))/\H1 dx=some (.xd fs)/\XAttr K C/\PySem.W.findIn K (.ref C) f=some none/\fs.lookup f=some v/\Q v H1
theorem WI{o:Expr}{f:Str}{ta:TE}{pos:Pos}(ha:PE X o ta)(hb:attributeBase o f X.env (eval o X.env)=eval o X.env):PE X (.Attribute o f pos) (Yl X.K f ta):=by
 intro c4 s σ H Q I h
 refine PF hb (G7 (ha c4 s σ H _ I h) fun u s1 ⟨x,H1,I1,rx,e,C,dx,fs,v,ex,he,hd,xa,hn,hl,q⟩=> ?_)
 subst ex
 obtain rfl:u=Value.ref e:=rx
 obtain⟨oe,vs,g1,g2,g3,g4,g5⟩:=XO.at I1.hok he
 obtain⟨mA,QM,hr⟩:=(show D0 X.prog X.w H1 s1.heap dx (.xd fs) from I1.hok dx _ hd)
 have nc:PySem.W.notCls oe=true:=by obtain⟨_,_,dt,_⟩:=oe;obtain rfl:dt=_:=g4;rfl
 obtain⟨z,hz,rz⟩:=Ax.some_of (v:=v) (o:=mA f) (by rw[<-hl];exact hr f)
 obtain⟨o,es,ep,ho,hdd,r⟩:=id QM
 have Ii:PySem.W.InstAt s1.heap e oe C (some o):=⟨g1,g2,nc,by rw[g3];exact ho⟩
 refine QR I1.kIn Ii xa (HS rz) ?_ ⟨v,H1,I1.tok _,rz,q⟩
 refine Zt xa.hd hn rfl ?_
 have q1:=(r.2.2 f).trans hz
 unfold nsFind findBy at q1
 rw[<-Zv] at q1
 unfold PySem.W.lookIn
 rw[hdd]
 cases hf:es.toList.find? (fun x=>x.key.isStr f) with
 |none=>rw[hf] at q1;cases q1
 |some en=>
  rw[hf] at q1
  dsimp only
  rw[hf]
  exact congrArg some q1
end
section
variable {X:Cx}
theorem Dh:∀{zs:List Str} {us:List Value},u3 (zs.map V.str) us->CarriedAll us (zs.map PyData.str)
 |[],us,r=>by cases r;exact .nil
 |z::zs,us,r=>by
  cases r with
  |cons r0 rs=>
   obtain⟨t,rfl⟩:=r0
   exact .cons (.str _ t) (Dh rs)
def Yx(K:j6):V->List V->Hp->VK->Prop:=fun x vs H Q=>∃(z:Str) (p:Addr) (zs:List Str) (B:Nat),x= .str z/\vs=[.ref p]/\l7 K H p (zs.map V.str)/\(∀y∈zs,y.length<=B)/\zs.length<=1000/\B+z.length<=16/\Q (.str (Txt.join z zs)) H
theorem OZ(K:j6)(hK:X.K=K:=by rfl):MtM X "str.join" (Yx K):=by
 subst hK
 intro c4 s σ H x vs v us Q I rx rv h
 obtain⟨z,p,zs,B,rfl,rfl,hp,hB,hl,hs,q⟩:=h
 obtain⟨t,rfl⟩:=rx
 obtain⟨u,rfl,ru⟩:=vals1 rv
 cases ru
 obtain⟨n5,r,pl,hz⟩:=I.list hp
 refine PyProof.Rows.join_madeW (l:=zs) (g:=id) (items:=n5.toArray) B pl.isList (by simpa using Dh r) hB (by omega) hs fun t' k=>⟨.str (Txt.join z zs),H,I.tok _,⟨t',by simp⟩,q⟩
theorem Fk:∀{bs:List Bool} {us:List Value} {i:Nat} {v:Value},u3 (bs.map V.bl) us->us[i]? =some v->∃b,bs[i]? =some b/\v= .bool b
 |[],us,i,v,r,e=>by cases r;simp at e
 |b::bs,us,0,v,r,e=>by cases r with|cons r0 rs=>simp at e;subst e;exact⟨b,rfl,r0⟩
 |b::bs,us,i+1,v,r,e=>by
  cases r with
  |cons r0 rs=>obtain⟨b',e1,e2⟩:=Fk (i:=i) rs (by simpa using e);exact⟨b',by simpa using e1,e2⟩
theorem UH(K:j6)(hc:X.calm=true)(hK:X.K=K:=by rfl):P8 X (.builtin "all") (fun xs H Q=>∃(p:Addr) (bs:List Bool),xs=[.ref p]/\l7 K H p (bs.map V.bl)/\Q (.bl (bs.all id)) H):=by
 subst hK
 intro c4 s σ H xs us Q I r h
 obtain⟨p,bs,rfl,hp,q⟩:=h
 obtain⟨u,rfl,ru⟩:=vals1 r
 cases ru
 obtain⟨n5,rv,pl,hz⟩:=I.list hp
 have lt:p<s.heap.objs.size:=let ⟨o,ho,_⟩:=pl.isList;A1 ho
 have ne:p≠s.heap.objs.size:=u9 lt
 refine call_all_walk (Gg pl.isList ⟨_,_,_,_,_,_,fun i=>bs.getD i true,rfl,Walks.list (A:=X.A.in1) (I.ok.hd hc) _ p ne n5.toArray,⟨⟨_,C7 _ rfl,rfl,rfl⟩,pl.isList.push _⟩,?_,fun h' tk k=> ?_⟩)
 ·intro i v s' Q' E' hv hq
  obtain⟨b,e1,rfl⟩:=Fk (i:=i) rv (by simpa using hv)
  have e2:bs.getD i true=b:=by rw[Oi,e1];rfl
  dsimp only at hq
  rw[e2] at hq
  exact l0 hq
 ·have el:n5.toArray.size=bs.length:=by rw[C6,<-rv.length,i4]
  have ea:((List.range n5.toArray.size).all fun i=>bs.getD i true)=bs.all id:=by
   rw[el,Do,Em,Em]
   constructor
   ·intro z b hb
    obtain⟨i,hi⟩:=BA.mp hb
    have:=z i (Mj.mpr (u4.mp hi).1)
    rw[Oi,hi] at this
    exact this
   ·intro z i hi
    have hi':=Mj.mp hi
    rw[Oi,E5 hi']
    exact z _ (Oh hi')
  rw[ea]
  refine⟨.bl _,H,?_,rfl,q⟩
  have J:=I.kept (h':=s.heap.push {cls:= .type "list_iterator",data:= .fields #[.ref p, .int 0 0]}) (t':=s.toks) fun b o z=>q0 _ z
  obtain⟨g0,g1,g2,g3,g4,g5⟩:=I.fpOk (H':=H) (b:=s.heap.objs.size) (l8 _) (I.hok.fresh (l8 _))
  exact Inw.turned (s:={s with heap:=s.heap.push {cls:= .type "list_iterator",data:= .fields #[.ref p, .int 0 0]}}) (h':=h') (t':=tk) (it:=s.heap.objs.size) J (fun b o hb z=>k b o (by simpa using hb) z) g0 g1 g3 g4 g5
end
section
variable {X:Cx}
end
theorem CW{X:Cx}(K:j6){k:Nat}(hr:Room k X.A)(hK:X.K=K:=by rfl):BF X (compareOp .NotEq) (fun x y H Q=>∃ds,Jr (.lst ds)<=60/\T6 K H (.lst ds) x/\T6 K H (.lst ds) y/\Q (.bl false) H):=by subst hK;exact QaH hr
theorem FnOk.calm{P:Program}{w:World}{K:j6}{mg:Str->Option Value}{base:Heap}{k:Nat}{f:Addr}{fd:FuncData}{ps:List Str}{sp sp':Sp}(F:FnOk P w K mg base (Kt P w) k f fd ps sp)(h:∀vs H Q E,sp' vs H Q E->sp vs H Q (fun _ _ _=>False)):FnOk P w K mg base D7 k f fd ps sp':=
 ⟨fun vs H Q E q=>F.len vs H Q _ (h _ _ _ _ q),fun A outer s H args us vs Q E hr he hb hv hs=>Dk (F.run A outer s H args us vs Q _ hr he hb hv (h _ _ _ _ hs)) fun r s' hq=>by
  cases r with
  |ok fl=>cases fl<;>exact hq
  |error e=>
   obtain⟨_,_,_,_,_,_,_,_,_,_,_,_,_,_,_,_,_,z⟩:=hq
   exact z.elim⟩
section
variable {X:Cx} {e st:Expr} {te ts:TE} {pos p2:Pos}
end
structure XCls0(K:j6)(C FE:Addr):Prop where
 ob:∃(nm qn:Str) (N:Addr) (bs:List Value) (sn:List Str) (sub:List Value) (ab:Bool) (col:Option Bool) (dd:Option Addr) (k0 k1 k2 k3 k5:Option Value) (c1:Value) (d1:Option Addr) (es:Array DictEntry) (n:Nat) (sl1:Array (Option Value)),K.lookup C=some (excClassObj nm qn C N bs (.ref FE::RE) true sn sub ab col dd k0 k1 k2 k3 k5 "ValueError.__new__")/\
  K.lookup N=some ⟨c1,d1, .dict es n,sl1⟩/\EO es=true/\nsFind es "__init__"=none
 fe:∃(c0:Value) (dd:Option Addr) (cd:ClassData) (sl:Array (Option Value)) (c1:Value) (d1:Option Addr) (es:Array DictEntry) (n:Nat) (sl1:Array (Option Value)),K.lookup FE=some ⟨c0,dd, .cls cd,sl⟩/\K.lookup cd.ns=some ⟨c1,d1, .dict es n,sl1⟩/\EO es=true/\nsFind es "__init__"=none
section
variable {prog:Program} {w:World} {A:Around} {E:Value->Shared->Prop} {h:Heap} {g:Array GenState} {d:Drawn} {t:Nat} {os:OsState}
variable {nm qn:Str} {C N:Addr} {bs bm:List Value} {hdct:Bool} {sn:List Str} {sub:List Value} {ab:Bool} {col:Option Bool} {dd:Option Addr} {k0 k1 k2 k3 k5:Option Value}
end
section
variable {P:Program} {w:World} {K:j6} {mg:Str->Option Value} {base:Heap} {N:List Str} {qual:Str} {scope:Scope} {f0:Addr} {cd:Value} {A:Around} {outer:List Env} {s0:Shared} {H0:Hp} {E:XK}
end
section
variable {X:Cx}
end
section
variable {X:Cx}
end
theorem AA{c:Const}{k:Nat}{p:Pos}{es:List Expr}{env:Env}:starEach (Expr.Constant c k p::es) env=(false,eval (Expr.Constant c k p) env)::starEach es env:=rfl
theorem Fv{l r:Expr}{o:Operator}{p:Pos}{es:List Expr}{env:Env}:starEach (Expr.BinOp l o r p::es) env=(false,eval (Expr.BinOp l o r p) env)::starEach es env:=rfl
theorem ZR{l:Expr}{o:UnaryOp}{p:Pos}{es:List Expr}{env:Env}:starEach (Expr.UnaryOp o l p::es) env=(false,eval (Expr.UnaryOp o l p) env)::starEach es env:=rfl
section
variable {X:Cx}
end
section
variable {X:Cx}
end
section
variable {X:Cx}
end
section
variable {κ:Type} [DecidableEq κ]
def A9(kvs:List (κ×V))(k:κ):Option V:=(kvs.find? fun kv=>decide (kv.1=k)).map (·.2)
def D3(kvs:List (κ×V))(k:κ)(v:V):List (κ×V):=
 if (kvs.any fun kv=>decide (kv.1=k))=true then kvs.map (fun kv=>if kv.1=k then (kv.1,v) else kv) else kvs++[(k,v)]
theorem KA{k:κ}:A9 ([]:List (κ×V)) k=none:=rfl
theorem B4{p:κ×V}{r:List (κ×V)}{k:κ}(e:p.1=k):A9 (p::r) k=some p.2:=by simp [A9,Ek,e]
theorem B5{p:κ×V}{r:List (κ×V)}{k:κ}(e:¬p.1=k):A9 (p::r) k=A9 r k:=by simp [A9,Ek,e]
theorem W7(k:κ):∀kvs:List (κ×V),(kvs.any fun kv=>decide (kv.1=k))=(A9 kvs k).isSome
 |[]=>rfl
 |p::r=>by
  rw[BC]
  by_cases e:p.1=k
  ·simp only[B4 e,B7 e,Og,VF]
  ·rw[B5 e,X8 e,Bool.false_or];exact W7 k r
theorem KB(k j:κ)(y:V):∀kvs:List (κ×V),A9 (kvs.map fun kv=>if kv.1=k then (kv.1,y) else kv) j=(A9 kvs j).map fun x=>if j=k then y else x
 |[]=>rfl
 |p::r=>by
  have ih:=KB k j y r
  rw[List.map_cons]
  by_cases h:p.1=k
  ·rw[if_pos h]
   by_cases e:p.1=j
   ·rw[B4 (p:=(p.1,y)) e,B4 e,Kj,if_pos (e.symm.trans h)]
   ·rw[B5 (p:=(p.1,y)) e,B5 e,ih]
  ·rw[if_neg h]
   by_cases e:p.1=j
   ·rw[B4 (p:=p) e,B4 e,Kj,if_neg (fun z=>h (e.trans z))]
   ·rw[B5 (p:=p) e,B5 e,ih]
theorem Ho(k j:κ)(y:V):∀kvs:List (κ×V),A9 kvs k=none->A9 (kvs++[(k,y)]) j=if j=k then some y else A9 kvs j
 |[],_=>by
  by_cases e:k=j
  ·rw[if_pos e.symm];exact B4 (p:=(k,y)) e
  ·rw[if_neg (fun z=>e z.symm)];exact B5 (p:=(k,y)) e
 |p::r,hn=>by
  rw[List.cons_append]
  have hk:¬p.1=k:=fun z=>by rw[B4 z] at hn;cases hn
  rw[B5 hk] at hn
  have ih:=Ho k j y r hn
  by_cases e:p.1=j
  ·rw[B4 e,B4 e,if_neg (fun z=>hk (e.trans z))]
  ·rw[B5 e,B5 e,ih]
theorem Bb(kvs:List (κ×V))(k j:κ)(y:V):A9 (D3 kvs k y) j=if j=k then some y else A9 kvs j:=by
 unfold D3
 by_cases a:(kvs.any fun kv=>decide (kv.1=k))=true
 ·rw[if_pos a,KB]
  rw[W7] at a
  by_cases e:j=k
  ·obtain⟨x,hx⟩:=Zn.mp a
   rw[if_pos e,e,hx,Kj,if_pos rfl]
  ·rw[if_neg e]
   cases A9 kvs j with
   |none=>rfl
   |some x=>rw[Kj,if_neg e]
 ·rw[if_neg a]
  refine Ho k j y kvs ?_
  rw[W7] at a
  cases q:A9 kvs k with
  |none=>rfl
  |some x=>rw[q] at a;exact(a rfl).elim
theorem K4(kvs:List (κ×V))(k:κ)(v:V):(D3 kvs k v).length<=kvs.length+1:=by
 unfold D3
 split
 ·rw[i4];omega
 ·rw[y9,List.length_cons,List.length_nil];omega
theorem P2{kvs:List (κ×V)}{k:κ}(v:V)(h:A9 kvs k=none):D3 kvs k v=kvs++[(k,v)]:=by
 unfold D3
 rw[W7,h]
 exact if_neg (by decide)
theorem Ax.isSome_eq{o:Option V}{u:Option Value}(r:Ax o u):o.isSome=u.isSome:=by
 cases o with
 |none=>cases u with
  |none=>rfl
  |some _=>exact(show False from r).elim
 |some _=>cases u with
  |none=>exact(show False from r).elim
  |some _=>rfl
theorem Ax.getD{o:Option V}{u:Option Value}{d:V}{d':Value}(r:Ax o u)(rd:RelV d d'):RelV (o.getD d) (u.getD d'):=by
 cases o with
 |none=>cases u with
  |none=>exact rd
  |some _=>exact(show False from r).elim
 |some _=>cases u with
  |none=>exact(show False from r).elim
  |some _=>exact r
theorem KV.val{kvs:List (κ×V)}{vs:List (κ×Value)}(r:KV kvs vs)(k:κ):Ax (A9 kvs k) (valueAt vs k):=by
 unfold KV at r
 induction r with
 |nil=>exact True.intro
 | @cons p q ps qs h t ih=>
  obtain⟨h1,h2⟩:=h
  by_cases e:p.1=k
  ·have e':q.1=k:=h1.symm.trans e
   have b:valueAt (q::qs) k=some q.2:=by simp [valueAt,Ek,e']
   rw[B4 e,b];exact h2
  ·have e':¬q.1=k:=fun z=>e (h1.trans z)
   have b:valueAt (q::qs) k=valueAt qs k:=by simp [valueAt,Ek,e']
   rw[B5 e,b];exact ih
theorem KV.any{kvs:List (κ×V)}{vs:List (κ×Value)}(r:KV kvs vs)(k:κ):(kvs.any fun kv=>decide (kv.1=k))=vs.any fun kv=>decide (kv.1=k):=by
 unfold KV at r
 induction r with
 |nil=>rfl
 |cons h t ih=>rw[BC,BC,ih,h.1]
theorem KV.repl{kvs:List (κ×V)}{vs:List (κ×Value)}(r:KV kvs vs)(k:κ){y:V}{u:Value}(ry:RelV y u):
  KV (kvs.map fun kv=>if kv.1=k then (kv.1,y) else kv) (vs.map fun kv=>if kv.1=k then (kv.1,u) else kv):=by
 unfold KV at r⊢
 induction r with
 |nil=>exact .nil
 | @cons p q ps qs h t ih=>
  rw[List.map_cons,List.map_cons]
  refine .cons ?_ ih
  obtain⟨h1,h2⟩:=h
  by_cases e:p.1=k
  ·rw[if_pos e,if_pos (h1.symm.trans e)];exact⟨h1,ry⟩
  ·rw[if_neg e,if_neg (fun z=>e (h1.trans z))];exact⟨h1,h2⟩
theorem KV.put{kvs:List (κ×V)}{vs:List (κ×Value)}(r:KV kvs vs)(k:κ){y:V}{u:Value}(ry:RelV y u):KV (D3 kvs k y) (stored vs k u):=by
 unfold D3 stored
 rw[r.any k]
 by_cases e:(vs.any fun kv=>decide (kv.1=k))=true
 ·rw[if_pos e,if_pos e];exact r.repl k ry
 ·rw[if_neg e,if_neg e];exact Paired.snoc r ⟨rfl,ry⟩
theorem KV.length{kvs:List (κ×V)}{vs:List (κ×Value)}(r:KV kvs vs):kvs.length=vs.length:=XQ r
end
theorem EA{P:Program}{w:World}{k:A0}{u:Value}(r:RelV (kV k) u):(o6 P w).is k u=true:=by
 cases k with
 |inl i=>obtain⟨t,e⟩:=(show ∃t,u=Value.int i t from r);subst e;exact Lz P w i t
 |inr x=>obtain⟨t,e⟩:=(show ∃t,u=Value.str x t from r);subst e;exact Ly P w x t
theorem HN{P:Program}{w:World}:∀{ks:List A0} {us:List Value},u3 (ks.map kV) us->ItemsAre (o6 P w) ks us
 |[],_,r=>by rw[List.map_nil] at r;cases r;exact .nil
 |k::ks,_,r=>by
  rw[List.map_cons] at r
  cases r with
  |cons h t=>exact .cons (EA h) (HN t)
abbrev KT(H:Hp):List (List A0×V)->List (List A0×Addr×Value)->Prop:=Paired fun p q=>p.1=q.1/\H q.2.1=some (.tup (p.1.map kV))/\RelV p.2 q.2.2
theorem KT.val{H:Hp}{kvs:List (List A0×V)}{xs:List (List A0×Addr×Value)}(r:KT H kvs xs)(k:List A0):Ax (A9 kvs k) ((atKey xs k).map (·.2)):=by
 induction r with
 |nil=>exact True.intro
 | @cons p q ps qs h t ih=>
  obtain⟨h1,_,h2⟩:=h
  by_cases e:p.1=k
  ·have e':q.1=k:=h1.symm.trans e
   have b:atKey (q::qs) k=some q.2:=by simp [atKey,Ek,e']
   rw[B4 e,b];exact h2
  ·have e':¬q.1=k:=fun z=>e (h1.trans z)
   have b:atKey (q::qs) k=atKey qs k:=by simp [atKey,Ek,e']
   rw[B5 e,b];exact ih
theorem KT.repl{H:Hp}{kvs:List (List A0×V)}{xs:List (List A0×Addr×Value)}(r:KT H kvs xs)(k:List A0){y:V}{u:Value}(ry:RelV y u):
  KT H (kvs.map fun kv=>if kv.1=k then (kv.1,y) else kv) (xs.map (putAt k u)):=by
 induction r with
 |nil=>exact .nil
 | @cons p q ps qs h t ih=>
  rw[List.map_cons,List.map_cons]
  refine .cons ?_ ih
  obtain⟨h1,h2,h3⟩:=h
  unfold putAt
  by_cases e:p.1=k
  ·rw[if_pos e,if_pos (h1.symm.trans e)];exact⟨h1,h2,ry⟩
  ·rw[if_neg e,if_neg (fun z=>e (h1.trans z))];exact⟨h1,h2,h3⟩
theorem KT.put{H:Hp}{kvs:List (List A0×V)}{xs:List (List A0×Addr×Value)}(r:KT H kvs xs)(k:List A0){b:Addr}{y:V}{u:Value}(hb:H b=some (.tup (k.map kV)))(ry:RelV y u):
  KT H (D3 kvs k y) (storedH xs k b u):=by
 have e:(kvs.any fun kv=>decide (kv.1=k))=(atKey xs k).isSome:=by
  rw[W7,(r.val k).isSome_eq,Of]
 unfold D3 storedH
 rw[e]
 by_cases q:(atKey xs k).isSome=true
 ·rw[if_pos q,if_pos q];exact r.repl k ry
 ·rw[if_neg q,if_neg q];exact Paired.snoc r ⟨rfl,hb,ry⟩
theorem KT.keeps{H H':Hp}{kvs:List (List A0×V)}{xs:List (List A0×Addr×Value)}(r:KT H kvs xs)(ht:∀b ys,H b=some (.tup ys)->H' b=some (.tup ys)):KT H' kvs xs:=
 Paired.mapP r fun _ _ z=>⟨z.1,ht _ _ z.2.1,z.2.2⟩
section
variable {P:Program} {w:World} {H:Hp} {h:Heap} {a:Addr}
theorem Yu{u:HO}(ok:AZ P w H h)(e:Rd H a u):D0 P w H h a u:=e.ok ok
theorem FY{kvs:List (A0×V)}(ok:AZ P w H h)(e:Rd H a (.dK kvs)):kvs.length<=sizeLine/\(a==sysModules)=false/\∃vs,KV kvs vs/\h.DictOf (o6 P w) a vs:=
 show D0 P w H h a (.dK kvs) from Yu ok e
theorem Df{kvs:List (A0×V)}(ok:AZ P w H h)(e:H a=some (.dK kvs)):kvs.length<=sizeLine/\(a==sysModules)=false/\∃vs,KV kvs vs/\h.DictOf (o6 P w) a vs:=FY ok (.inl e)
theorem DJ{ks:List A0}(ok:AZ P w H h)(e:H a=some (.tup (ks.map kV))):(tupleKind (o6 P w)).is h ks a:=by
 obtain⟨_,n5,r,o,h1,h2,n,h3⟩:=(show D0 P w H h a (.tup (ks.map kV)) from ok a _ e)
 exact⟨o,n5.toArray,n,h1,h2,h3,by simpa using HN r⟩
theorem FX{kvs:List (List A0×V)}(ok:AZ P w H h)(e:Rd H a (.dT kvs)):kvs.length<=sizeLine/\(a==sysModules)=false/\
  ∃xs,KT H kvs xs/\h.DictOfH (tupleKind (o6 P w)) a xs:=by
 obtain⟨z,y,xs,r,o,es,ep,h1,h2,h3,h4,h5⟩:=(show D0 P w H h a (.dT kvs) from Yu ok e)
 refine⟨z,y,xs,r,o,es,ep,h1,h2,h3,h4,fun x hx=> ?_,h5⟩
 have all:∀{l:List (List A0×V)} {m:List (List A0×Addr×Value)},KT H l m->∀x∈m,(tupleKind (o6 P w)).is h x.1 x.2.1:=by
  intro l m q
  induction q with
  |nil=>intro x hx;exact nomatch hx
  | @cons p q ps qs hq t ih=>
   intro x hx
   rcases C8.mp hx with e|hx
   ·subst e
    exact DJ ok (by rw[<-hq.1];exact hq.2.1)
   ·exact ih x hx
 exact all r x hx
theorem Qcv{kvs:List (List A0×V)}(ok:AZ P w H h)(e:H a=some (.dT kvs)):kvs.length<=sizeLine/\(a==sysModules)=false/\
  ∃xs,KT H kvs xs/\h.DictOfH (tupleKind (o6 P w)) a xs:=FX ok (.inl e)
end
def V7(H:Hp)(a:Addr)(y:V)(r:Option V):Prop:=
 (∃kvs k,Rd H a (.dK kvs)/\y=kV k/\r=A9 kvs k)\/∃kvs k b,Rd H a (.dT kvs)/\y= .ref b/\H b=some (.tup (k.map kV))/\r=A9 kvs k
def BG(H:Hp)(a:Addr)(y v:V)(H':Hp):Prop:=
 (∃kvs k,H a=some (.dK kvs)/\y=kV k/\kvs.length<sizeLine/\H'=i8 H a (.dK (D3 kvs k v)))\/
 ∃kvs k b,H a=some (.dT kvs)/\y= .ref b/\H b=some (.tup (k.map kV))/\kvs.length<sizeLine/\H'=i8 H a (.dT (D3 kvs k v))
theorem V7.k{H:Hp}{a:Addr}{kvs:List (A0×V)}{k:A0}(e:H a=some (.dK kvs)):V7 H a (kV k) (A9 kvs k):= .inl ⟨kvs,k, .inl e,rfl,rfl⟩
theorem BG.k{H:Hp}{a:Addr}{kvs:List (A0×V)}{k:A0}{v:V}(e:H a=some (.dK kvs))(hl:kvs.length<sizeLine):BG H a (kV k) v (i8 H a (.dK (D3 kvs k v))):= .inl ⟨kvs,k,e,rfl,hl,rfl⟩
theorem BG.t{H:Hp}{a b:Addr}{kvs:List (List A0×V)}{k:List A0}{v:V}(e:H a=some (.dT kvs))(eb:H b=some (.tup (k.map kV)))(hl:kvs.length<sizeLine):
  BG H a (.ref b) v (i8 H a (.dT (D3 kvs k v))):= .inr ⟨kvs,k,b,e,rfl,eb,hl,rfl⟩
section
variable {X:Cx} {c4:List (Addr×Obj)} {σ:St} {H:Hp} {s:Shared} {a:Addr} {y v:V} {u r:Value} {o:Option V} {A:Around} {E:Value->Shared->Prop}
theorem Inw.big(I:Inw X c4 σ H s):sysModules<s.heap.objs.size:=by
 have h:mainGlobals<s.heap.objs.size:=(I.mod.glob.keeps I.bk).lt
 exact Ki (by decide) h
theorem Re{Q:Value->Shared->Prop}(hu:A.units+1<cLine)(I:Inv X c4 σ H s)(g:V7 H a y (some v))(ry:RelV y u)(h:∀w' s',Inw X c4 σ H s'->RelV v w'->Q w' s'):
  wpAny (model X.prog X.w) A (getItem (.ref a) u) Q E s:=by
 rcases g with ⟨kvs,k,e,ey,l⟩|⟨kvs,k,b,e,ey,eb,l⟩
 ·subst ey
  obtain⟨z,hd,vs,rel,dd⟩:=FY I.hok e
  obtain⟨w',hw,rw'⟩:=Ax.some_of (v:=v) (o:=valueAt vs k) (by rw[l];exact rel.val k)
  exact wpAny_getItem_of (EA ry) dd.mapOf hw (h w' _ (I.tok _) rw')
 ·subst ey
  cases (show u=Value.ref b from ry)
  obtain⟨z,hd,xs,rel,dd⟩:=FX I.hok e
  obtain⟨w',hw,rw'⟩:=Ax.some_of (v:=v) (o:=(atKey xs k).map (·.2)) (by rw[l];exact rel.val k)
  obtain⟨p,hp,hp2⟩:=o7.mp hw
  refine wpAny_getItem_heap (Gw hu) (DJ I.hok eb) dd hp ?_
  rw[hp2]
  exact h w' _ (I.tok _) rw'
theorem QcQ{Q:Value->Shared->Prop}(hu:A.units+1<cLine)(I:Inv X c4 σ H s)(g:V7 H a y o)(ry:RelV y u)(h:∀s',Inw X c4 σ H s'->Q (.bool o.isSome) s'):
  wpAny (model X.prog X.w) A (compareOp .In u (.ref a)) Q E s:=by
 rcases g with ⟨kvs,k,e,ey,l⟩|⟨kvs,k,b,e,ey,eb,l⟩
 ·subst ey
  obtain⟨z,hd,vs,rel,dd⟩:=FY I.hok e
  refine wpAny_in_of (EA ry) hd dd.mapOf ?_
  rw[<-(rel.val k).isSome_eq,<-l]
  exact h _ (I.tok _)
 ·subst ey
  cases (show u=Value.ref b from ry)
  obtain⟨z,hd,xs,rel,dd⟩:=FX I.hok e
  refine wpAny_in_heap (Gw hu) (DJ I.hok eb) hd dd ?_
  have q:=(rel.val k).isSome_eq
  rw[Of] at q
  rw[<-q,<-l]
  exact h _ (I.tok _)
theorem XH{Q:Value->Shared->Prop}(hu:A.units+1<cLine)(I:Inv X c4 σ H s)(g:V7 H a y o)(ry:RelV y u)(h:∀s',Inw X c4 σ H s'->Q (.bool (!o.isSome)) s'):
  wpAny (model X.prog X.w) A (compareOp .NotIn u (.ref a)) Q E s:=by
 rcases g with ⟨kvs,k,e,ey,l⟩|⟨kvs,k,b,e,ey,eb,l⟩
 ·subst ey
  obtain⟨z,hd,vs,rel,dd⟩:=FY I.hok e
  refine wpAny_notIn_of (EA ry) hd dd.mapOf ?_
  rw[<-(rel.val k).isSome_eq,<-l]
  exact h _ (I.tok _)
 ·subst ey
  cases (show u=Value.ref b from ry)
  obtain⟨z,hd,xs,rel,dd⟩:=FX I.hok e
  refine wpAny_notIn_heap (Gw hu) (DJ I.hok eb) hd dd ?_
  have q:=(rel.val k).isSome_eq
  rw[Of] at q
  rw[<-q,<-l]
  exact h _ (I.tok _)
theorem Js{h':Heap}{t':Nat}{ob:HO}(I:Inv X c4 σ H s)(mu:Mut (H a))(hs:Heap.SameBut a s.heap h')(he:∃q,h'.get? a=some q)(new:D0 X.prog X.w (i8 H a ob) h' a ob):
  Inw X c4 σ (i8 H a ob) {s with heap:=h',toks:=t'}:=
 I.write (x:=a) (e:=a) mu (.inl rfl) (fun b q hb z=>(hs.2 b hb).trans z) he new
theorem Nw{P:Program}{w:World}{H':Hp}{h':Heap}{kvs:List (A0×V)}{vs:List (A0×Value)}(z:kvs.length<=sizeLine)(hd:(a==sysModules)=false)(rel:KV kvs vs)(dd:h'.DictOf (o6 P w) a vs):
  D0 P w H' h' a (.dK kvs):=⟨z,hd,vs,rel,dd⟩
theorem Rc{H':Hp}{Q:Unit->Shared->Prop}(hu:A.units+1<cLine)(I:Inv X c4 σ H s)(g:BG H a y v H')(ry:RelV y u)(rv:RelV v r)(h:∀s',Inw X c4 σ H' s'->Q () s'):
  wpAny (model X.prog X.w) A (setItem (.ref a) u r) Q E s:=by
 rcases g with ⟨kvs,k,e,ey,l,eH⟩|⟨kvs,k,b,e,ey,eb,l,eH⟩
 ·subst ey eH
  obtain⟨z,hd,vs,rel,dd⟩:=Df I.hok e
  have hz:vs.length<=sizeLine:=by rw[<-rel.length];exact z
  have hl:(D3 kvs k v).length<=sizeLine:=by have:=K4 kvs k v;omega
  refine wpAny_setItem_pairs (hsz:=hz) (EA ry) dd fun h' dd' hs=>h _ ?_
  have he:∃q,h'.get? a=some q:=let ⟨q,_,_,hq,_⟩:=dd';⟨q,hq⟩
  exact Js I (by rw[e];exact True.intro) hs he (Nw hl hd (rel.put k rv) dd')
 ·subst ey eH
  cases (show u=Value.ref b from ry)
  obtain⟨z,hd,xs,rel,dd⟩:=Qcv I.hok e
  have hz:xs.length<=sizeLine:=by rw[<-XQ rel];exact z
  have hl:(D3 kvs k v).length<=sizeLine:=by have:=K4 kvs k v;omega
  refine wpAny_setItem_heap (hsz:=hz) (Gw hu) (DJ I.hok eb) dd fun h' dd' hs=>h _ ?_
  obtain⟨q,es,ep,hq,h2,h3,h4,_,h5⟩:=dd'
  refine Js I (by rw[e];exact True.intro) hs ⟨q,hq⟩ ⟨hl,hd,_,(rel.put k eb rv).keeps fun c ys ec=> ?_,q,es,ep,hq,h2,h3,h4,h5⟩
  rw[g9 (Ex ec e (fun z=>nomatch z))]
  exact ec
end
section
variable {X:Cx} {c4:List (Addr×Obj)} {σ:St} {H:Hp} {s:Shared} {a:Addr} {kvs:List (A0×V)} {k:A0} {u:Value} {A:Around} {E:Value->Shared->Prop}
end
def Qcy(i:Expr):Prop:=∀ov iv,subscripted i false ov iv=operate [ov,iv] (getItem ov iv)
theorem Wm{prog:Program}{w:World}{A:Around}{E:Value->Shared->Prop}{s:Shared}{env:Env}{value slice:Expr}{pos:Pos}{T id:String}{Q:Value->Shared->Prop}
  (hl:typeLookup (.type T) "__getitem__"=pure (some (.builtin id)))(hs:Qcy slice)
  (h:wpAny (model prog w) A (eval value env) (fun o s₁=>wpAny (model prog w) A (eval slice env) (fun i s₂=>s₂.TypeIs o T/\wpAny (model prog w) A (getItem o i) Q E s₂) E s₁) E s):
  wpAny (model prog w) A (eval (.Subscript value slice pos) env) Q E s:=by
 refine Subscript_ (I9 h (fun o s₁ h₁=>I9 h₁ (fun i s₂ h₂=> ?_) fun _ _ x=>x) fun _ _ x=>x)
 obtain⟨hT,h₂⟩:=h₂
 unfold subscriptTail
 refine e8 ?_
 rw[getitemInPython_of_ne hT.not_modules]
 refine e8 (wpAny_specialOf hT hl ?_)
 have fin:wpAny (model prog w) A (subscripted slice false o i) (fun r s₃=>wpAny (model prog w) A (letTemporaryGo value o r>>=fun _=>pure r) Q E s₃) E s₂:=by
  rw[hs o i]
  exact wpAny_operating (I9 h₂ (fun r s₃ h₃=>e8 (wpAny_letTemporaryGo (l0 h₃))) fun _ _ x=>x)
 first
  |exact l0 (e8 fin)
  |exact e8 (l0 (e8 fin))
  |exact e8 fin
theorem LS{X:Cx}{c4:List (Addr×Obj)}{σ:St}{H:Hp}{s:Shared}{a:Addr}{y:V}{o:Option V}(I:Inv X c4 σ H s)(g:V7 H a y o):s.TypeIs (.ref a) "dict":=by
 rcases g with ⟨kvs,k,e,_,_⟩|⟨kvs,k,b,e,_,_,_⟩
 ·obtain⟨_,_,vs,_,dd⟩:=FY I.hok e
  exact dd.typeIs
 ·obtain⟨_,_,xs,_,dd⟩:=FX I.hok e
  exact dd.typeIs
def Es(td ty:TE):TE:=fun σ H Q=>td σ H fun x H1=>ty σ H1 fun y H2=>∃a v,x= .ref a/\V7 H2 a y (some v)/\Q v H2
def Sj(ty td:TE):TE:=fun σ H Q=>ty σ H fun y H1=>td σ H1 fun x H2=>∃a o,x= .ref a/\V7 H2 a y o/\Q (.bl o.isSome) H2
def OB(ty td:TE):TE:=fun σ H Q=>ty σ H fun y H1=>td σ H1 fun x H2=>∃a o,x= .ref a/\V7 H2 a y o/\Q (.bl (!o.isSome)) H2
def AN(td ty tv:TE):TS:=fun D σ H=>tv σ H fun v H1=>td σ H1 fun x H2=>ty σ H2 fun y H3=>∃a H4,x= .ref a/\BG H3 a y v H4/\D.nx σ H4
section
variable {X:Cx} {o i e value:Expr} {pos pos' tpos:Pos} {td ty tv:TE}
theorem Z4(hu:X.A.units+1<cLine)(ho:PE X o td)(hi:PE X i ty)(hs:Qcy i):PE X (.Subscript o i pos) (Es td ty):=by
 intro c4 s σ H Q I h
 refine Wm PySem.F.slot_dict_getitem.lookup hs (G7 (ho c4 s σ H _ I h) fun u s1 ⟨x,H1,I1,rx,q1⟩=>G7 (hi c4 s1 σ H1 _ I1 q1) fun iv s2 ⟨y,H2,I2,ry,a,v,ex,g,q2⟩=> ?_)
 subst ex
 obtain rfl:u=Value.ref a:=rx
 exact⟨LS I2 g,Re hu I2 g ry fun w' s3 I3 rw'=>⟨v,H2,I3,rw',q2⟩⟩
theorem MW(hu:X.A.units+1<cLine)(hi:PE X i ty)(ho:PE X o td):PC X .In i o (Sj ty td):=by
 intro c4 s σ H Q I h
 refine G7 (hi c4 s σ H _ I h) fun iv s1 ⟨y,H1,I1,ry,q1⟩=>G7 (ho c4 s1 σ H1 _ I1 q1) fun u s2 ⟨x,H2,I2,rx,a,ov,ex,g,q2⟩=> ?_
 subst ex
 obtain rfl:u=Value.ref a:=rx
 exact QcQ hu I2 g ry fun s3 I3=>⟨.bl ov.isSome,H2,I3,rfl,q2⟩
theorem Qu(hu:X.A.units+1<cLine)(hi:PE X i ty)(ho:PE X o td):PC X .NotIn i o (OB ty td):=by
 intro c4 s σ H Q I h
 refine G7 (hi c4 s σ H _ I h) fun iv s1 ⟨y,H1,I1,ry,q1⟩=>G7 (ho c4 s1 σ H1 _ I1 q1) fun u s2 ⟨x,H2,I2,rx,a,ov,ex,g,q2⟩=> ?_
 subst ex
 obtain rfl:u=Value.ref a:=rx
 exact XH hu I2 g ry fun s3 I3=>⟨.bl (!ov.isSome),H2,I3,rfl,q2⟩
theorem U4(hu:X.A.units+1<cLine)(ho:PE X o td)(hi:PE X i ty)(hv:PE X value tv)(hs:swapsWith value (some (.Subscript o i pos')) pos.line X.env=pure false):
  PS X (.Assign [.Subscript o i pos'] value pos) (AN td ty tv):=by
 intro c4 s σ H D I h
 refine wpAny_Assign_Subscript (G7 (hv c4 s σ H _ I h) fun r s1 ⟨v,H1,I1,rv,q1⟩=>G7 (ho c4 s1 σ H1 _ I1 q1) fun u s2 ⟨x,H2,I2,rx,q2⟩=>G7 (hi c4 s2 σ H2 _ I2 q2) fun iv s3 ⟨y,H3,I3,ry,a,H4,ex,g,q3⟩=> ?_) hs
 subst ex
 obtain rfl:u=Value.ref a:=rx
 exact Rc hu I3 g ry rv fun s4 I4=>⟨σ,H4,I4,q3⟩
end
theorem UB{P:Program}{w:World}{H:Hp}(h:Heap)(hb:sysModules<h.objs.size):D0 P w H (h.push {cls:= .type "dict",data:= .dict #[]}) h.objs.size (.dK []):=
 ⟨o8 _,NH.mpr (D9 (u9 hb)),[], .nil,Heap.DictOf.new h⟩
theorem UA{P:Program}{w:World}{H:Hp}(h:Heap)(hb:sysModules<h.objs.size):D0 P w H (h.push {cls:= .type "dict",data:= .dict #[]}) h.objs.size (.dT []):=
 ⟨o8 _,NH.mpr (D9 (u9 hb)),[], .nil,_,#[],0,C7 _ rfl,⟨rfl,rfl,rfl⟩,rfl,rfl,Ai⟩
def K9:TE:=fun _ H Q=>∀p,H p=none->Q (.ref p) (i8 H p (.dK []))
def MF:TE:=fun _ H Q=>∀p,H p=none->Q (.ref p) (i8 H p (.dT []))
section
variable {X:Cx} {pos:Pos}
theorem C5:PE X (.Dict [] [] pos) K9:=fun c4 s σ H Q I h=>
 wpAny_Dict_empty ⟨.ref s.heap.objs.size,_,I.laid (a:=s.heap.objs.size) (o:= .dK []) (t':=s.toks) (fun _ _ q=>q0 _ q) (l8 _) (UB s.heap I.big),rfl,h _ (I.hok.fresh (l8 _))⟩
theorem Lq:PE X (.Dict [] [] pos) MF:=fun c4 s σ H Q I h=>
 wpAny_Dict_empty ⟨.ref s.heap.objs.size,_,I.laid (a:=s.heap.objs.size) (o:= .dT []) (t':=s.toks) (fun _ _ q=>q0 _ q) (l8 _) (UA s.heap I.big),rfl,h _ (I.hok.fresh (l8 _))⟩
end
structure M1(X:Cx)(o:Expr)(m:Str)(apos:Pos)(e:Expr)(cpos:Pos):Prop where
 base:attributeBase o m X.env (eval o X.env)=eval o X.env
 few:((backTo cpos (starEach [e] X.env)).all (fun x=> !x.1)&&(backToKw cpos (keywordEach [] X.env)).all (fun x=>x.1.isSome)
  &&decide (([e]:List Expr).length+([]:List Keyword).length+(if ([]:List Keyword).isEmpty then 0 else 1)<30))=true
 line:(apos.endLine==cpos.line)=true
 trees:backTo cpos (starEach [e] X.env)=[(false,eval e X.env)]
structure M2(X:Cx)(o:Expr)(m:Str)(apos:Pos)(e f:Expr)(cpos:Pos):Prop where
 base:attributeBase o m X.env (eval o X.env)=eval o X.env
 few:((backTo cpos (starEach [e,f] X.env)).all (fun x=> !x.1)&&(backToKw cpos (keywordEach [] X.env)).all (fun x=>x.1.isSome)
  &&decide (([e,f]:List Expr).length+([]:List Keyword).length+(if ([]:List Keyword).isEmpty then 0 else 1)<30))=true
 line:(apos.endLine==cpos.line)=true
 trees:backTo cpos (starEach [e,f] X.env)=[(false,eval e X.env),(false,eval f X.env)]
def IsD(H:Hp)(a:Addr):Prop:=(∃kvs,Rd H a (.dK kvs))\/∃kvs,Rd H a (.dT kvs)
theorem TW{X:Cx}{c4:List (Addr×Obj)}{σ:St}{H:Hp}{s:Shared}{a:Addr}(I:Inv X c4 σ H s)(d:IsD H a):
  s.TypeIs (.ref a) "dict"/\(∀b,Value.ref a= .ref b->∃ob,s.heap.get? b=some ob/\ob.dict=none)/\(a==sysModules)=false:=by
 rcases d with ⟨kvs,e⟩|⟨kvs,e⟩
 ·obtain⟨_,hd,vs,_,dd⟩:=FY I.hok e
  refine⟨dd.typeIs,fun b q=> ?_,hd⟩
  cases q
  obtain⟨ob,_,_,h1,h2,_⟩:=dd
  exact⟨ob,h1,h2.2.1⟩
 ·obtain⟨_,hd,xs,_,dd⟩:=FX I.hok e
  refine⟨dd.typeIs,fun b q=> ?_,hd⟩
  cases q
  obtain⟨ob,_,_,h1,h2,_⟩:=dd
  exact⟨ob,h1,h2.2.1⟩
section
variable {X:Cx} {c4:List (Addr×Obj)} {σ:St} {H:Hp} {s:Shared} {a:Addr} {y d:V} {u r:Value} {o:Option V} {A:Around} {E:Value->Shared->Prop}
theorem Qbh{Q:Value->Shared->Prop}(hu:A.units+1<cLine)(I:Inv X c4 σ H s)(g:V7 H a y o)(ry:RelV y u)(rd:RelV d r)(h:∀w' s',Inw X c4 σ H s'->RelV (o.getD d) w'->Q w' s'):
  wpAny (model X.prog X.w) A (call (.builtin "dict.get") [.ref a,u,r]) Q E s:=by
 rcases g with ⟨kvs,k,e,ey,l⟩|⟨kvs,k,b,e,ey,eb,l⟩
 ·subst ey
  obtain⟨z,hd,vs,rel,dd⟩:=FY I.hok e
  refine Gv Oe dd.typeIs VD (VC _ _ _) (meets_dict_get_default (o6 X.prog X.w) a (EA ry) hd r) ⟨_,dd.mapOf,h _ _ (I.tok _) ?_⟩
  rw[l]
  exact(rel.val k).getD rd
 ·subst ey
  cases (show u=Value.ref b from ry)
  obtain⟨z,hd,xs,rel,dd⟩:=FX I.hok e
  refine Gv Oe dd.typeIs VD (VC _ _ _) (meetsH_dict_get_default (tupleKind (o6 X.prog X.w)) a b hd r) ⟨Gw hu,k,xs,DJ I.hok eb,dd,h _ _ (I.tok _) ?_⟩
  rw[l]
  exact(rel.val k).getD rd
end
def Z9(td ty tx:TE):TE:=fun σ H Q=>td σ H fun x H1=>∃a,x= .ref a/\IsD H1 a/\ty σ H1 fun y H2=>tx σ H2 fun z H3=>∃o,V7 H3 a y o/\Q (o.getD z) H3
section
variable {X:Cx} {o e f:Expr} {apos cpos:Pos} {td ty tx:TE}
theorem P5(hu:X.A.units+1<cLine)(ho:PE X o td)(he:PE X e ty)(hf:PE X f tx)(m:M2 X o "get" apos e f cpos):PE X (.Call (.Attribute o "get" apos) [e,f] [] cpos) (Z9 td ty tx):=by
 intro c4 s σ H Q I h
 refine wpAny_Call_method m.base m.few m.line Bz Oe PySem.F.type_dict_get (G7 (ho c4 s σ H _ I h) fun u s1 ⟨x,H1,I1,rx,a,ex,d,q1⟩=> ?_)
 subst ex
 obtain rfl:u=Value.ref a:=rx
 obtain⟨t1,t2,_⟩:=TW I1 d
 refine⟨t1,t2,?_⟩
 rw[m.trees]
 refine Kp rfl (Op (Im (G7 (he c4 s1 σ H1 _ I1 q1) fun iv s2 ⟨y,H2,I2,ry,q2⟩=>
  Im (G7 (hf c4 s2 σ H2 _ I2 q2) fun fv s3 ⟨z,H3,I3,rz,ov,g,q3⟩=>Mf ?_))))
 exact Qbh hu I3 g ry rz fun w' s4 I4 rw'=>⟨_,H3,I4,rw',q3⟩
end
section
variable {X:Cx} {c4:List (Addr×Obj)} {σ:St} {H:Hp} {s:Shared} {a:Addr} {kvs:List (A0×V)} {A:Around} {E:Value->Shared->Prop}
end
section
variable {X:Cx} {c4:List (Addr×Obj)} {σ:St} {H:Hp} {s:Shared} {a:Addr} {y:V} {u:Value} {A:Around} {E:Value->Shared->Prop}
end
section
variable {X:Cx}
end
section
variable {κ:Type} [DecidableEq κ]
end
section
variable {X:Cx} {c4:List (Addr×Obj)} {σ:St} {H:Hp} {s:Shared} {a:Addr} {A:Around} {E:Value->Shared->Prop}
theorem Ju{kvs:List (A0×V)}{k:A0}{v:V}{u r:Value}{Q:Value->Shared->Prop}(I:Inv X c4 σ H s)(e:H a=some (.dK kvs))(hl:kvs.length<sizeLine)(ry:RelV (kV k) u)(rv:RelV v r)
  (h1:∀x w' s',A9 kvs k=some x->Inw X c4 σ H s'->RelV x w'->Q w' s')(h2:A9 kvs k=none->∀s',Inw X c4 σ (i8 H a (.dK (D3 kvs k v))) s'->Q r s'):wpAny (model X.prog X.w) A (call (.builtin "dict.setdefault") [.ref a,u,r]) Q E s:=by
 obtain⟨z,hd,vs,rel,dd⟩:=Df I.hok e
 have rl:=rel.val k
 refine Gv F.slot_dict_setdefault dd.typeIs F.entry_dict_setdefault (F.args_dict_setdefault_3 _ _ _) (kt_meets_setdefault (o6 X.prog X.w) a (EA ry) hd r) ⟨vs,dd,by rw[<-rel.length];exact z,fun x hx=> ?_,fun hn h' dd' hs=> ?_⟩
 ·rw[hx] at rl
  cases hv:A9 kvs k with
  |none=>rw[hv] at rl;exact False.elim rl
  |some y=>
   rw[hv] at rl
   exact h1 y x _ hv (I.tok _) rl
 ·rw[hn] at rl
  cases hv:A9 kvs k with
  |some y=>rw[hv] at rl;exact False.elim rl
  |none=>
   have hl':(D3 kvs k v).length<=sizeLine:=by have:=K4 kvs k v;omega
   have he:∃q,h'.get? a=some q:=let ⟨q,_,_,hq,_⟩:=dd';⟨q,hq⟩
   exact h2 hv _ (Js (t':=s.toks+1) I (by rw[e];exact True.intro) hs he (Nw hl' hd (rel.put k rv) dd'))
end
def Dv(td ty tx:TE):TE:=fun σ H Q=>td σ H fun x H1=>∃a,x= .ref a/\IsD H1 a/\ty σ H1 fun y H2=>tx σ H2 fun z H3=>∃kvs k,H3 a=some (.dK kvs)/\y=kV k/\kvs.length<sizeLine/\
 (∀v,A9 kvs k=some v->Q v H3)/\(A9 kvs k=none->Q z (i8 H3 a (.dK (D3 kvs k z))))
theorem Bh{X:Cx}{o e f:Expr}{td ty tx:TE}{apos cpos:Pos}(ho:PE X o td)(he:PE X e ty)(hf:PE X f tx)(m:M2 X o "setdefault" apos e f cpos):PE X (.Call (.Attribute o "setdefault" apos) [e,f] [] cpos) (Dv td ty tx):=by
 intro c4 s σ H Q I h
 refine wpAny_Call_method m.base m.few m.line Bz PySem.F.slot_dict_setdefault PySem.F.type_dict_setdefault (G7 (ho c4 s σ H _ I h) fun u s1 ⟨x,H1,I1,rx,a,ex,d,q1⟩=> ?_)
 subst ex
 obtain rfl:u=Value.ref a:=rx
 obtain⟨t1,t2,_⟩:=TW I1 d
 refine⟨t1,t2,?_⟩
 rw[m.trees]
 refine Kp rfl (Op (Im (G7 (he c4 s1 σ H1 _ I1 q1) fun iv s2 ⟨y,H2,I2,ry,q2⟩=>
  Im (G7 (hf c4 s2 σ H2 _ I2 q2) fun fv s3 ⟨z,H3,I3,rz,kvs,k,ea,ey,hl,g1,g2⟩=>Mf ?_))))
 subst ey
 exact Ju I3 ea hl ry rz (fun x w' s4 hv I4 rw'=>⟨x,H3,I4,rw',g1 x hv⟩) fun hv s4 I4=>⟨z,_,I4,rz,g2 hv⟩
def Itd(d:Addr)(o:Obj)(kvs:List (A0×V)):It:=⟨fun i H=>i<kvs.length/\H d=some (.frz o (.dK kvs)),fun i H x H'=>H'=H/\∃k v,kvs[i]? =some (k,v)/\x=kV k,fun i H=>kvs.length<=i/\H d=some (.frz o (.dK kvs))⟩
theorem Uq{P:Program}{w:World}{H:Hp}{h:Heap}{d:Addr}{o:Obj}{kvs:List (A0×V)}(k:AZ P w H h)(e:H d=some (.frz o (.dK kvs))):h.get? d=some o/\(d==sysModules)=false/\∃vs ep es,o.data= .dict es ep/\KV kvs vs/\h.DictAt (o6 P w) d vs ep:=by
 obtain⟨g1,_,g2,vs,rel,o',es,ep,g3,g4,g5,r⟩:=(show D0 P w H h d (.frz o (.dK kvs)) from k d _ e)
 rw[g1] at g3
 cases g3
 exact⟨g1,g2,vs,ep,es,g5,rel,o,es,g1,g4,g5,r⟩
theorem Q4{kvs:List (A0×V)}{vs:List (A0×Value)}(r:KV kvs vs):kvs.length=vs.length:=r.length
theorem Ng{P:Program}{w:World}{k:A0}{u:Value}(h:(o6 P w).is k u=true):RelV (kV k) u:=by
 rw[MY] at h
 rcases E2 h with ⟨i,t,rfl,rfl⟩|⟨x,t,rfl,rfl⟩
 ·exact⟨t,rfl⟩
 ·exact⟨t,rfl⟩
theorem B6{kvs:List (A0×V)}{vs:List (A0×Value)}(r:KV kvs vs){i:Nat}{k:A0}{v:Value}(h:vs[i]? =some (k,v)):∃y,kvs[i]? =some (k,y):=by
 unfold KV at r
 induction r generalizing i with
 |nil=>simp at h
 |cons a _ ih=>
  cases i with
  |zero=>
   simp at h
   rename_i p q _ _ _
   refine⟨p.2,?_⟩
   simp
   have e:=a.1
   rw[h] at e
   exact Ej e rfl
  |succ i=>simpa using ih (by simpa using h)
theorem Qb{P:Program}{w:World}{K:j6}{tg:Expr}(d it:Addr)(o:Obj)(kvs:List (A0×V)){es:Array DictEntry}{ep:Nat}(hd:o.data= .dict es ep):Turn P w K tg (Itd d o kvs) [it] it (fun i h=>h.IsKeyIter it d i kvs.length ep) where
 mem:=by simp
 obj:=fun i h st b hb=>by
  have e:b=it:=by simpa using hb
  subst e
  obtain⟨o,e,c,d⟩:=st
  exact⟨o,e,fun v z=>by rw[d] at z;cases z⟩
 keep:=fun i h h' st k=>st.at fun o e=>k it (by simp) o e
 item:=by
  intro X hP hw hK hc i c4 s σ H E I hf st hg
  subst hP hw hK
  obtain⟨hi,hfz⟩:=hg
  obtain⟨g1,g2,vs,ep',es',e1,rel,da⟩:=Uq I.hok hfz
  rw[hd] at e1
  cases e1
  have hl:=Q4 rel
  obtain⟨f0,f1,f2,f3,f4,f5⟩:=hf it (by simp)
  have hx:vs[i]? =some (vs[i]'(by omega)):=E5 _
  obtain⟨y,hy⟩:=B6 rel (k:=(vs[i]'(by omega)).1) (v:=(vs[i]'(by omega)).2) hx
  rw[hl] at st
  refine wpAny_pyNext_dict_item (k:=(vs[i]'(by omega)).1) (v:=(vs[i]'(by omega)).2) st da hx fun key h' hk st' sb=> ?_
  have I1:Inw X c4 σ H {s with heap:=h'}:=I.turned (t':=s.toks) (fun b o hb e=>(sb.2 b hb).trans e) f0 f1 f3 f4 f5
  obtain⟨o2,e2,c2,d2⟩:=id st'
  rw[<-hl] at st'
  exact⟨key,rfl,FP (s:={s with heap:=h'}) e2 c2 d2 (by decide) ⟨_,H,I1,Ng hk,⟨rfl,_,y,hy,rfl⟩,st',fun b hb=>(hf b hb).1⟩⟩
 done:=by
  intro X hP hw hK hc i c4 s σ H E I hf st hg
  subst hP hw hK
  obtain⟨hi,hfz⟩:=hg
  obtain⟨g1,g2,vs,ep',es',e1,rel,da⟩:=Uq I.hok hfz
  rw[hd] at e1
  cases e1
  have hl:=Q4 rel
  rw[hl] at st
  obtain⟨f0,f1,f2,f3,f4,f5⟩:=hf it (by simp)
  exact wpAny_pyNext_dict_end (I.ok.hd hc) st da (CC (by omega)) fun h' eb=>⟨rfl,I.turned (t':=s.toks) (fun b o hb e=>eb b o hb e) f0 f1 f3 f4 f5⟩
 self:=fun _ _ _ _ _ st h=>wpAny_pyIter_keyiter st h
def Ph(tl:TE):TI:=fun σ H R=>tl σ H fun x H1=>∃d kvs,x= .ref d/\H1 d=some (.dK kvs)/\∀o,R (Itd d o kvs) (i8 H1 d (.frz o (.dK kvs)))
theorem IS{X:Cx}{tg l:Expr}{tl:TE}(hl:PE X l tl):PI X tg l (Ph tl):=by
 intro c4 s σ H R I h
 refine G7 (hl c4 s σ H _ I h) fun v s1 ⟨x,H1,I1,r1,q1⟩=> ?_
 obtain⟨d,kvs,e,hd,q⟩:=q1
 subst e
 cases r1
 obtain⟨z,hsm,vs,rel,o,es,ep,g1,g2,g3,g4⟩:=Df I1.hok hd
 have lt:d<s1.heap.objs.size:=A1 g1
 have da:s1.heap.DictAt (o6 X.prog X.w) d vs ep:=⟨o,es,g1,g2,g3,g4⟩
 refine wpAny_pyIter_dict hsm da ?_
 have J:Inw X c4 σ (i8 H1 d (.frz o (.dK kvs))) s1:=I1.write (x:=d) (e:=d) (t':=s1.toks) (by rw[hd];exact True.intro) (.inl rfl) (fun b u _ z=>z) ⟨o,g1⟩ ⟨g1,z,hsm,vs,rel,o,es,ep,g1,g2,g3,g4⟩
 have G1:vs.length=kvs.length:=(Q4 rel).symm
 refine⟨s1.heap.objs.size,[s1.heap.objs.size],_,_,_,rfl,J.kept (t':=s1.toks) fun b o e=>q0 _ e,Qb d _ o kvs g3,⟨_,C7 _ rfl,rfl,by rw[G1];rfl⟩,fun b hb=> ?_,q o⟩
 have e:b=s1.heap.objs.size:=by simpa using hb
 subst e
 exact J.fpOk (l8 _) (J.hok.fresh (l8 _))
theorem DM{g:TG}{tb:TS}{D:Ends}{σ:St}{H:Hp}{d:Addr}{o:Obj}{kvs:List (A0×V)}(Pv:Nat->St->Hp->Prop)(h0:Pv 0 σ H)(hf:∀i σ H,Pv i σ H->H d=some (.frz o (.dK kvs)))
  (hs:∀i k v σ H,kvs[i]? =some (k,v)->Pv i σ H->g (kV k) σ H fun σ2 H2=>tb {D with nx:=Pv (i+1),ct:=Pv (i+1),bk:=D.nx} σ2 H2)(hd:∀σ H,Pv kvs.length σ H->D.nx σ H):Mn g tb D σ (Itd d o kvs) H:=by
 refine⟨fun i m σ H=>m=kvs.length-i/\i<=kvs.length/\Pv i σ H,⟨kvs.length,by simp,o8 _,h0⟩,?_⟩
 rintro i m σ H ⟨rfl,hi,p⟩
 by_cases O2:i<kvs.length
 ·refine .inr ⟨⟨O2,hf i σ H p⟩,Pv (i+1),fun σ' H' p'=>⟨kvs.length-(i+1),by omega,rfl,O2,p'⟩,fun x H' y=> ?_⟩
  obtain⟨e,k,v,hk,y⟩:=y
  subst e y
  exact hs i k v σ _ hk p
 ·have e:i=kvs.length:=by omega
  subst e
  exact .inl ⟨⟨l8 _,hf _ σ H p⟩,hd σ H p⟩
def Fq:List Expr->Option (List Str)
 |[]=>some []
 | .Constant (.str z) _ _::r=>match Fq r with
  |some zs=>some (z::zs)
  |none=>none
 |_=>none
theorem IW{X:Cx}{es:List Expr}:∀{zs:List Str},Fq es=some zs->PA X es (fun _ H Q=>Q (zs.map V.str) H):=by
 induction es with
 |nil=>
  intro zs h
  cases h
  exact e6
 |cons x r ih=>
  intro zs h
  cases x with
  |Constant c k ps=>
   cases c with
   |str z=>
    rw[Fq] at h
    cases e:Fq r with
    |none=>rw[e] at h;cases h
    |some ys=>
     rw[e] at h
     cases h
     exact c5 (te:=fun _ H Q=>Q (.str z) H) K0 (ih e) rfl
   |_=>cases h
  |_=>cases h
theorem Qm{X:Cx}{i:Nat}{x:Str}{es:List Expr}{zs:List Str}{pos pos' pl:Pos}(hN:X.N.Nodup)(hi:X.N[i]? =some x)(hx:Loc X.env.scope x)(hz:Fq es=some zs)
  (hs:swapsWith (.List es pl) (some (.Name x pos')) pos.line X.env=pure false)(hf:X.fn x=true\/X.env.scope.names.lookup x=some .local):PS X (.Assign [.Name x pos'] (.List es pl) pos) (MH (KH (fun _ H Q=>Q (zs.map V.str) H)) (O3 i)):=
 k8 hN hi hx (@u6 _ _ _ _ (@IW _ _ _ hz)) hs hf
theorem YC{X:Cx}{st:Stmt}{C3:List Stmt}{t u:TS}(h1:PS X st t)(h2:Hm X C3 u):Hm X (st::C3) (Qc t u):=e7 h1 h2
section
variable {X:Cx}
theorem Fs:∀{zs:List Str} {us:List Value},u3 (zs.map V.str) us->StrsAre us zs
 |[],us,r=>by cases r;exact .nil
 |z::zs,us,r=>by
  cases r with
  |cons r0 rs=>
   obtain⟨t,rfl⟩:=r0
   exact .cons _ t (Fs rs)
theorem Ce:∀{zs:List Str} {us:List Value},StrsAre us zs->u3 (zs.map V.str) us
 |_,_, .nil=> .nil
 |_,_, .cons y t h=> .cons ⟨t,rfl⟩ (Ce h)
def OP(K:j6):V->List V->Hp->VK->Prop:=fun x vs H Q=>∃(p:Addr) (zs:List Str) (z:Str) (j:Nat),x= .ref p/\vs=[.str z]/\l7 K H p (zs.map V.str)/\zs[j]? =some z/\(∀i y,i<j->zs[i]? =some y->y≠z)/\Q (.int j) H
theorem So{zs:List Str}{us:List Value}{i:Nat}{u:Value}(r:u3 (zs.map V.str) us)(h:us[i]? =some u):∃y t,zs[i]? =some y/\u= .str y t:=by
 induction zs generalizing us i with
 |nil=>cases r;simp at h
 |cons z zs ih=>
  cases r with
  |cons r0 rs=>
   obtain⟨t,rfl⟩:=r0
   cases i with
   |zero=>simp at h;subst h;exact⟨z,t,rfl,rfl⟩
   |succ i=>exact ih rs (by simpa using h)
def isS(z:Str):Value->Bool
 | .str y _=>y==z
 |_=>false
theorem QC(K:j6)(hK:X.K=K:=by rfl):MtM X "list.index" (OP K):=by
 subst hK
 intro c4 s σ H x vs v us Q I rx rv h
 obtain⟨p,zs,z,j,rfl,rfl,hp,hj,hno,q⟩:=h
 cases rx
 obtain⟨u,rfl,t,rfl⟩:=rv.one
 obtain⟨n5,r,pl,hz⟩:=I.list hp
 obtain⟨⟨cls,dd,data,sl⟩,ho,hc,n,hd⟩:=id pl.isList
 simp only at hc hd
 subst hc hd
 have G1:n5.length=zs.length:=by rw[<-r.length,i4]
 have VW:j<n5.toArray.size:=by
  rw[C6,G1]
  exact(u4.mp hj).1
 have Pk:zs.length<=sizeLine:=by rw[i4] at hz;exact hz
 have szl:=B9
 have hjs:j<zs.length:=(u4.mp hj).1
 have at':∀(m:Nat) (hm:m<n5.toArray.size),∃y t',zs[m]? =some y/\n5.toArray[m]= .str y t':=fun m hm=>by
  obtain⟨y,t',e1,e2⟩:=So (i:=m) (u:=n5.toArray[m]) r (by simp)
  exact⟨y,t',e1,e2⟩
 refine En F.slot_list_index ⟨_,ho,rfl⟩ F.entry_list_index (F.args_list_index_2 _ _)
  (SeqAt.list_indexAt p n5.toArray n dd sl (.str z t) (isS z) j VW (by omega) ?_ ?_) ⟨ho,fun y hy=> ?_,⟨.int j,H,I.tok _,⟨_,rfl⟩,q⟩⟩
 ·obtain⟨y,t',e1,e2⟩:=at' j VW
  rw[e2]
  rw[hj] at e1
  cases e1
  show (z==z)=true
  simp
 ·intro m hm O2
  obtain⟨y,t',e1,e2⟩:=at' m hm
  rw[e2]
  show (y==z)=false
  simpa using hno m y O2 e1
 ·obtain⟨m,hm,rfl⟩:=Array.mem_iff_getElem.mp hy
  obtain⟨y,t',e1,e2⟩:=at' m hm
  rw[e2]
  exact UK y t' z t
section
variable {g:TG} {ti:TT} {te:TE} {Q:VK} {σ:St} {H:Hp} {pick:List (Option Nat)} {K:j6} {a:Addr}
theorem NC(xs:List V)(Pv:Nat->List V->St->Hp->Prop)(h0:Pv 0 [] (V8 pick σ) H)(hl:∀i ys σ H,i<=xs.length->Pv i ys σ H->l7 K H a xs/\ys.length<=sizeLine)
  (hs:∀(i:Nat) y T ys σ H,xs[i]? =some y->Pv i ys σ H->H T=none->g (.ref T) σ (i8 H T (.tup [.int i,y])) fun σ3 H3=>ti σ3 H3 fun b H4=>if b=true then te σ3 H4 fun v H5=>Pv (i+1) (ys++[v]) σ3 H5 else Pv (i+1) ys σ3 H4)
  (hd:∀ys σ H,Pv xs.length ys σ H->∀p,H p=none->Q (.ref p) (i8 H p (.lst ys))):BH pick g ti te Q σ (Ite K a) H:=by
 refine⟨fun i m ys σ H=>m=xs.length-i/\i<=xs.length/\Pv i ys σ H,⟨xs.length,by simp,o8 _,h0⟩,?_⟩
 rintro i m ys σ H ⟨rfl,hi,p⟩
 obtain⟨q,q2⟩:=hl i ys σ H hi p
 refine⟨q2,?_⟩
 by_cases O2:i<xs.length
 ·refine .inr ⟨⟨xs,xs[i],q,by simp [O2]⟩,Pv (i+1),fun zs σ' H' p'=>⟨xs.length-(i+1),by omega,rfl,O2,p'⟩,fun x H' y=> ?_⟩
  obtain⟨T,y,hT,e1,e2,e3⟩:=y
  subst e1 e2
  exact hs i y T ys σ H (e3 xs q) p hT
 ·have e:i=xs.length:=by omega
  subst e
  exact .inl ⟨⟨xs,q,l8 _⟩,hd ys σ H p⟩
end
end
section
variable {X:Cx} {tg:Expr}
def OO(a j c:Int):Int:=if a<j then (j-a-1)/c+1 else 0
theorem SZ{a j c:Int}(h:1<=c):Builtin.Range.rangeSize a j c=OO a j c:=by
 unfold Builtin.Range.rangeSize OO
 rw[if_pos (by omega)]
theorem ON{a j c:Int}(h:1<=c):0<=OO a j c:=by
 unfold OO
 split
 ·have:=Int.ediv_nonneg (a:=j-a-1) (b:=c) (by omega) (by omega)
  omega
 ·omega
theorem Qat{a j c:Int}(h:1<=c)(h0: -1000<=a)(h1:j<=1000):OO a j c<=2001:=by
 unfold OO
 split
 ·have:=Int.ediv_le_self (a:=j-a-1) c (by omega)
  omega
 ·omega
def Zc(ta:TA):TI:=fun σ H R=>ta σ H fun vs H1=>∃a j c:Int,vs=[.int a, .int j, .int c]/\(-1000<=a/\a<=1000/\ -1000<=j/\j<=1000/\1<=c/\c<=1000)/\R (Oq a c (OO a j c).toNat) H1
theorem Wo{a j c:Int}(h: -1000<=a/\a<=1000/\ -1000<=j/\j<=1000/\1<=c/\c<=1000):Builtin.Range.small a j c=true:=by
 obtain⟨h1,h2,h3,h4,h5,h6⟩:=h
 have e:=SZ (a:=a) (j:=j) h5
 have p:=ON (a:=a) (j:=j) h5
 have l:=Qat h5 h1 h4
 unfold Builtin.Range.small
 rw[e]
 generalize OO a j c=d at*
 simp only[Builtin.Range.rangeFitsLong,Q7,On,decide_eq_true_eq,Dn,show c>0 by omega,if_true]
 omega
theorem Qt{a b c:Expr}{ta:TA}{p pos:Pos}(hg:Gl X "range")(hm:X.mg "range"=none)(ha:PA X [a,b,c] ta)(hs:starEach [a,b,c] X.env=[(false,eval a X.env),(false,eval b X.env),(false,eval c X.env)]:=by rfl)
  (hs2:starEach [b,c] X.env=[(false,eval b X.env),(false,eval c X.env)]:=by rfl):PI X tg (.Call (.Name "range" p) [a,b,c] [] pos) (Zc ta):=by
 intro c4 s σ H R I h
 refine Call_ (Bm I hg hm boot_range (Io (G7 (ha pos c4 s σ H _ I h) fun us s1 ⟨vs,H1,I1,r1,q1⟩=> ?_) (by rw[hs,hs2]) (by rw[hs2];rfl)))
 obtain⟨lo,j,c',e,hq,q⟩:=q1
 have q3:=hq.2.2.2.2.1
 have q4:=hq.2.2.2.2.2
 subst e
 cases r1 with
 |cons r rr=>
  cases rr with
  |cons r' rr=>
   cases rr with
   |cons r'' rr=>
    cases rr
    obtain⟨t,rfl⟩:=r
    obtain⟨t',rfl⟩:=r'
    obtain⟨t'',rfl⟩:=r''
    refine call_range_3 (by omega) ?_ (Or.inl (Zw (by omega)))
    refine wpAny_pyIter_range (IsRange.new ..) (Wo hq) ?_
    have I2:Inw X c4 σ H1 {s1 with heap:=s1.heap.push {cls:= .type "range",data:= .fields #[.int lo t, .int j t', .int c' t'']},toks:=s1.toks}:=I1.kept fun b o e=>q0 _ e
    have hz:=ON (a:=lo) (j:=j) q3
    refine⟨_,[_],_,_,H1,rfl,I2.kept (t':=s1.toks) fun b o e=>q0 _ e,KC _ lo c' (OO lo j c').toNat,?_,fun b hb=> ?_,q⟩
    ·show IsRangeIter _ _ (lo+((0:Nat):Int)*c') (((OO lo j c').toNat:Int)-((0:Nat):Int)) c'
     have e1:lo+((0:Nat):Int)*c'=lo:=by simp
     have e2:(((OO lo j c').toNat:Int)-((0:Nat):Int))=Builtin.Range.rangeSize lo j c':=by rw[SZ q3];omega
     rw[e1,e2]
     exact C7 _ rfl
    ·have e:=x8.mp hb
     subst e
     exact I2.fpOk (l8 _) (I2.hok.fresh (l8 _))
end
def Itv(K:j6)(a:Addr)(xs:List V):It:=⟨fun i H=>i<xs.length/\l7 K H a xs,fun i H x H'=>H'=H/\xs[xs.length-1-i]? =some x,fun i H=>i=xs.length/\l7 K H a xs⟩
theorem Sb{P:Program}{w:World}{K:j6}{tg:Expr}(a it:Addr)(xs:List V):Turn P w K tg (Itv K a xs) [it] it (fun i h=>h.IsRevIter it a ((xs.length:Int)-1-(i:Int))) where
 mem:=by simp
 obj:=fun i h st b hb=>by
  have e:b=it:=by simpa using hb
  subst e
  obtain⟨o,e,c,d⟩:=st
  exact⟨o,e,fun v z=>by rw[d] at z;cases z⟩
 keep:=fun i h h' st k=>st.at fun o e=>k it (by simp) o e
 item:=by
  intro X hP hw hK hc i c4 s σ H E I hf st hg
  subst hP hw hK
  obtain⟨hi,hq⟩:=hg
  obtain⟨n5,rv,p,hz⟩:=I.list hq
  have hx:xs[xs.length-1-i]? =some (xs[xs.length-1-i]'(by omega)):=E5 (by omega)
  obtain⟨u,hu,ru⟩:=rv.get hx
  obtain⟨f0,f1,f2,f3,f4,f5⟩:=hf it (by simp)
  have e1:(xs.length:Int)-1-(i:Int)=((xs.length-1-i:Nat):Int):=by omega
  rw[e1] at st
  refine wpAny_pyNext_rev_item st p.isList (x:=u) (by simpa using hu) fun h' st' sb=> ?_
  have I1:Inw X c4 σ H {s with heap:=h'}:=I.turned (t':=s.toks) (fun b o hb e=>(sb.2 b hb).trans e) f0 f1 f3 f4 f5
  have e2:((xs.length-1-i:Nat):Int)-1=(xs.length:Int)-1-((i+1:Nat):Int):=by omega
  rw[e2] at st'
  obtain⟨o,e,c,d⟩:=id st'
  exact⟨u,rfl,FP (s:={s with heap:=h'}) e c d (by decide) ⟨_,H,I1,ru,⟨rfl,hx⟩,st',fun b hb=>(hf b hb).1⟩⟩
 done:=by
  intro X hP hw hK hc i c4 s σ H E I hf st hg
  subst hP hw hK
  obtain⟨hi,hq⟩:=hg
  obtain⟨f0,f1,f2,f3,f4,f5⟩:=hf it (by simp)
  have e1:(xs.length:Int)-1-(i:Int)= -1:=by omega
  rw[e1] at st
  exact wpAny_pyNext_rev_end (I.ok.hd hc) st fun h' eb=>⟨rfl,I.turned (t':=s.toks) (fun b o hb e=>eb b o hb e) f0 f1 f3 f4 f5⟩
 self:=fun _ _ _ _ _ st h=>wpAny_pyIter_revIter st h
def Qcr(K:j6)(ta:TA):TI:=fun σ H R=>ta σ H fun vs H1=>∃(a:Addr) (xs:List V),vs=[.ref a]/\l7 K H1 a xs/\R (Itv K a xs) H1
theorem boot_reversed:bootBuiltins "reversed"=some (.type "reversed"):=by decide+kernel
theorem QaA{X:Cx}{tg a:Expr}{ta:TA}{p pos:Pos}(hg:Gl X "reversed")(hm:X.mg "reversed"=none)(ha:PA X [a] ta)(hs:starEach [a] X.env=[(false,eval a X.env)]:=by rfl):
  PI X tg (.Call (.Name "reversed" p) [a] [] pos) (Qcr X.K ta):=by
 intro c4 s σ H R I h
 refine Call_ (Bm I hg hm boot_reversed (Io (G7 (ha pos c4 s σ H _ I h) fun us s1 ⟨vs,H1,I1,r1,q1⟩=> ?_) (by rw[hs];rfl) (by rfl)))
 obtain⟨l,xs,e,hq,q⟩:=q1
 subst e
 obtain⟨u,rfl,ru⟩:=vals1 r1
 cases ru
 obtain⟨n5,rv,pl,hz⟩:=I1.list hq
 have G1:=rv.length
 refine call_reversed_list pl.isList ?_
 have I2:Inw X c4 σ H1 {s1 with heap:=s1.heap.push (revObj l ((n5.toArray.size:Int)-1)),toks:=s1.toks}:=I1.kept fun b o e=>q0 _ e
 have st:(s1.heap.push (revObj l ((n5.toArray.size:Int)-1))).IsRevIter s1.heap.objs.size l ((xs.length:Int)-1-((0:Nat):Int)):=by
  refine⟨_,C7 _ rfl,rfl,?_⟩
  rw[C6,<-G1]
  show Data.fields #[.ref l,rawInt ((xs.length:Int)-1)]=_
  congr 3
  simp
 refine wpAny_pyIter_revIter st ?_
 refine⟨s1.heap.objs.size,[s1.heap.objs.size],_,_,H1,rfl,I2,Sb l _ xs,st,fun b hb=> ?_,q⟩
 have e:b=s1.heap.objs.size:=by simpa using hb
 subst e
 exact I1.fpOk (l8 _) (I1.hok.fresh (l8 _))
section
variable {g:TG} {ti:TT} {te:TE} {Q:VK} {σ:St} {H:Hp} {pick:List (Option Nat)} {K:j6} {a:Addr}
theorem Rk{xs:List V}(Pv:Nat->List V->St->Hp->Prop)(h0:Pv 0 [] (V8 pick σ) H)(hl:∀i ys σ H,i<=xs.length->Pv i ys σ H->l7 K H a xs/\ys.length<=sizeLine)
  (hs:∀(i:Nat) x ys σ H,i<xs.length->xs[xs.length-1-i]? =some x->Pv i ys σ H->g x σ H fun σ3 H3=>ti σ3 H3 fun b H4=>if b=true then te σ3 H4 fun v H5=>Pv (i+1) (ys++[v]) σ3 H5 else Pv (i+1) ys σ3 H4)
  (hd:∀ys σ H,Pv xs.length ys σ H->∀p,H p=none->Q (.ref p) (i8 H p (.lst ys))):BH pick g ti te Q σ (Itv K a xs) H:=by
 refine⟨fun i m ys σ H=>m=xs.length-i/\i<=xs.length/\Pv i ys σ H,⟨xs.length,by simp,o8 _,h0⟩,?_⟩
 rintro i m ys σ H ⟨rfl,hi,p⟩
 obtain⟨q,q2⟩:=hl i ys σ H hi p
 refine⟨q2,?_⟩
 by_cases O2:i<xs.length
 ·refine .inr ⟨⟨O2,q⟩,Pv (i+1),fun zs σ' H' p'=>⟨xs.length-(i+1),by omega,rfl,O2,p'⟩,fun x H' y=> ?_⟩
  obtain⟨e1,e2⟩:=y
  subst e1
  exact hs i x ys σ _ O2 e2 p
 ·have e:i=xs.length:=by omega
  subst e
  exact .inl ⟨⟨rfl,q⟩,hd ys σ H p⟩
end
section
variable {X:Cx}
end
structure LamScope(x y:Str)(sc:Scope):Prop where
 kind:sc.kind= .function
 co:sc.isCoroutine=false
 gen:sc.isGenerator=false
 ne:y≠x
 par:sc.names.lookup y=some .local
 fre:sc.names.lookup x=some .free
 nocell:∀z∈sc.names,z.2≠ .cell
 only:∀z,sc.names.lookup z=some .free->z=x
theorem TM{x z:Str}{c d:Addr}(h:([(x,c)]:List (Str×Addr)).lookup z=some d):z=x/\d=c:=by
 rw[P0] at h
 by_cases q:(z==x)=true
 ·rw[q] at h;exact⟨Dn.mp q,(R7 h).symm⟩
 ·rw[CA.mpr q] at h;cases h
section
variable {X:Cx} {CX:Mu} {k:Nat} {f:Addr} {fd:FuncData} {ps:List Str} {sp:Sp} {dvs:List V} {ds:List Value} {E:XK}
end
section
variable {X:Cx} {CX:Mu} {k:Nat} {f:Addr} {fd:FuncData} {ps:List Str} {E:XK}
end
section
variable {X:Cx}
end
structure KD(P:Program)(w:World)(K:j6)(d:Addr)(kvs:List (A0×V)):Prop where
 ex:∃(o:Obj) (es:Array DictEntry) (ep:Nat) (vs:List (A0×Value)),K.lookup d=some o/\o.ExactDict/\o.data= .dict es ep/\PySem.KeysOf (o6 P w) es/\PySem.Pairs (o6 P w) es.toList vs/\(vs.map (·.1)).Nodup/\KV kvs vs
 sm:(d==sysModules)=false
section
variable {X:Cx} {d:Addr} {kvs:List (A0×V)}
end
section
variable {X:Cx}
end
section
variable {X:Cx}
theorem Rq:P8 X (.type "int") (fun xs H Q=>∃b:Bool,xs=[.bl b]/\Q (.int (if b then 1 else 0)) H):=by
 intro c4 s σ H xs us Q I r h
 obtain⟨b,rfl,q⟩:=h
 obtain⟨u,rfl,ru⟩:=vals1 r
 cases ru
 exact call_int_bool ⟨.int _,H,I.tok _,⟨_,rfl⟩,q⟩
end
section
variable {H:Hp}
end
theorem w5{x:Str}{p:Pos}{es:List Expr}{env:Env}:starEach (Expr.Name x p::es) env=(false,eval (Expr.Name x p) env)::starEach es env:=rfl
theorem Dw{a b:Expr}{p:Pos}{es:List Expr}{env:Env}:starEach (Expr.Subscript a b p::es) env=(false,eval (Expr.Subscript a b p) env)::starEach es env:=rfl
theorem V2{a:Expr}{b:List Expr}{c:List Keyword}{p:Pos}{es:List Expr}{env:Env}:starEach (Expr.Call a b c p::es) env=(false,eval (Expr.Call a b c p) env)::starEach es env:=rfl
section
variable {X:Cx}
end
section
variable {prog:Program} {w:World} {A:Around} {E:Value->Shared->Prop} {s:Shared}
theorem WZ{j b:Addr}{n:Nat}{vs:Array Value}{x:Value}{Q:Value->Shared->Prop}(g:s.heap.IsTupleIter j b n)(gt:s.heap.IsTuple b vs)(gx:vs[n]? =some x)
  (q:∀h2,h2.IsTupleIter j b (n+1)->Heap.SameBut j s.heap h2->Q x {s with heap:=h2}):wpAny (model prog w) A (Builtin.SmallTypes.nextOf (.ref j)) Q E s:=by
 obtain⟨o1,g1,gc,gd⟩:=id g
 obtain⟨o2,g2,_,m,gm⟩:=gt
 unfold Builtin.SmallTypes.nextOf
 refine e8 (Kh (name:=Str.ofString "__next__") g.typeIs Kg (Cz Kg g.typeIs VB ?_ (VA _)))
 show wpAny _ _ (field (.ref j) 0>>=_) _ _ s
 refine e8 (O9 g1 gd (x:= .ref b) rfl ?_)
 show wpAny _ _ (if (Value.ref b==Value.none)=true then _ else _) _ _ s
 rw[if_neg (show ¬((Value.ref b==Value.none)=true) from K3)]
 show wpAny _ _ (field (.ref j) 1>>=_) _ _ s
 refine e8 (O9 g1 gd (x:= .int n 0) rfl ?_)
 show wpAny _ _ (seqItems? (.ref b)>>=_) _ _ s
 refine e8 (By g2 gm ?_)
 simp only[Md,gx]
 refine e8 (Gz g1 gd (by simp) (l0 ⟨x,rfl,l0 (q _ ?_ (Heap.SameBut.update ..))⟩))
 exact⟨_,Kl _ g1 (Oj (El gd _)),(Obj.cls_mapFields ..).trans gc,by rw[El gd];simp [rawInt]⟩
theorem Qa1{j b:Addr}{n:Nat}{vs:Array Value}{Q:Value->Shared->Prop}(ha:A.handled=none)(g:s.heap.IsTupleIter j b n)(gt:s.heap.IsTuple b vs)(gx:vs[n]? =none)
  (q:∀h2 e,Heap.ExtBut j s.heap h2->(∃o,h2.get? e=some o/\o.cls= .type "StopIteration")->E (.ref e) {s with heap:=h2}):wpAny (model prog w) A (Builtin.SmallTypes.nextOf (.ref j)) Q E s:=by
 obtain⟨o1,g1,gc,gd⟩:=id g
 obtain⟨o2,g2,_,m,gm⟩:=gt
 unfold Builtin.SmallTypes.nextOf
 refine e8 (Kh (name:=Str.ofString "__next__") g.typeIs Kg (Cz Kg g.typeIs VB ?_ (VA _)))
 show wpAny _ _ (field (.ref j) 0>>=_) _ _ s
 refine e8 (O9 g1 gd (x:= .ref b) rfl ?_)
 show wpAny _ _ (if (Value.ref b==Value.none)=true then _ else _) _ _ s
 rw[if_neg (show ¬((Value.ref b==Value.none)=true) from K3)]
 show wpAny _ _ (field (.ref j) 1>>=_) _ _ s
 refine e8 (O9 g1 gd (x:= .int n 0) rfl ?_)
 show wpAny _ _ (seqItems? (.ref b)>>=_) _ _ s
 refine e8 (By g2 gm ?_)
 simp only[Md,gx]
 refine e8 (Ah (e8 (Gz g1 gd (by simp) ?_)))
 refine e8 (m:=newExc (.type "StopIteration") []) ?_
 simp only[newExc,newTuple]
 refine e8 (GG (e8 (m:=firstArgMember _ _) (wpAny_of_eq (a:=Value.none) (by first|rfl|(simp only[firstArgMember];rfl)) (GG ?_ (by size_fits)))) (by size_fits))
 simp only[raiseNew]
 refine e8 (wpAny_handled ?_)
 first|rw[show A.in1.handled=none from ha]|rw[ha]
 exact e8 (l0 (wpAny_throw (q _ _ (((Heap.SameBut.update ..).extBut.push _).push _) ⟨_,C7 _ rfl,rfl⟩)))
end
def O1(tp:Bool)(i l:Addr)(xs:Array Value)(k:Nat)(h:Heap):Prop:=if tp=true then h.IsTupleIter i l k/\h.IsTuple l xs else h.IsListIter i l k/\h.IsList l xs
theorem O1.keep{tp:Bool}{i l:Addr}{xs:Array Value}{k:Nat}{h h':Heap}(q:O1 tp i l xs k h)(k1:∀o,h.get? i=some o->h'.get? i=some o)(k2:∀o,h.get? l=some o->h'.get? l=some o):O1 tp i l xs k h':=by
 cases tp with
 |true=>exact⟨q.1.at k1,q.2.at k2⟩
 |false=>exact⟨q.1.at k1,q.2.at k2⟩
section
variable {prog:Program} {w:World} {A:Around} {E:Value->Shared->Prop} {s:Shared}
theorem O1.item{tp:Bool}{i l:Addr}{xs:Array Value}{k:Nat}{x:Value}{Q:Value->Shared->Prop}(g:O1 tp i l xs k s.heap)(ne:l≠i)(gx:xs[k]? =some x)
  (q:∀h2,O1 tp i l xs (k+1) h2->Heap.SameBut i s.heap h2->Q x {s with heap:=h2}):wpAny (model prog w) A (Builtin.SmallTypes.nextOf (.ref i)) Q E s:=by
 cases tp with
 |true=>exact WZ g.1 g.2 gx fun h2 a b=>q h2 ⟨a,g.2.at fun o e=>b.extBut _ o ne e⟩ b
 |false=>exact wpAny_nextOf_list_item g.1 g.2 gx fun h2 a b=>q h2 ⟨a,g.2.at fun o e=>b.extBut _ o ne e⟩ b
theorem O1.done{tp:Bool}{i l:Addr}{xs:Array Value}{k:Nat}{Q:Value->Shared->Prop}(ha:A.handled=none)(g:O1 tp i l xs k s.heap)(gx:xs[k]? =none)
  (q:∀h2 e,Heap.ExtBut i s.heap h2->(∃o,h2.get? e=some o/\o.cls= .type "StopIteration")->E (.ref e) {s with heap:=h2}):wpAny (model prog w) A (Builtin.SmallTypes.nextOf (.ref i)) Q E s:=by
 cases tp with
 |true=>exact Qa1 ha g.1 g.2 gx q
 |false=>exact wpAny_nextOf_list_end ha g.1 g.2 gx q
structure ZA(z a b i1 i2 l1 l2:Addr):Prop where
 az:a≠z
 bz:b≠z
 iz:i1≠z
 jz:i2≠z
 ab:a≠b
 ai:a≠i1
 aj:a≠i2
 bi:b≠i1
 bj:b≠i2
 ij:i1≠i2
 lz:l1≠z
 lb:l1≠b
 li:l1≠i1
 lj:l1≠i2
 mz:l2≠z
 mb:l2≠b
 mi:l2≠i1
 mj:l2≠i2
theorem Wc{t1 t2:Bool}{z a b i1 i2 l1 l2:Addr}{k:Nat}{xs ys:Array Value}{x y p q:Value}{Q:Value->Shared->Prop}(D:ZA z a b i1 i2 l1 l2)(hz:IsZip s.heap z a b .none)(ha:IsPair s.heap a (.ref i1) (.ref i2))(hb:IsPair s.heap b p q)
  (g1:O1 t1 i1 l1 xs k s.heap)(g2:O1 t2 i2 l2 ys k s.heap)(hx:xs[k]? =some x)(hy:ys[k]? =some y)
  (hQ:∀h',IsZip h' z a b (rawInt s.heap.objs.size)->IsPair h' b x y->O1 t1 i1 l1 xs (k+1) h'->O1 t2 i2 l2 ys (k+1) h'->IsPair h' s.heap.objs.size x y->
   (∀c o,c≠z->c≠b->c≠i1->c≠i2->s.heap.get? c=some o->h'.get? c=some o)->Q (.ref s.heap.objs.size) {s with heap:=h'}):
  wpAny (model prog w) A (Builtin.«zip.__next__» ⟨[.ref z],[]⟩) (fun fin s'=>∃v,fin= .done (.ret v)/\Q v s') E s:=by
 refine e8 (m:=field (.ref z) 2) (O9 hz rfl (x:= .bool false) rfl ?_)
 refine e8 (m:=field (.ref z) 3) (O9 hz rfl (x:= .ref a) rfl (e8 (By ha rfl ?_)))
 refine e8 (m:=Builtin.SmallTypes.ownedTupleIsFree (.ref z)) ?_
 unfold Builtin.SmallTypes.ownedTupleIsFree
 refine e8 (O9 hz rfl (x:= .none) rfl (l0 ?_))
 simp only[if_true]
 refine e8 (Ah (e8 (O9 hz rfl (x:= .ref b) rfl (e8 (Ei hz (by simp) fun k₁ z₁ c₁=> ?_)))))
 replace z₁:IsZip k₁ z a b .ellipsis:=z₁
 refine e8 ?_
 simp only[Od,List.zipIdx_nil,Oo,List.forIn_nil]
 refine e8 (e8 (Gy (e8 (m:=Builtin.SmallTypes.nextOf (.ref i1)) ?_)))
 refine O1.item (g1.keep (fun o e=>c₁.extBut _ o D.iz e) fun o e=>c₁.extBut _ o D.lz e) D.li hx fun k₂ m₂ c₂=>l0 ?_
 have b₂:IsPair k₂ b p q:=c₂.extBut _ _ D.bi (c₁.extBut _ _ D.bz hb)
 refine e8 (By b₂ rfl (e8 (Oc b₂ fun k₃ b₃ c₃=> ?_)))
 replace b₃:IsPair k₃ b x q:=b₃
 refine e8 (wpAny_letGo (l0 (e8 (e8 (Gy (e8 (m:=Builtin.SmallTypes.nextOf (.ref i2)) ?_))))))
 have g2':O1 t2 i2 l2 ys k k₃:=g2.keep (fun o e=>c₃.extBut _ o D.bj.symm (c₂.extBut _ o D.ij.symm (c₁.extBut _ o D.jz e))) fun o e=>c₃.extBut _ o D.mb (c₂.extBut _ o D.mi (c₁.extBut _ o D.mz e))
 refine O1.item (s:={s with heap:=k₃}) g2' D.mj hy fun k₄ m₄ c₄=>l0 ?_
 have b₄:IsPair k₄ b x q:=c₄.extBut _ _ D.bj b₃
 refine e8 (By b₄ rfl (e8 (Oc b₄ fun k₅ b₅ c₅=> ?_)))
 replace b₅:IsPair k₅ b x y:=b₅
 refine e8 (wpAny_letGo (l0 (l0 (e8 (By b₅ rfl (e8 (wpAny_newTuple ?_)))))))
 have sz:k₅.objs.size=s.heap.objs.size:=by rw[c₅.1,c₄.1,c₃.1,c₂.1,c₁.1]
 have z₅:IsZip k₅ z a b .ellipsis:=c₅.extBut _ _ D.bz.symm (c₄.extBut _ _ D.jz.symm (c₃.extBut _ _ D.bz.symm (c₂.extBut _ _ D.iz.symm z₁)))
 have r₅:∀c o,c≠z->c≠b->c≠i1->c≠i2->s.heap.get? c=some o->k₅.get? c=some o:=fun c o n1 n2 n3 n4 e=>
  c₅.extBut _ _ n2 (c₄.extBut _ _ n4 (c₃.extBut _ _ n2 (c₂.extBut _ _ n3 (c₁.extBut _ _ n1 e))))
 have s1₅:O1 t1 i1 l1 xs (k+1) k₅:=m₂.keep (fun o e=>c₅.extBut _ o D.bi.symm (c₄.extBut _ o D.ij (c₃.extBut _ o D.bi.symm e))) fun o e=>c₅.extBut _ o D.lb (c₄.extBut _ o D.lj (c₃.extBut _ o D.lb e))
 have s2₅:O1 t2 i2 l2 ys (k+1) k₅:=m₄.keep (fun o e=>c₅.extBut _ o D.bj.symm e) fun o e=>c₅.extBut _ o D.mb e
 refine e8 (m:=Builtin.SmallTypes.ownedTupleHandOut (.ref z) (.ref k₅.objs.size)) ?_
 unfold Builtin.SmallTypes.ownedTupleHandOut
 have z₆:IsZip (k₅.push {cls:= .type "tuple",data:= .seq #[x,y]}) z a b .ellipsis:=q0 _ z₅
 refine e8 (Ei z₆ (by simp) fun k₇ z₇ c₇=> ?_)
 replace z₇:IsZip k₇ z a b (rawInt k₅.objs.size):=z₇
 refine Ei z₇ (by simp) fun k₈ z₈ c₈=> ?_
 replace z₈:IsZip k₈ z a b (rawInt k₅.objs.size):=z₈
 have up:∀c o,c≠z->k₅.get? c=some o->k₈.get? c=some o:=fun c o n1 e=>c₈.extBut _ _ n1 (c₇.extBut _ _ n1 (q0 _ e))
 have zl:z<k₅.objs.size:=A1 z₅
 have p₈:IsPair k₈ k₅.objs.size x y:=c₈.extBut _ _ (Av zl) (c₇.extBut _ _ (Av zl) (C7 _ rfl))
 rw[sz] at z₈ p₈
 refine l0 ⟨_,rfl,?_⟩
 show Q (.ref k₅.objs.size) _
 rw[sz]
 exact hQ k₈ z₈ (up _ _ D.bz b₅) (s1₅.keep (fun o e=>up _ o D.iz e) fun o e=>up _ o D.lz e) (s2₅.keep (fun o e=>up _ o D.jz e) fun o e=>up _ o D.mz e) p₈ fun c o n1 n2 n3 n4 e=>up c o n1 (r₅ c o n1 n2 n3 n4 e)
theorem ZE{t1 t2:Bool}{z a b i1 i2 l1 l2:Addr}{k:Nat}{xs ys:Array Value}{p q:Value}{Q:Fin->Shared->Prop}(hh:A.handled=none)(D:ZA z a b i1 i2 l1 l2)(hz:IsZip s.heap z a b .none)(ha:IsPair s.heap a (.ref i1) (.ref i2))(hb:IsPair s.heap b p q)
  (g1:O1 t1 i1 l1 xs k s.heap)(g2:O1 t2 i2 l2 ys k s.heap)(Nq:xs[k]? =none\/ys[k]? =none)
  (hE:∀h' e,(∀c o,c≠z->c≠b->c≠i1->c≠i2->s.heap.get? c=some o->h'.get? c=some o)->(∃o,h'.get? e=some o/\o.cls= .type "StopIteration")->E (.ref e) {s with heap:=h'}):
  wpAny (model prog w) A (Builtin.«zip.__next__» ⟨[.ref z],[]⟩) Q E s:=by
 refine e8 (m:=field (.ref z) 2) (O9 hz rfl (x:= .bool false) rfl ?_)
 refine e8 (m:=field (.ref z) 3) (O9 hz rfl (x:= .ref a) rfl (e8 (By ha rfl ?_)))
 refine e8 (m:=Builtin.SmallTypes.ownedTupleIsFree (.ref z)) ?_
 unfold Builtin.SmallTypes.ownedTupleIsFree
 refine e8 (O9 hz rfl (x:= .none) rfl (l0 ?_))
 simp only[if_true]
 refine e8 (Ah (e8 (O9 hz rfl (x:= .ref b) rfl (e8 (Ei hz (by simp) fun k₁ z₁ c₁=> ?_)))))
 replace z₁:IsZip k₁ z a b .ellipsis:=z₁
 refine e8 ?_
 simp only[Od,List.zipIdx_nil,Oo,List.forIn_nil]
 refine e8 (e8 (Gy (e8 (m:=Builtin.SmallTypes.nextOf (.ref i1)) ?_)))
 have g1':O1 t1 i1 l1 xs k k₁:=g1.keep (fun o e=>c₁.extBut _ o D.iz e) fun o e=>c₁.extBut _ o D.lz e
 cases hx:xs[k]? with
 |none=>
  refine O1.done (s:={s with heap:=k₁}) hh g1' hx fun k₂ e c₂ he=> ?_
  obtain⟨oe,e1,e2⟩:=he
  have z₂:IsZip k₂ z a b .ellipsis:=c₂ _ _ D.iz.symm z₁
  have ez:e≠z:=fun x=>by subst x;rw[z₂] at e1;cases e1;simp at e2
  exact Ei z₂ (by simp) fun k₃ _ c₃=>hE k₃ e (fun c o n1 _ n3 _ x=>c₃.extBut _ _ n1 (c₂ _ _ n3 (c₁.extBut _ _ n1 x))) ⟨oe,c₃.extBut _ _ ez e1,e2⟩
 |some x=>
  have hy:ys[k]? =none:=by
   rcases Nq with h|h
   ·rw[hx] at h;cases h
   ·exact h
  refine O1.item (s:={s with heap:=k₁}) g1' D.li hx fun k₂ m₂ c₂=>l0 ?_
  have b₂:IsPair k₂ b p q:=c₂.extBut _ _ D.bi (c₁.extBut _ _ D.bz hb)
  refine e8 (By b₂ rfl (e8 (Oc b₂ fun k₃ b₃ c₃=> ?_)))
  refine e8 (wpAny_letGo (l0 (e8 (e8 (Gy (e8 (m:=Builtin.SmallTypes.nextOf (.ref i2)) ?_))))))
  have g2':O1 t2 i2 l2 ys k k₃:=g2.keep (fun o e=>c₃.extBut _ o D.bj.symm (c₂.extBut _ o D.ij.symm (c₁.extBut _ o D.jz e))) fun o e=>c₃.extBut _ o D.mb (c₂.extBut _ o D.mi (c₁.extBut _ o D.mz e))
  refine O1.done (s:={s with heap:=k₃}) hh g2' hy fun k₄ e c₄ he=> ?_
  obtain⟨oe,e1,e2⟩:=he
  have z₄:IsZip k₄ z a b .ellipsis:=c₄ _ _ D.jz.symm (c₃.extBut _ _ D.bz.symm (c₂.extBut _ _ D.iz.symm z₁))
  have ez:e≠z:=fun x=>by subst x;rw[z₄] at e1;cases e1;simp at e2
  exact Ei z₄ (by simp) fun k₅ _ c₅=>hE k₅ e (fun c o n1 n2 n3 n4 x=>c₅.extBut _ _ n1 (c₄ _ _ n4 (c₃.extBut _ _ n2 (c₂.extBut _ _ n3 (c₁.extBut _ _ n1 x))))) ⟨oe,c₅.extBut _ _ ez e1,e2⟩
end
def itO(tp:Bool)(l:Addr):Obj:=if tp=true then {cls:= .type "tuple_iterator",data:= .fields #[.ref l, .int 0 0]} else {cls:= .type "list_iterator",data:= .fields #[.ref l, .int 0 0]}
def Sq(tp:Bool)(l:Addr)(xs:Array Value)(h:Heap):Prop:=if tp=true then h.IsTuple l xs else h.IsList l xs
abbrev zh1(h:Heap)(t1:Bool)(l1:Addr):Heap:=h.push (itO t1 l1)
abbrev zh2(h:Heap)(t1 t2:Bool)(l1 l2:Addr):Heap:=(zh1 h t1 l1).push (itO t2 l2)
abbrev zh3(h:Heap)(t1 t2:Bool)(l1 l2:Addr):Heap:=(zh2 h t1 t2 l1 l2).push {cls:= .type "tuple",data:= .seq #[.ref h.objs.size, .ref (zh1 h t1 l1).objs.size]}
abbrev zh4(h:Heap)(t1 t2:Bool)(l1 l2:Addr):Heap:=(zh3 h t1 t2 l1 l2).push {cls:= .type "tuple",data:= .seq #[.none, .none]}
abbrev ZF(h:Heap)(t1 t2:Bool)(l1 l2:Addr):Heap:=(zh4 h t1 t2 l1 l2).push {cls:= .type "zip",data:= .fields #[.none, .bool false, .bool false, .ref (zh2 h t1 t2 l1 l2).objs.size, .ref (zh3 h t1 t2 l1 l2).objs.size]}
theorem MZ(t1 t2:Bool)(l1 l2:Addr)(xs ys:Array Value):Meets (Builtin.«zip.__new__» ⟨[.type "zip", .ref l1, .ref l2],[]⟩) (fun _ R s=>Sq t1 l1 xs s.heap/\Sq t2 l2 ys s.heap/\
   R (.ok (.ret (.ref (zh4 s.heap t1 t2 l1 l2).objs.size))) {s with heap:=ZF s.heap t1 t2 l1 l2}):=
 .of_wp fun prog w A R s h=>by
  obtain⟨hp,g,d,tk,os⟩:=s
  obtain⟨m1,m2,h⟩:=h
  have GZ:=sub_zip
  cases t1 with
  |true=>
   have n1:Heap.IsTuple (Shared.heap ⟨hp,g,d,tk,os⟩) l1 xs:=m1
   cases t2 with
   |true=>
    have n2:Heap.IsTuple (Shared.heap ⟨hp.push {cls:= .type "tuple_iterator",data:= .fields #[.ref l1, .int 0 0]},g,d,tk,os⟩) l2 ys:=Kf m2 fun o e=>q0 _ e
    wp_walk using Ke n1,Ke n2
    exact⟨_,rfl,h⟩
   |false=>
    have n2:Heap.IsList (Shared.heap ⟨hp.push {cls:= .type "tuple_iterator",data:= .fields #[.ref l1, .int 0 0]},g,d,tk,os⟩) l2 ys:=Kd m2 fun o e=>q0 _ e
    wp_walk using Ke n1,Gg n2
    exact⟨_,rfl,h⟩
  |false=>
   have n1:Heap.IsList (Shared.heap ⟨hp,g,d,tk,os⟩) l1 xs:=m1
   cases t2 with
   |true=>
    have n2:Heap.IsTuple (Shared.heap ⟨hp.push {cls:= .type "list_iterator",data:= .fields #[.ref l1, .int 0 0]},g,d,tk,os⟩) l2 ys:=Kf m2 fun o e=>q0 _ e
    wp_walk using Gg n1,Ke n2
    exact⟨_,rfl,h⟩
   |false=>
    have n2:Heap.IsList (Shared.heap ⟨hp.push {cls:= .type "list_iterator",data:= .fields #[.ref l1, .int 0 0]},g,d,tk,os⟩) l2 ys:=Kd m2 fun o e=>q0 _ e
    wp_walk using Gg n1,Gg n2
    exact⟨_,rfl,h⟩
section
variable {prog:Program} {w:World} {A:Around} {E:Value->Shared->Prop} {s:Shared}
theorem Rm{t1 t2:Bool}{l1 l2:Addr}{xs ys:Array Value}{Q:Value->Shared->Prop}(m1:Sq t1 l1 xs s.heap)(m2:Sq t2 l2 ys s.heap)
  (h:∀h',IsZip h' (s.heap.objs.size+4) (s.heap.objs.size+2) (s.heap.objs.size+3) .none->IsPair h' (s.heap.objs.size+2) (.ref s.heap.objs.size) (.ref (s.heap.objs.size+1))->
   IsPair h' (s.heap.objs.size+3) .none .none->O1 t1 s.heap.objs.size l1 xs 0 h'->O1 t2 (s.heap.objs.size+1) l2 ys 0 h'->(∀c o,s.heap.get? c=some o->h'.get? c=some o)->Q (.ref (s.heap.objs.size+4)) {s with heap:=h'}):
  wpAny (model prog w) A (call (.type "zip") [.ref l1, .ref l2]) Q E s:=by
 refine callType_new F.called_zip (by decide) (F.typeCall_zip_2 _ _) (F.newCall_zip_2 _ _) (fun obj=>F.args_object_init_3 obj _ _) F.entry_zip_new (MZ t1 t2 l1 l2 xs ys) ⟨m1,m2,?_⟩
 have z1:(zh1 s.heap t1 l1).objs.size=s.heap.objs.size+1:=EG ..
 have z2:(zh2 s.heap t1 t2 l1 l2).objs.size=s.heap.objs.size+2:=by rw[EG,z1]
 have z3:(zh3 s.heap t1 t2 l1 l2).objs.size=s.heap.objs.size+3:=by rw[EG,z2]
 have z4:(zh4 s.heap t1 t2 l1 l2).objs.size=s.heap.objs.size+4:=by rw[EG,z3]
 have fz:∀tp l,(itO tp l).isFreed=false:=fun tp l=>by cases tp<;>rfl
 have g5:(ZF s.heap t1 t2 l1 l2).get? (zh4 s.heap t1 t2 l1 l2).objs.size=some _:=C7 _ rfl
 have g4:(ZF s.heap t1 t2 l1 l2).get? (zh3 s.heap t1 t2 l1 l2).objs.size=some _:=q0 _ (C7 _ rfl)
 have g3:(ZF s.heap t1 t2 l1 l2).get? (zh2 s.heap t1 t2 l1 l2).objs.size=some _:=q0 _ (q0 _ (C7 _ rfl))
 have g2:(ZF s.heap t1 t2 l1 l2).get? (zh1 s.heap t1 l1).objs.size=some (itO t2 l2):=q0 _ (q0 _ (q0 _ (C7 _ (fz _ _))))
 have g1:(ZF s.heap t1 t2 l1 l2).get? s.heap.objs.size=some (itO t1 l1):=q0 _ (q0 _ (q0 _ (q0 _ (C7 _ (fz _ _)))))
 have up:∀c o,s.heap.get? c=some o->(ZF s.heap t1 t2 l1 l2).get? c=some o:=fun c o x=>q0 _ (q0 _ (q0 _ (q0 _ (q0 _ x))))
 show _/\_
 rw[z2,z3,z4] at g5
 rw[z1,z2] at g3
 rw[z3] at g4
 rw[z1] at g2
 rw[z4]
 refine⟨⟨_,g5,rfl⟩,h _ g5 g3 g4 ?_ ?_ up⟩
 ·cases t1 with
  |true=>exact⟨⟨_,g1,rfl,rfl⟩,Kf m1 fun o e=>up _ o e⟩
  |false=>exact⟨⟨_,g1,rfl,rfl⟩,Kd m1 fun o e=>up _ o e⟩
 ·cases t2 with
  |true=>exact⟨⟨_,g2,rfl,rfl⟩,Kf m2 fun o e=>up _ o e⟩
  |false=>exact⟨⟨_,g2,rfl,rfl⟩,Kd m2 fun o e=>up _ o e⟩
theorem Qay{t1 t2:Bool}{z a b i1 i2 l1 l2:Addr}{k:Nat}{xs ys:Array Value}{x y p q:Value}{Q:Option Value->Shared->Prop}(D:ZA z a b i1 i2 l1 l2)(hz:IsZip s.heap z a b .none)(ha:IsPair s.heap a (.ref i1) (.ref i2))(hb:IsPair s.heap b p q)
  (g1:O1 t1 i1 l1 xs k s.heap)(g2:O1 t2 i2 l2 ys k s.heap)(hx:xs[k]? =some x)(hy:ys[k]? =some y)
  (hQ:∀h',IsZip h' z a b (rawInt s.heap.objs.size)->IsPair h' b x y->O1 t1 i1 l1 xs (k+1) h'->O1 t2 i2 l2 ys (k+1) h'->IsPair h' s.heap.objs.size x y->
   (∀c o,c≠z->c≠b->c≠i1->c≠i2->s.heap.get? c=some o->h'.get? c=some o)->Q (some (.ref s.heap.objs.size)) {s with heap:=h'}):wpAny (model prog w) A (pyNext (.ref z)) Q E s:=by
 have tz:s.TypeIs (.ref z) "zip":=⟨_,hz,rfl⟩
 unfold pyNext
 exact e8 (Gx (Kh (name:=Str.ofString "__next__") tz Kc (Cz Kc tz F.entry_zip_next
   (Wc D hz ha hb g1 g2 hx hy fun h' a1 a2 a3 a4 a5 a6=>l0 (hQ h' a1 a2 a3 a4 a5 a6)) (F.args_zip_next_1 _))))
theorem WF{t1 t2:Bool}{z a b i1 i2 l1 l2:Addr}{k:Nat}{xs ys:Array Value}{p q:Value}{Q:Option Value->Shared->Prop}(hh:A.handled=none)(D:ZA z a b i1 i2 l1 l2)(hz:IsZip s.heap z a b .none)(ha:IsPair s.heap a (.ref i1) (.ref i2))(hb:IsPair s.heap b p q)
  (g1:O1 t1 i1 l1 xs k s.heap)(g2:O1 t2 i2 l2 ys k s.heap)(Nq:xs[k]? =none\/ys[k]? =none)
  (hQ:∀h',(∀c o,c≠z->c≠b->c≠i1->c≠i2->s.heap.get? c=some o->h'.get? c=some o)->Q none {s with heap:=h'}):wpAny (model prog w) A (pyNext (.ref z)) Q E s:=by
 have tz:s.TypeIs (.ref z) "zip":=⟨_,hz,rfl⟩
 unfold pyNext
 refine e8 (Gx (Kh (name:=Str.ofString "__next__") tz Kc (Cz Kc tz F.entry_zip_next
   (ZE hh D hz ha hb g1 g2 Nq fun h' e hk he=> ?_) (F.args_zip_next_1 _))))
 obtain⟨o,e1,e2⟩:=he
 exact e8 (wpAny_isInstance (T:="StopIteration") (b:=true) ⟨o,e1,e2⟩ isSubtype_stop (l0 (hQ _ hk)))
end
def VQ(K:j6)(tp:Bool)(H:Hp)(l:Addr)(xs:List V):Prop:=if tp=true then W3 K H l xs else l7 K H l xs
def Itz(K:j6)(t1 t2:Bool)(l1 l2:Addr)(xs ys:List V):It:=
 ⟨fun i H=>VQ K t1 H l1 xs/\VQ K t2 H l2 ys/\i<xs.length/\i<ys.length,fun i H x H'=>∃T a b,H T=none/\x= .ref T/\H'=i8 H T (.tup [a,b])/\xs[i]? =some a/\ys[i]? =some b,
  fun i H=>VQ K t1 H l1 xs/\VQ K t2 H l2 ys/\(xs.length<=i\/ys.length<=i)⟩
theorem Inw.sqB{X:Cx}{c4:List (Addr×Obj)}{σ:St}{H:Hp}{s:Shared}{tp:Bool}{l:Addr}{xs:List V}(I:Inw X c4 σ H s)(h:VQ X.K tp H l xs):∃n5:List Value,u3 xs n5/\Sq tp l n5.toArray s.heap:=by
 cases tp with
 |true=>obtain⟨n5,r,t,_⟩:=I.tuple h;exact⟨n5,r,t⟩
 |false=>obtain⟨n5,r,t,_⟩:=I.list h;exact⟨n5,r,t.isList⟩
def Kr(tp:Bool)(i l:Addr)(k:Nat)(h:Heap):Prop:=if tp=true then h.IsTupleIter i l k else h.IsListIter i l k
theorem EY{tp:Bool}{i l:Addr}{xs:Array Value}{k:Nat}{h:Heap}(q:O1 tp i l xs k h):Kr tp i l k h:=by
 cases tp with
 |true=>exact q.1
 |false=>exact q.1
theorem EQ{tp:Bool}{i l:Addr}{xs:Array Value}{k:Nat}{h:Heap}(a:Kr tp i l k h)(b:Sq tp l xs h):O1 tp i l xs k h:=by
 cases tp with
 |true=>exact⟨a,b⟩
 |false=>exact⟨a,b⟩
theorem Kr.keep{tp:Bool}{i l:Addr}{k:Nat}{h h':Heap}(q:Kr tp i l k h)(k1:∀o,h.get? i=some o->h'.get? i=some o):Kr tp i l k h':=by
 cases tp with
 |true=>exact Heap.IsTupleIter.at q k1
 |false=>exact Heap.IsListIter.at q k1
theorem Kr.obj{tp:Bool}{i l:Addr}{k:Nat}{h:Heap}(q:Kr tp i l k h):∃o,h.get? i=some o/\∀v,o.data≠ .cell v:=by
 cases tp with
 |true=>obtain⟨o,e,_,d⟩:=q;exact⟨o,e,fun v z=>by rw[d] at z;cases z⟩
 |false=>obtain⟨o,e,_,d⟩:=q;exact⟨o,e,fun v z=>by rw[d] at z;cases z⟩
theorem Sa{P:Program}{w:World}{K:j6}{es:List Expr}{k:Nat}{tp:Pos}{t1 t2:Bool}{z a b i1 i2 l1 l2:Addr}(xs ys:List V)(D:ZA z a b i1 i2 l1 l2):
  Turn P w K (.Tuple es k tp) (Itz K t1 t2 l1 l2 xs ys) [z,a,b,i1,i2] z (fun i h=>IsZip h z a b .none/\IsPair h a (.ref i1) (.ref i2)/\(∃p q,IsPair h b p q)/\Kr t1 i1 l1 i h/\Kr t2 i2 l2 i h) where
 mem:=by simp
 obj:=fun i h q c hc=>by
  obtain⟨g1,g2,⟨p,r,g3⟩,g4,g5⟩:=q
  have hc':c=z\/c=a\/c=b\/c=i1\/c=i2:=by simpa using hc
  rcases hc' with e|e|e|e|e
  ·subst e;exact⟨_,g1,fun v z=>by have z':Data.fields _=Data.cell v:=z;cases z'⟩
  ·subst e;exact⟨_,g2,fun v z=>by have z':Data.seq _ _=Data.cell v:=z;cases z'⟩
  ·subst e;exact⟨_,g3,fun v z=>by have z':Data.seq _ _=Data.cell v:=z;cases z'⟩
  ·subst e;exact g4.obj
  ·subst e;exact g5.obj
 keep:=fun i h h' q kk=>by
  obtain⟨g1,g2,⟨p,r,g3⟩,g4,g5⟩:=q
  exact⟨kk z (by simp) _ g1,kk a (by simp) _ g2,⟨p,r,kk b (by simp) _ g3⟩,g4.keep fun o e=>kk i1 (by simp) o e,g5.keep fun o e=>kk i2 (by simp) o e⟩
 item:=by
  intro X hP hw hK hc i c4 s σ H E I hf q hg
  subst hP hw hK
  obtain⟨s1,s2,n1,n2⟩:=hg
  obtain⟨is1,v1,m1⟩:=I.toInw.sqB s1
  obtain⟨is2,v2,m2⟩:=I.toInw.sqB s2
  obtain⟨g1,g2,⟨p,r,g3⟩,g4,g5⟩:=q
  obtain⟨u1,hu1,r1⟩:=v1.get (E5 n1)
  obtain⟨u2,hu2,r2⟩:=v2.get (E5 n2)
  refine Qay D g1 g2 g3 (EQ g4 m1) (EQ g5 m2) (x:=u1) (y:=u2) (by simpa using hu1) (by simpa using hu2) fun h' a1 a2 a3 a4 a5 hk=> ?_
  refine⟨_,rfl,wpAny_letOwnedTupleGo_zip a1 fun h2 b1 b2=> ?_⟩
  have zl:z<s.heap.objs.size:=A1 g1
  have k2:∀c o,c≠z->c≠b->c≠i1->c≠i2->s.heap.get? c=some o->h2.get? c=some o:=fun c o e1 e2 e3 e4 q=>b2.extBut c o e1 (hk c o e1 e2 e3 e4 q)
  have hT2:h2.get? s.heap.objs.size=some {cls:= .type "tuple",data:= .seq #[u1,u2]}:=b2.extBut _ _ (Av zl) a5
  have fn:H s.heap.objs.size=none:=I.hok.fresh (l8 _)
  have nf:∀c,c∈[z,a,b,i1,i2]->H c=none:=fun c hc=>(hf c hc).1
  have I1:Inw X c4 σ (i8 H s.heap.objs.size (.tup [xs[i],ys[i]])) {s with heap:=h2}:=by
   refine I.step (g':=s.gens) (d':=s.drawn) (t':=s.toks) (ch:=[z,b,i1,i2]) (fun c hc=> ?_) (fun c o _ _ Y6 q _=>k2 c o (fun e=>Y6 (by simp [e])) (fun e=>Y6 (by simp [e])) (fun e=>Y6 (by simp [e])) (fun e=>Y6 (by simp [e])) q)
    (fun c o _ _ Y6 q _=>⟨o.slots,k2 c o (fun e=>Y6 (by simp [e])) (fun e=>Y6 (by simp [e])) (fun e=>Y6 (by simp [e])) (fun e=>Y6 (by simp [e])) q⟩) (fun c o _ q n=> ?_)
    (fun c o Y6 q=>⟨o,k2 c o (fun e=>Y6 (by simp [e])) (fun e=>Y6 (by simp [e])) (fun e=>Y6 (by simp [e])) (fun e=>Y6 (by simp [e])) q⟩)
    (fun c ws q=>by rw[g9 (j4 q fn)];exact q) (fun c o u q=>by rw[g9 (j4 q fn)];exact q) (fun c ps q=>⟨#[],by rw[g9 (j4 q fn),q];simp⟩) (fun m' hm=> ?_) (fun c v q=> ?_) I.bare
   ·have hc':c∈[z,a,b,i1,i2]:=by
     simp only[C8,Bx,Kb] at hc⊢
     rcases hc with e|e|e|e<;>simp [e]
    obtain⟨f0,f1,f2,f3,f4,f5⟩:=hf c hc'
    exact⟨f3,f1,f4,f5⟩
   ·rw[g9 (u9 (A1 q))];exact n
   ·obtain⟨o',es',ep',ho',r'⟩:=hm
    exact⟨o',es',ep',k2 _ _ (D9 (hf z (by simp)).2.1) (D9 (hf b (by simp)).2.1) (D9 (hf i1 (by simp)).2.1) (D9 (hf i2 (by simp)).2.1) ho',r'⟩
   ·by_cases hb:c=s.heap.objs.size
    ·subst hb
     rw[c6] at q
     cases q
     exact⟨by show 2<=sizeLine;decide,[u1,u2], .cons r1 (.cons r2 .nil),_,hT2,rfl,_,rfl⟩
    ·rw[g9 hb] at q
     refine(I.hok c v q).stay (fun d w Y6 r=> ?_) (fun d r=>by rw[g9 (j4 r fn)];exact r) fun d ws r=>by rw[g9 (j4 r fn)];exact r
     have ne:∀e,e∈[z,a,b,i1,i2]->d≠e:=fun e he y=>by
      subst y
      rcases Y6 with y|y
      ·rw[<-y,nf d he] at q;cases q
      ·rw[nf d he] at y;cases y
     exact k2 d w (ne z (by simp)) (ne b (by simp)) (ne i1 (by simp)) (ne i2 (by simp)) r
  refine⟨.ref s.heap.objs.size,_,I1,rfl,⟨s.heap.objs.size,_,_,fn,rfl,rfl,E5 n1,E5 n2⟩,⟨b1,?_,⟨_,_,b2.extBut _ _ D.bz a2⟩,?_,?_⟩,fun c hc=> ?_⟩
  ·exact k2 _ _ D.az D.ab D.ai D.aj g2
  ·exact(EY a3).keep fun o e=>b2.extBut _ o D.iz e
  ·exact(EY a4).keep fun o e=>b2.extBut _ o D.jz e
  ·have HR:c<s.heap.objs.size:=by
    have hc':c=z\/c=a\/c=b\/c=i1\/c=i2:=by simpa using hc
    rcases hc' with e|e|e|e|e
    ·subst e;exact zl
    ·subst e;exact A1 g2
    ·subst e;exact A1 g3
    ·subst e;obtain⟨o,e,_⟩:=g4.obj;exact A1 e
    ·subst e;obtain⟨o,e,_⟩:=g5.obj;exact A1 e
   rw[g9 (u9 HR)]
   exact nf c hc
 done:=by
  intro X hP hw hK hc i c4 s σ H E I hf q hg
  subst hP hw hK
  obtain⟨s1,s2,Nq⟩:=hg
  obtain⟨is1,v1,m1⟩:=I.toInw.sqB s1
  obtain⟨is2,v2,m2⟩:=I.toInw.sqB s2
  obtain⟨g1,g2,⟨p,r,g3⟩,g4,g5⟩:=q
  have e1:=v1.length
  have e2:=v2.length
  have nf:∀c,c∈[z,a,b,i1,i2]->H c=none:=fun c hc=>(hf c hc).1
  refine WF (I.ok.hd hc) D g1 g2 g3 (EQ g4 m1) (EQ g5 m2) (by
   rcases Nq with y|y
   ·exact .inl (by simp;omega)
   ·exact .inr (by simp;omega)) fun h' hk=>⟨rfl,?_⟩
  refine I.step (g':=s.gens) (d':=s.drawn) (t':=s.toks) (ch:=[z,b,i1,i2]) (fun c hc=> ?_) (fun c o _ _ Y6 q _=>hk c o (fun e=>Y6 (by simp [e])) (fun e=>Y6 (by simp [e])) (fun e=>Y6 (by simp [e])) (fun e=>Y6 (by simp [e])) q)
    (fun c o _ _ Y6 q _=>⟨o.slots,hk c o (fun e=>Y6 (by simp [e])) (fun e=>Y6 (by simp [e])) (fun e=>Y6 (by simp [e])) (fun e=>Y6 (by simp [e])) q⟩) (fun c o _ q n=>n)
    (fun c o Y6 q=>⟨o,hk c o (fun e=>Y6 (by simp [e])) (fun e=>Y6 (by simp [e])) (fun e=>Y6 (by simp [e])) (fun e=>Y6 (by simp [e])) q⟩)
    (fun c ws q=>q) (fun c o u q=>q) (fun c ps q=>⟨#[],by rw[q];simp⟩) (fun m' hm=> ?_) (fun c v q=> ?_) I.bare
  ·have hc':c∈[z,a,b,i1,i2]:=by
    simp only[C8,Bx,Kb] at hc⊢
    rcases hc with e|e|e|e<;>simp [e]
   obtain⟨f0,f1,f2,f3,f4,f5⟩:=hf c hc'
   exact⟨f3,f1,f4,f5⟩
  ·obtain⟨o',es',ep',ho',r'⟩:=hm
   exact⟨o',es',ep',hk _ _ (D9 (hf z (by simp)).2.1) (D9 (hf b (by simp)).2.1) (D9 (hf i1 (by simp)).2.1) (D9 (hf i2 (by simp)).2.1) ho',r'⟩
  ·refine(I.hok c v q).stay (fun d w Y6 r=> ?_) (fun d r=>r) fun d ws r=>r
   have ne:∀e,e∈[z,a,b,i1,i2]->d≠e:=fun e he y=>by
    subst y
    rcases Y6 with y|y
    ·rw[<-y,nf d he] at q;cases q
    ·rw[nf d he] at y;cases y
   exact hk d w (ne z (by simp)) (ne b (by simp)) (ne i1 (by simp)) (ne i2 (by simp)) r
 self:=fun _ _ _ _ _ st h=>wpAny_pyIter_zip st.1 h
section
variable {X:Cx} {es:List Expr} {k:Nat} {tp:Pos}
def Xo(K:j6)(t1 t2:Bool)(ta:TA):TI:=fun σ H R=>ta σ H fun vs H1=>∃l1 l2 xs ys,vs=[.ref l1, .ref l2]/\VQ K t1 H1 l1 xs/\VQ K t2 H1 l2 ys/\R (Itz K t1 t2 l1 l2 xs ys) H1
theorem boot_zip:bootBuiltins "zip"=some (.type "zip"):=by decide+kernel
theorem Yp{tp:Bool}{l:Addr}{xs:Array Value}{h:Heap}(a:Sq tp l xs h):l<h.objs.size:=by
 cases tp with
 |true=>obtain⟨o,e,_⟩:=a;exact A1 e
 |false=>obtain⟨o,e,_⟩:=a;exact A1 e
theorem MU(K:j6)(t1 t2:Bool){a b:Expr}{ta:TA}{p pos:Pos}(hg:Gl X "zip")(hm:X.mg "zip"=none)(ha:PA X [a,b] ta)(hK:X.K=K:=by rfl)(hs:starEach [a,b] X.env=[(false,eval a X.env),(false,eval b X.env)]:=by rfl)
  (hs2:starEach [b] X.env=[(false,eval b X.env)]:=by rfl):PI X (.Tuple es k tp) (.Call (.Name "zip" p) [a,b] [] pos) (Xo K t1 t2 ta):=by
 subst hK
 intro c4 s σ H R I h
 refine Call_ (Bm I hg hm boot_zip (Io (G7 (ha pos c4 s σ H _ I h) fun us s1 ⟨vs,H1,I1,r1,q1⟩=> ?_) (by rw[hs,hs2]) (by rw[hs2];rfl)))
 obtain⟨l1,l2,xs,ys,e,m1,m2,q⟩:=q1
 subst e
 obtain⟨u1,u2,rfl,ru1,ru2⟩:=vals2 r1
 cases ru1
 cases ru2
 obtain⟨is1,v1,n1⟩:=I1.toInw.sqB m1
 obtain⟨is2,v2,n2⟩:=I1.toInw.sqB m2
 have z1:=Yp n1
 have z2:=Yp n2
 refine Rm n1 n2 fun h' g1 g2 g3 g4 g5 kp=>wpAny_pyIter_zip g1 ?_
 have I2:Inw X c4 σ H1 {s1 with heap:=h'}:=I1.kept (t':=s1.toks) kp
 have D:ZA (s1.heap.objs.size+4) (s1.heap.objs.size+2) (s1.heap.objs.size+3) s1.heap.objs.size (s1.heap.objs.size+1) l1 l2:=by
  constructor<;>first|((show @Ne Nat _ _);omega)|exact u9 (E9 z1 (Eh _ _))|exact u9 z1|exact u9 (E9 z2 (Eh _ _))|exact u9 z2
 refine⟨s1.heap.objs.size+4,[s1.heap.objs.size+4,s1.heap.objs.size+2,s1.heap.objs.size+3,s1.heap.objs.size,s1.heap.objs.size+1],_,_,H1,rfl,I2,Sa xs ys D,⟨g1,g2,⟨_,_,g3⟩,EY g4,EY g5⟩,fun c hc=> ?_,q⟩
 have hc':c=s1.heap.objs.size+4\/c=s1.heap.objs.size+2\/c=s1.heap.objs.size+3\/c=s1.heap.objs.size\/c=s1.heap.objs.size+1:=by simpa using hc
 have CD:s1.heap.objs.size<=c:=by
  rcases hc' with e|e|e|e|e
  ·rw[e];exact Eh _ _
  ·rw[e];exact Eh _ _
  ·rw[e];exact Eh _ _
  ·rw[e];exact l8 _
  ·rw[e];exact Eh _ _
 exact I1.fpOk CD (I1.hok.fresh CD)
theorem Ut{K:j6}{t1 t2:Bool}{l1 l2:Addr}{xs ys:List V}{g:TG}{tb:TS}{D:Ends}{σ:St}{H:Hp}(G1:xs.length=ys.length)(Pv:Nat->St->Hp->Prop)(h0:Pv 0 σ H)
  (hl:∀i σ H,i<=xs.length->Pv i σ H->VQ K t1 H l1 xs/\VQ K t2 H l2 ys)
  (hs:∀(i:Nat) a b T σ H,xs[i]? =some a->ys[i]? =some b->Pv i σ H->H T=none->g (.ref T) σ (i8 H T (.tup [a,b])) fun σ2 H2=>tb {D with nx:=Pv (i+1),ct:=Pv (i+1),bk:=D.nx} σ2 H2)
  (hd:∀σ H,Pv xs.length σ H->D.nx σ H):Mn g tb D σ (Itz K t1 t2 l1 l2 xs ys) H:=by
 refine⟨fun i m σ H=>m=xs.length-i/\i<=xs.length/\Pv i σ H,⟨xs.length,by simp,o8 _,h0⟩,?_⟩
 rintro i m σ H ⟨rfl,hi,p⟩
 have q:=hl i σ H hi p
 by_cases O2:i<xs.length
 ·refine .inr ⟨⟨q.1,q.2,O2,by omega⟩,Pv (i+1),fun σ' H' p'=>⟨xs.length-(i+1),by omega,rfl,O2,p'⟩,fun x H' y=> ?_⟩
  obtain⟨T,a,b,hT,e1,e2,e3,e4⟩:=y
  subst e1 e2
  exact hs i a b T σ H e3 e4 p hT
 ·have e:i=xs.length:=by omega
  subst e
  exact .inl ⟨⟨q.1,q.2, .inl (l8 _)⟩,hd σ H p⟩
end
section
variable {prog:Program} {w:World} {A:Around} {E:Value->Shared->Prop} {s:Shared} {T:String} {r d:Addr} {n:Nat} {P:Nat->Value->Prop} {OK:Heap->Prop}
theorem ED{Q:List Value->Shared->Prop}(K:PySem.W.KdlSrc prog w T r d n P OK)(hh:A.handled=none)(hok:OK s.heap)(hn:n<=sizeLine)
  (q:∀h' tk V1,s.heap.objs.size<h'.objs.size->(∀b o,s.heap.get? b=some o->h'.get? b=some o)->ItemsOf P V1 n->Q V1.toList {s with heap:=h',toks:=tk}):wpAny (model prog w) A (collect (.ref r)) Q E s:=by
 obtain⟨t1,t2⟩:=K.there s.heap hok
 unfold collect
 refine e8 (wpAny_runValue (Ka PySem.F.entry_proto_collect ?_))
 rw[JZ PySem.F.plain_proto_collect _]
 refine e8 (m:=newList []) (GG (l0 ⟨Ob Vz _,Ka PySem.F.entry_list_iadd ?_⟩))
 rw[JZ Vz _]
 have g0:(s.heap.push {cls:= .type "list",data:= .seq ([]:List Value).toArray}).get? s.heap.objs.size=some {cls:= .type "list",data:= .seq #[]}:=C7 _ rfl
 show wpAny _ A.in1 (Builtin.List.listExtendWith (.ref s.heap.objs.size) (.ref r) (.ref s.heap.objs.size)) _ _ _
 refine I9 (PySem.W.kdl_extend (s:={s with heap:=s.heap.push {cls:= .type "list",data:= .seq ([]:List Value).toArray}}) (R:=fun p s'=>∃(h':Heap) (tk:Nat) (V1:Array Value) (c:Nat),p= .ok (.ret (.ref s.heap.objs.size))/\s'={s with heap:=h',toks:=tk}/\
   (∀b o,s.heap.get? b=some o->h'.get? b=some o)/\h'.get? s.heap.objs.size=some {cls:= .type "list",dict:=none,data:= .seq V1 c,slots:= #[]}/\ItemsOf P V1 n) K (by first|exact hh|simpa using hh) (K.keep _ _ hok fun b _ o e=>q0 _ e) s.heap.objs.size (Av t1) (Av t2) (.ref s.heap.objs.size) 0 g0
   (fun h' tk V1 c hk hS Uj=>⟨h',tk,V1,c,rfl,rfl,fun b o e=>hk b o (u9 (A1 e)) (q0 _ e),hS,Uj⟩) hn) (fun fin s' x=> ?_) fun e s' x=> ?_
 ·have fin1:∀(p:Result) (s2:Shared),(∃(h':Heap) (tk:Nat) (V1:Array Value) (c:Nat),p= .ok (.ret (.ref s.heap.objs.size))/\s2={s with heap:=h',toks:=tk}/\(∀b o,s.heap.get? b=some o->h'.get? b=some o)/\h'.get? s.heap.objs.size=some {cls:= .type "list",dict:=none,data:= .seq V1 c,slots:= #[]}/\ItemsOf P V1 n)->
    wpAny (model prog w) A (load s.heap.objs.size>>=fun o=>match o.data with| .seq xs _=>pure xs.toList|_=>unsupported "internal:collect") Q E s2:=by
   rintro p s2 ⟨h',tk,V1,c,_,rfl,hk,hS,Uj⟩
   exact e8 (wpAny_load hS (l0 (q h' tk V1 (A1 hS) hk Uj)))
  cases fin with
  |done f=>
   have x0:=x
   obtain⟨h',tk,V1,c,e,_⟩:=x
   cases e
   exact fin1 _ _ x0
  |again c1=>
   refine⟨x.1,Dk x.2 fun p s2 y=> ?_⟩
   have y0:=y
   obtain⟨h',tk,V1,c,rfl,_⟩:=y
   exact fin1 _ _ y0
 ·obtain⟨_,_,_,_,e',_⟩:=x
  cases e'
end
section
variable {X:Cx}
theorem AF{kvs:List (A0×V)}{vs:List (A0×Value)}(r:KV kvs vs):vs.map (·.1)=kvs.map (·.1):=by
 apply Om
 intro i
 rw[u8,u8]
 cases hi:vs[i]? with
 |none=>
  have:=Vy.mp hi
  rw[<-Q4 r] at this
  rw[CC this];rfl
 |some p=>
  obtain⟨y,hy⟩:=B6 r (i:=i) (k:=p.1) (v:=p.2) hi
  rw[hy];rfl
end
section
variable {X:Cx}
end
section
variable {X:Cx}
end
section
variable {g:TG} {ti:TT} {te:TE} {Q:VK} {σ:St} {H:Hp} {pick:List (Option Nat)} {tb:TS} {D:Ends} {K:j6} {a:Addr}
end
section
variable {prog:Program} {w:World} {A:Around} {E:Value->Shared->Prop} {s:Shared}
end
section
variable {P:Program} {w:World} {K:j6} {mg:Str->Option Value} {base:Heap} {N:List Str} {qual:Str} {scope:Scope} {f0:Addr} {cd:Value} {A:Around} {outer:List Env} {s0:Shared} {H0:Hp} {E:XK}
end
section
variable {X:Cx}
end
end L2
namespace TS
section
open PySem PyProof.Rows
open Lean in
local macro_rules
 | `(nomatch $n:num)=>return mkIdent (((((`_private.PySem.Builtin.List.W1All).num 0).str "PySem").str "Builtin").str (["gallop","mergeLo","mergeHi","setMinGallop"].getD n.getNat ""))
abbrev SM:=StateT SortSt Sem
def gal:Bool->Keyed->Array Keyed->Nat->Nat->Nat->SM (Option Nat):=nomatch 0
def mlo:Array Keyed->Array Keyed->SM (Array Keyed):=nomatch 1
def mhi:Array Keyed->Array Keyed->SM (Array Keyed):=nomatch 2
def smg:Nat->SM Unit:=nomatch 3
variable {κ:KeyKind} {kd:SortKind} {prog:Program} {w:World} {A:Around} {E:Value->Shared->Prop} {s:Shared}
def ky(κ:KeyKind)(p:Keyed):κ.α:=(κ.keyOf p.1).getD κ.dflt
def EN(κ:KeyKind)(p:Keyed):Prop:=∃a,κ.keyOf p.1=some a
theorem A8{arr:Array Keyed}{i:Nat}{p:Keyed}{Q:Keyed->SortSt->Prop}{st:SortSt}(h:arr[i]? =some p)(q:Q p st):wpS (model prog w) A E s (elem' arr i) Q st:=by
 rw[elem'_eq,h]
 exact i7 q
def Ep(κ:KeyKind)(kd:SortKind)(prog:Program)(w:World)(A:Around)(s:Shared):Prop:=∀(E:Value->Shared->Prop) (x y:Value) (a b:κ.α) {Q:Bool->Shared->Prop},κ.keyOf x=some a->κ.keyOf y=some b->Q (κ.blt a b) s->wpAny (model prog w) A (keyLt' kd x y) Q E s
theorem Ky(ho:Ep κ kd prog w A s){st:SortSt}{x y:Keyed}{Q:Option Bool->SortSt->Prop}(hk:kindOf st=kd)(hx:EN κ x)(hy:EN κ y)(q:Q (some (κ.blt (ky κ x) (ky κ y))) st):wpS (model prog w) A E s (lt' x y) Q st:=by
 obtain⟨a,ha⟩:=hx
 obtain⟨b,hb⟩:=hy
 rw[lt'_eq]
 refine j3 (Ag ?_)
 rw[hk]
 refine j3 (Cy (Gx ?_))
 have e:ky κ x=a/\ky κ y=b:=⟨by unfold ky;rw[ha];rfl,by unfold ky;rw[hb];rfl⟩
 rw[e.1,e.2] at q
 exact ho _ x.1 y.1 a b ha hb ⟨rfl,i7 q⟩
theorem j8{α:Type}{c:Prop}[Decidable c]{m1 m2:SM α}{Q:α->SortSt->Prop}{st:SortSt}(h1:c->wpS (model prog w) A E s m1 Q st)(h2:¬c->wpS (model prog w) A E s m2 Q st):wpS (model prog w) A E s (if c then m1 else m2) Q st:=by
 by_cases h:c
 ·rw[if_pos h];exact h1 h
 ·rw[if_neg h];exact h2 h
def Rs(κ:KeyKind)(left:Bool)(key:Keyed)(arr:Array Keyed)(base i:Nat):Bool:=if left then κ.blt (KK κ arr (base+i)) (ky κ key) else !κ.blt (ky κ key) (KK κ arr (base+i))
theorem Y4{arr:Array Keyed}{i:Nat}{p:Keyed}(h:arr[i]? =some p):KK κ arr i=ky κ p:=by
 unfold KK ky
 rw[h]
theorem K8{α β:Type}{m:SM α}{f:α->SM β}{Q1:α->SortSt->Prop}{Q:β->SortSt->Prop}{st:SortSt}(h1:wpS (model prog w) A E s m Q1 st)(h2:∀a st',Q1 a st'->wpS (model prog w) A E s (f a) Q st'):wpS (model prog w) A E s (m>>=f) Q st:=j3 (wpS_mono h1 h2)
abbrev GS:=Option (Option Nat)×Nat×Nat
def QcO(b:Nat->Bool)(n M8:Nat)(st:SortSt)(i:Nat)(c:GS)(st':SortSt):Prop:=st=st'/\c.1=none/\c.2.1<c.2.2/\i+1<=c.2.2/\M8+c.2.1<n/\b (M8+c.2.1)=true
def QcN(b:Nat->Bool)(n M8:Nat)(st:SortSt)(i:Nat)(c:GS)(st':SortSt):Prop:=st=st'/\c.1=none/\c.2.1<c.2.2/\i+1<=c.2.2/\c.2.1<=M8/\b (M8-c.2.1)=false
def QK(b:Nat->Bool)(n:Nat)(st:SortSt)(i:Nat)(c:GS)(st':SortSt):Prop:=st=st'/\c.1=none/\c.2.1<=c.2.2/\c.2.2<=n/\(c.2.1=0\/b (c.2.1-1)=true)/\(c.2.2=n\/b c.2.2=false)/\c.2.2-c.2.1<=n-i
theorem RU(ho:Ep κ kd prog w A s){st:SortSt}{left:Bool}{key:Keyed}{arr:Array Keyed}{base n M8:Nat}{Q:Option Nat->SortSt->Prop}(hk:kindOf st=kd)(hH:∀p∈arr.toList,EN κ p)(Hc:EN κ key)(hb:base+n<=arr.size)(hh:M8<n)
  (mono:∀i j,i<=j->j<n->Rs κ left key arr base j=true->Rs κ left key arr base i=true)
  (q:∀k,k<=n->(∀i,i<k->Rs κ left key arr base i=true)->(∀i,k<=i->i<n->Rs κ left key arr base i=false)->Q (some k) st):wpS (model prog w) A E s (gal left key arr base n M8) Q st:=by
 have beyW:∀(i:Nat) (Q':Option Bool->SortSt->Prop),i<n->Q' (some (Rs κ left key arr base i)) st->wpS (model prog w) A E s (elem' arr (base+i)>>=fun x=>if left=true then lt' x key else lt' key x>>=fun l=>pure (Option.map (fun x=> !x) l)) Q' st:=fun i Q' hi q'=>by
  obtain⟨p,hp⟩:∃p,arr[base+i]? =some p:=⟨arr[base+i],Gu (by omega)⟩
  have hpm:EN κ p:=hH p (by have:=Array.getElem_of_getElem? hp;rw[<-this.2];simp)
  refine j3 (A8 hp ?_)
  unfold Rs at q'
  rw[Y4 hp] at q'
  refine j8 (fun hl=> ?_) (fun hl=> ?_)
  ·rw[if_pos hl] at q'
   exact Ky ho hk hpm Hc q'
  ·rw[if_neg hl] at q'
   exact j3 (Ky ho hk Hc hpm (i7 q'))
 generalize hbv:Rs κ left key arr base=b at*
 have bin:∀(lo hi:Nat),lo<=hi->hi<=n->(lo=0\/b (lo-1)=true)->(hi=n\/b hi=false)->QK b n st 0 (none,lo,hi) st:=fun lo hi h1 h2 h3 h4=>⟨rfl,rfl,h1,h2,h3,h4,by show hi-lo<=n-0;omega⟩
 have spl:∀c st',QK b n st n c st'\/(QK b n st 0 c st'/\c.2.1≥c.2.2)->st=st'/\c.1=none/\Q (some c.2.2) st:=fun c st' h=>by
  obtain⟨⟨e1,e2,l1,l2,l3,l4,_⟩,l5⟩:QK b n st 0 c st'/\c.2.1≥c.2.2:=by
   rcases h with ⟨e1,e2,l1,l2,l3,l4,l5⟩|h
   ·exact⟨⟨e1,e2,l1,l2,l3,l4,by omega⟩,by omega⟩
   ·exact h
  have e3:c.2.1=c.2.2:=by omega
  rw[e3] at l3
  refine⟨e1,e2,q c.2.2 l2 (fun i hi=> ?_) (fun i h1 h2=> ?_)⟩
  ·rcases l3 with z|z
   ·omega
   ·exact mono i (c.2.2-1) (by omega) (by omega) z
  ·rcases l4 with z|z
   ·omega
   ·cases hb:b i with
    |false=>rfl
    |true=>rw[mono c.2.2 i h1 h2 hb] at z;cases z
 refine j3 (beyW M8 _ hh ?_)
 dsimp only
 refine j8 (fun hr=> ?_) (fun hr=> ?_)
 ·refine K8 (Q1:=fun c st'=>st=st'/\c.1=none/\c.2.1<c.2.2/\M8+c.2.1<n/\b (M8+c.2.1)=true/\(c.2.2≥n-M8\/b (M8+c.2.2)=false)) (L8 (QcO b n M8 st) ?_ ?_ ⟨rfl,rfl,by decide,by decide,by exact hh,hr⟩) ?_
  ·rintro i ⟨o,la,of⟩ st' _ hi ⟨e1,e2,l1,l2,l3,l4⟩
   dsimp only at e2 l1 l2 l3 l4⊢
   subst e1
   refine j8 (fun h=>i7 ⟨rfl,rfl,l1,l3,l4, .inl h⟩) (fun h=>j3 (beyW (M8+of) _ (by omega) ?_))
   dsimp only
   refine j8 (fun h2=>i7 ⟨rfl,rfl,l1,l3,l4, .inr (by simpa using h2)⟩) (fun h2=>i7 ⟨rfl,rfl,by show of<2*of+1;omega,by show i+1+1<=2*of+1;omega,by show M8+of<n;omega,by simpa using h2⟩)
  ·rintro⟨o,la,of⟩ st' ⟨e1,e2,l1,l2,l3,l4⟩
   exact⟨e1,e2,l1,l3,l4, .inl (by have:max 0 n+1<=of:=l2;show of≥n-M8;omega)⟩
  ·rintro⟨o,la,of⟩ st' ⟨e1,e2,l1,l3,l4,l5⟩
   dsimp only at e2 l1 l3 l4 l5⊢
   subst e1 e2
   dsimp only
   refine K8 (Q1:=fun c st'=>st=st'/\c.1=none/\Q (some c.2.2) st) (L8 (QK b n st) ?_ ?_ (bin _ _ (by omega) (by omega) (.inr (by show b (M8+la+1-1)=true;rw[JY];exact l4)) ?_)) ?_
   ·rintro i ⟨o,lo,hi⟩ st' _ EB ⟨e1,e2,l1,l2,l3,l4,l5⟩
    dsimp only at e2 l1 l2 l3 l4 l5⊢
    subst e1
    refine j8 (fun h=>i7 (spl _ _ (.inr ⟨⟨rfl,rfl,l1,l2,l3,l4,by show hi-lo<=n-0;omega⟩,h⟩))) (fun h=>j3 (beyW (lo+(hi-lo)/2) _ (by omega) ?_))
    dsimp only
    refine j8 (fun h2=>i7 ⟨rfl,rfl,by show lo+(hi-lo)/2+1<=hi;omega,l2, .inr (by show b (lo+(hi-lo)/2+1-1)=true;rw[JY];exact h2),l4,by show hi-(lo+(hi-lo)/2+1)<=n-(i+1);omega⟩) (fun h2=>i7 ⟨rfl,rfl,by show lo<=lo+(hi-lo)/2;omega,by show lo+(hi-lo)/2<=n;omega,l3, .inr (by simpa using h2),by show lo+(hi-lo)/2-lo<=n-(i+1);omega⟩)
   ·rintro c st' h
    exact spl _ _ (.inl (by rw[Oa (o8 n)] at h;exact h))
   ·by_cases hm:of≥n-M8
    ·exact .inl (by rw[Nat.min_eq_right (by omega)];omega)
    ·exact .inr (by rw[Eg (by omega)];exact l5.resolve_left hm)
   ·rintro⟨o,lo,hi⟩ st' ⟨e1,e2,qq⟩
    dsimp only at e2 qq⊢
    subst e1 e2
    exact i7 qq
 ·refine K8 (Q1:=fun c st'=>st=st'/\c.1=none/\c.2.1<c.2.2/\c.2.1<=M8/\b (M8-c.2.1)=false/\(c.2.2≥M8+1\/b (M8-c.2.2)=true)) (L8 (QcN b n M8 st) ?_ ?_ ⟨rfl,rfl,by decide,by decide,o8 _,by simpa using hr⟩) ?_
  ·rintro i ⟨o,la,of⟩ st' _ hi ⟨e1,e2,l1,l2,l3,l4⟩
   dsimp only at e2 l1 l2 l3 l4⊢
   subst e1
   refine j8 (fun h=>i7 ⟨rfl,rfl,l1,l3,l4, .inl h⟩) (fun h=>j3 (beyW (M8-of) _ (by omega) ?_))
   dsimp only
   refine j8 (fun h2=>i7 ⟨rfl,rfl,l1,l3,l4, .inr h2⟩) (fun h2=>i7 ⟨rfl,rfl,by show of<2*of+1;omega,by show i+1+1<=2*of+1;omega,by show of<=M8;omega,by simpa using h2⟩)
  ·rintro⟨o,la,of⟩ st' ⟨e1,e2,l1,l2,l3,l4⟩
   exact⟨e1,e2,l1,l3,l4, .inl (by have:max 0 n+1<=of:=l2;show of≥M8+1;omega)⟩
  ·rintro⟨o,la,of⟩ st' ⟨e1,e2,l1,l3,l4,l5⟩
   dsimp only at e2 l1 l3 l4 l5⊢
   subst e1 e2
   dsimp only
   refine K8 (Q1:=fun c st'=>st=st'/\c.1=none/\Q (some c.2.2) st) (L8 (QK b n st) ?_ ?_ (bin _ _ (by omega) (by omega) ?_ (.inr l4))) ?_
   ·rintro i ⟨o,lo,hi⟩ st' _ EB ⟨e1,e2,l1,l2,l3,l4,l5⟩
    dsimp only at e2 l1 l2 l3 l4 l5⊢
    subst e1
    refine j8 (fun h=>i7 (spl _ _ (.inr ⟨⟨rfl,rfl,l1,l2,l3,l4,by show hi-lo<=n-0;omega⟩,h⟩))) (fun h=>j3 (beyW (lo+(hi-lo)/2) _ (by omega) ?_))
    dsimp only
    refine j8 (fun h2=>i7 ⟨rfl,rfl,by show lo+(hi-lo)/2+1<=hi;omega,l2, .inr (by show b (lo+(hi-lo)/2+1-1)=true;rw[JY];exact h2),l4,by show hi-(lo+(hi-lo)/2+1)<=n-(i+1);omega⟩) (fun h2=>i7 ⟨rfl,rfl,by show lo<=lo+(hi-lo)/2;omega,by show lo+(hi-lo)/2<=n;omega,l3, .inr (by simpa using h2),by show lo+(hi-lo)/2-lo<=n-(i+1);omega⟩)
   ·rintro c st' h
    exact spl _ _ (.inl (by rw[Oa (o8 n)] at h;exact h))
   ·by_cases hm:of≥M8+1
    ·exact .inl (by rw[Nat.min_eq_right (by omega)];omega)
    ·refine .inr ?_
     rw[Eg (by omega),show M8+1-of-1=M8-of by omega]
     exact l5.resolve_left hm
   ·rintro⟨o,lo,hi⟩ st' ⟨e1,e2,qq⟩
    dsimp only at e2 qq⊢
    subst e1 e2
    exact i7 qq
def le(κ:KeyKind)(p q:Keyed):Prop:=κ.kle (ky κ p) (ky κ q)
theorem le_trans{p q r:Keyed}(h:le κ p q)(g:le κ q r):le κ p r:=AM h g
structure G(κ:KeyKind)(la lb out:List Keyed)(ia ib:Nat):Prop where
 pm:out.Perm (la.take ia++lb.take ib)
 so:out.Pairwise (le κ)
 lw:∀x∈out,∀y,(y∈la.drop ia\/y∈lb.drop ib)->le κ x y
theorem G.swap{la lb out:List Keyed}{ia ib:Nat}(h:G κ la lb out ia ib):G κ lb la out ib ia:=⟨h.pm.trans Bw,h.so,fun x hx y hy=>h.lw x hx y hy.symm⟩
theorem Jp{l:List Keyed}{i:Nat}{x:Keyed}(h:l[i]? =some x):l.drop i=x::l.drop (i+1):=by
 obtain⟨hi,e⟩:=u4.mp h
 rw[U2 hi,e]
theorem G.push{la lb out:List Keyed}{ia ib:Nat}{x:Keyed}(h:G κ la lb out ia ib)(sa:la.Pairwise (le κ))(ha:la[ia]? =some x)(CD:∀y∈lb.drop ib,le κ x y):G κ la lb (out++[x]) (ia+1) ib:=by
 have hd:=Jp ha
 refine⟨?_,?_,?_⟩
 ·rw[x6,ha]
  show (out++[x]).Perm (la.take ia++[x]++lb.take ib)
  refine(h.pm.append_right [x]).trans ?_
  rw[C9,C9]
  exact NZ _ Bw
 ·rw[Af]
  refine⟨h.so,JX _ _,fun z hz y hy=> ?_⟩
  rw[x8.mp hy]
  exact h.lw z hz x (.inl (by rw[hd];exact A5))
 ·intro z hz y hy
  rcases D8.mp hz with h1|h1
  ·exact h.lw z h1 y (hy.imp (fun m=>by rw[hd];exact B1 _ m) id)
  ·rw[x8.mp h1]
   rcases hy with m|m
   ·have:=(Cw.mp (hd▸sa.drop:(x::la.drop (ia+1)).Pairwise (le κ))).1
    exact this y m
   ·exact CD y m
theorem G.chunk{la lb:List Keyed}{ib:Nat}(sa:la.Pairwise (le κ)):∀(k:Nat) {out:List Keyed} {ia:Nat},G κ la lb out ia ib->ia+k<=la.length->(∀i,i<k->∀x,la[ia+i]? =some x->∀y∈lb.drop ib,le κ x y)->G κ la lb (out++(la.drop ia).take k) (ia+k) ib
 |0,out,ia,h,_,_=>by rw[Aj,List.append_nil];exact h
 |k+1,out,ia,h,hl,hk=>by
  obtain⟨x,hx⟩:∃x,la[ia]? =some x:=⟨la[ia],E5 (by omega)⟩
  have h1:=h.push sa hx (hk 0 (by omega) x hx)
  have h2:=G.chunk sa k h1 (by omega) (fun i hi y hy=>hk (i+1) (by omega) y (by rw[show ia+(i+1)=ia+1+i by omega];exact hy))
  rw[Jp hx,Ol]
  rw[C9] at h2
  rw[show ia+(k+1)=ia+1+k by omega]
  exact h2
def Rx(κ:KeyKind)(la lb r:List Keyed):Prop:=r.Perm (la++lb)/\r.Pairwise (le κ)
theorem G.fin{la lb out r:List Keyed}{ia ib:Nat}(h:G κ la lb out ia ib)(pr:r.Perm (la.drop ia++lb.drop ib))(sr:r.Pairwise (le κ)):Rx κ la lb (out++r):=by
 constructor
 ·refine(h.pm.append pr).trans ?_
  have e1:la++lb=la.take ia++(la.drop ia++(lb.take ib++lb.drop ib)):=by rw[<-C9,O8,O8]
  rw[e1,C9]
  refine NZ _ ?_
  rw[<-C9,<-C9]
  exact Vx _ Bw
 ·rw[Af]
  refine⟨h.so,sr,fun x hx y hy=>h.lw x hx y ?_⟩
  exact D8.mp (pr.mem_iff.mp hy)
theorem G.doneA{la lb out:List Keyed}{ia ib:Nat}(h:G κ la lb out ia ib)(sa:la.Pairwise (le κ))(hb:lb.drop ib=[]):Rx κ la lb (out++la.drop ia++lb.drop ib):=by
 rw[C9]
 exact h.fin (Cu _) (by rw[hb,List.append_nil];exact sa.drop)
theorem G.doneB{la lb out:List Keyed}{ia ib:Nat}(h:G κ la lb out ia ib)(sb:lb.Pairwise (le κ))(ha:la.drop ia=[]):Rx κ la lb (out++la.drop ia++lb.drop ib):=by
 rw[C9]
 exact h.fin (Cu _) (by rw[ha,List.nil_append];exact sb.drop)
theorem G.last{la lb out:List Keyed}{ia ib:Nat}{x:Keyed}(h:G κ la lb out ia ib)(sb:lb.Pairwise (le κ))(ha:la.drop ia=[x])(hx:∀y∈lb,le κ y x):Rx κ la lb (out++lb.drop ib++la.drop ia):=by
 rw[C9]
 refine h.fin Bw ?_
 rw[ha,Af]
 refine⟨sb.drop,JX _ _,fun y hy z hz=> ?_⟩
 rw[x8.mp hz]
 exact hx y (Ef hy)
structure SG(st st':SortSt):Prop where
 ki:kindOf st'=kindOf st
 ar:arrOf st'=arrOf st
 pe:pendingOf st'=pendingOf st
 fa:failedOf st'=failedOf st
theorem SG.refl(st:SortSt):SG st st:=⟨rfl,rfl,rfl,rfl⟩
theorem SG.trans{a b c:SortSt}(h:SG a b)(g:SG b c):SG a c:=⟨g.ki.trans h.ki,g.ar.trans h.ar,g.pe.trans h.pe,g.fa.trans h.fa⟩
theorem Ir{g:Nat}{st:SortSt}{Q:Unit->SortSt->Prop}(q:∀st',SG st st'->Q () st'):wpS (model prog w) A E s (smg g) Q st:=Ct (q _ ⟨rfl,rfl,rfl,rfl⟩)
theorem J9{l:List Keyed}(h:l.Pairwise (le κ)){i j:Nat}{x y:Keyed}(Fc:i<=j)(hx:l[i]? =some x)(hy:l[j]? =some y):le κ x y:=by
 obtain⟨h1,e1⟩:=u4.mp hx
 obtain⟨h2,e2⟩:=u4.mp hy
 rcases Nat.lt_or_eq_of_le Fc with h3|h3
 ·have:=Ee.mp h i j h1 h2 h3
  rw[e1,e2] at this
  exact this
 ·subst h3
  rw[<-e1,<-e2]
  exact Bv _
theorem QT(a:Array Keyed)(i:Nat):(a.extract i).toList=a.toList.drop i:=by simp [Ed]
theorem XF(a:Array Keyed)(i j:Nat):(a.extract i j).toList=(a.toList.drop i).take (j-i):=by simp
theorem tl(a:Array Keyed)(i:Nat):a.toList[i]? =a[i]? :=Ec
theorem U0(a:Array Keyed):a.toList.length=a.size:=X9
theorem N6{a:Array Keyed}{i:Nat}(h:i<a.size):∃x,a[i]? =some x:=⟨a[i],Gu h⟩
theorem O7{a:Array Keyed}{i:Nat}{x:Keyed}(h:a[i]? =some x):x∈a.toList:=E8 (by rw[tl];exact h)
theorem LA{l:List Keyed}{i:Nat}{y:Keyed}(h:y∈l.drop i):∃j,i<=j/\l[j]? =some y:=by
 obtain⟨j,hj⟩:=BA.mp h
 rw[Ak] at hj
 exact⟨i+j,by omega,hj⟩
theorem W1{x y:κ.α}(h:κ.blt y x=false):κ.kle x y:=KeyOrd.kle_of_not_klt (by intro z;have z':κ.blt y x=true:=z;rw[h] at z';cases z')
theorem Xa{x y:κ.α}(h:κ.kle x y):κ.blt y x=false:=by
 cases hb:κ.blt y x with
 |false=>rfl
 |true=>exact absurd (show κ.klt y x from hb) (KeyOrd.not_klt_of_kle h)
theorem Da{x y:κ.α}(h:κ.blt x y=true):κ.kle x y:=KeyOrd.kle_of_klt (show κ.klt x y from h)
theorem Iw(ho:Ep κ kd prog w A s){st:SortSt}{key:Keyed}{arr:Array Keyed}{base n M8:Nat}{Q:Option Nat->SortSt->Prop}(hk:kindOf st=kd)(hH:∀p∈arr.toList,EN κ p)(Hc:EN κ key)(hb:base+n<=arr.size)(hh:M8<n)(so:∀i j x y,base<=i->i<=j->j<base+n->arr[i]? =some x->arr[j]? =some y->le κ x y)
  (q:∀k,k<=n->(∀i x,i<k->arr[base+i]? =some x->le κ x key)->(∀i x,k<=i->i<n->arr[base+i]? =some x->le κ key x)->Q (some k) st):wpS (model prog w) A E s (gal false key arr base n M8) Q st:=by
 refine RU ho hk hH Hc hb hh (fun i j Fc hj h=> ?_) (fun k k1 k2 k3=>q k k1 (fun i x hi hx=> ?_) (fun i x hi Xv hx=> ?_))
 ·obtain⟨x,hx⟩:=N6 (a:=arr) (i:=base+i) (by omega)
  obtain⟨y,hy⟩:=N6 (a:=arr) (i:=base+j) (by omega)
  have:=so (base+i) (base+j) x y (by omega) (by omega) (by omega) hx hy
  unfold Rs at h⊢
  rw[Y4 hy] at h
  rw[Y4 hx]
  simp at h⊢
  exact Xa (AM this (W1 h))
 ·have:=k2 i hi
  unfold Rs at this
  rw[Y4 hx] at this
  simp at this
  exact W1 this
 ·have:=k3 i hi Xv
  unfold Rs at this
  rw[Y4 hx] at this
  simp at this
  exact Da this
theorem Ix(ho:Ep κ kd prog w A s){st:SortSt}{key:Keyed}{arr:Array Keyed}{base n M8:Nat}{Q:Option Nat->SortSt->Prop}(hk:kindOf st=kd)(hH:∀p∈arr.toList,EN κ p)(Hc:EN κ key)(hb:base+n<=arr.size)(hh:M8<n)(so:∀i j x y,base<=i->i<=j->j<base+n->arr[i]? =some x->arr[j]? =some y->le κ x y)
  (q:∀k,k<=n->(∀i x,i<k->arr[base+i]? =some x->le κ x key)->(∀i x,k<=i->i<n->arr[base+i]? =some x->le κ key x)->Q (some k) st):wpS (model prog w) A E s (gal true key arr base n M8) Q st:=by
 refine RU ho hk hH Hc hb hh (fun i j Fc hj h=> ?_) (fun k k1 k2 k3=>q k k1 (fun i x hi hx=> ?_) (fun i x hi Xv hx=> ?_))
 ·obtain⟨x,hx⟩:=N6 (a:=arr) (i:=base+i) (by omega)
  obtain⟨y,hy⟩:=N6 (a:=arr) (i:=base+j) (by omega)
  have:=so (base+i) (base+j) x y (by omega) (by omega) (by omega) hx hy
  unfold Rs at h⊢
  rw[Y4 hy] at h
  rw[Y4 hx]
  simp at h⊢
  exact KeyOrd.klt_of_kle_of_klt this h
 ·have:=k2 i hi
  unfold Rs at this
  rw[Y4 hx] at this
  simp at this
  exact Da this
 ·have:=k3 i hi Xv
  unfold Rs at this
  rw[Y4 hx] at this
  simp at this
  exact W1 this
structure Gd(κ:KeyKind)(a b out:Array Keyed)(ia ib:Nat):Prop where
 g:G κ a.toList b.toList out.toList ia ib
 la:ia+1<a.size
 lb:ib<b.size
def Y5(κ:KeyKind)(a b r:Array Keyed):Prop:=Rx κ a.toList b.toList r.toList
theorem Te{a b out:Array Keyed}{ia ib:Nat}{x y:Keyed}(h:G κ a.toList b.toList out.toList ia ib)(sa:a.toList.Pairwise (le κ))(sb:b.toList.Pairwise (le κ))(hx:a[ia]? =some x)(hy:b[ib]? =some y)(CD:le κ x y):G κ a.toList b.toList (out.push x).toList (ia+1) ib:=by
 rw[NY]
 refine h.push sa (by rw[tl];exact hx) fun z hz=> ?_
 obtain⟨j,hj,ez⟩:=LA hz
 exact le_trans CD (J9 sb hj (by rw[tl];exact hy) ez)
theorem Td{a b out:Array Keyed}{ia ib:Nat}{x y:Keyed}(h:G κ a.toList b.toList out.toList ia ib)(sa:a.toList.Pairwise (le κ))(sb:b.toList.Pairwise (le κ))(hx:a[ia]? =some x)(hy:b[ib]? =some y)(CD:le κ y x):G κ a.toList b.toList (out.push y).toList ia (ib+1):=(Te h.swap sb sa hy hx CD).swap
theorem UG{a b out:Array Keyed}{ia ib k:Nat}{y:Keyed}(h:G κ a.toList b.toList out.toList ia ib)(sa:a.toList.Pairwise (le κ))(sb:b.toList.Pairwise (le κ))(hk:ia+k<=a.size)(hy:b[ib]? =some y)(CD:∀i x,i<k->a[ia+i]? =some x->le κ x y):G κ a.toList b.toList (out++a.extract ia (ia+k)).toList (ia+k) ib:=by
 rw[Q6,XF,Nat.add_sub_cancel_left]
 refine h.chunk sa k (by rw[U0];exact hk) fun i hi x hx z hz=> ?_
 obtain⟨j,hj,ez⟩:=LA hz
 exact le_trans (CD i x hi (by rw[<-tl];exact hx)) (J9 sb hj (by rw[tl];exact hy) ez)
theorem Qbj{a b out:Array Keyed}{ia ib k:Nat}{x:Keyed}(h:G κ a.toList b.toList out.toList ia ib)(sa:a.toList.Pairwise (le κ))(sb:b.toList.Pairwise (le κ))(hk:ib+k<=b.size)(hx:a[ia]? =some x)(CD:∀i y,i<k->b[ib+i]? =some y->le κ y x):G κ a.toList b.toList (out++b.extract ib (ib+k)).toList ia (ib+k):=(UG h.swap sb sa hk hx CD).swap
theorem XG{a b out:Array Keyed}{ia ib:Nat}(h:G κ a.toList b.toList out.toList ia ib)(sa:a.toList.Pairwise (le κ))(e:(ib==b.size)=true):Y5 κ a b (out++a.extract ia++b.extract ib):=by
 unfold Y5
 rw[Q6,Q6,QT,QT]
 exact h.doneA sa (Gs (by rw[U0];have:=eq_of_beq e;omega))
theorem QcP{a b out:Array Keyed}{ia ib:Nat}(h:G κ a.toList b.toList out.toList ia ib)(sb:b.toList.Pairwise (le κ))(e:(ia==a.size)=true):Y5 κ a b (out++a.extract ia++b.extract ib):=by
 unfold Y5
 rw[Q6,Q6,QT,QT]
 exact h.doneB sb (Gs (by rw[U0];have:=eq_of_beq e;omega))
theorem Pc{a b out:Array Keyed}{ia ib:Nat}(h:G κ a.toList b.toList out.toList ia ib)(sb:b.toList.Pairwise (le κ))(hl:∀x,a[a.size-1]? =some x->∀y∈b.toList,le κ y x)(e:(ia+1==a.size)=true):Y5 κ a b (out++b.extract ib++a.extract ia):=by
 unfold Y5
 have e':ia+1=a.size:=eq_of_beq e
 obtain⟨x,hx⟩:=N6 (a:=a) (i:=ia) (by omega)
 rw[Q6,Q6,QT,QT]
 refine h.last (x:=x) sb ?_ (hl x (by rw[show a.size-1=ia by omega];exact hx))
 rw[Jp (by rw[tl];exact hx),Gs (by rw[U0];omega)]
abbrev C1:=Option (Array Keyed)×Array Keyed×Nat×Nat×Nat×Nat
abbrev C2:=Option (Array Keyed)×Array Keyed×Nat×Nat×Nat×Nat×Nat
def R1(κ:KeyKind)(a b:Array Keyed)(st:SortSt)(n:Nat)(c:C1)(st':SortSt):Prop:=SG st st'/\((∃r,c.1=some r/\Y5 κ a b r)\/(c.1=none/\Gd κ a b c.2.1 c.2.2.1 c.2.2.2.1/\n<=c.2.2.1+c.2.2.2.1))
def R2(κ:KeyKind)(a b:Array Keyed)(st:SortSt)(n:Nat)(c:C2)(st':SortSt):Prop:=SG st st'/\((∃r,c.1=some r/\Y5 κ a b r)\/(c.1=none/\Gd κ a b c.2.1 c.2.2.1 c.2.2.2.1/\n<=c.2.2.1+c.2.2.2.1))
def J1(κ:KeyKind)(a b:Array Keyed)(st:SortSt)(n j:Nat)(c:C1)(st':SortSt):Prop:=SG st st'/\c.1=none/\Gd κ a b c.2.1 c.2.2.1 c.2.2.2.1/\n+j<=c.2.2.1+c.2.2.2.1
def J2(κ:KeyKind)(a b:Array Keyed)(st:SortSt)(n j:Nat)(c:C2)(st':SortSt):Prop:=SG st st'/\c.1=none/\Gd κ a b c.2.1 c.2.2.1 c.2.2.2.1/\n<=c.2.2.1+c.2.2.2.1
def J0(κ:KeyKind)(a b:Array Keyed)(st:SortSt)(i:Nat)(c:Option (Array Keyed)×Array Keyed×Nat×Nat×Nat)(st':SortSt):Prop:=SG st st'/\c.1=none/\Gd κ a b c.2.1 c.2.2.1 c.2.2.2.1/\i+1<=c.2.2.1+c.2.2.2.1
theorem ZI(ho:Ep κ kd prog w A s){st:SortSt}{a b:Array Keyed}{Q:Array Keyed->SortSt->Prop}(hk:kindOf st=kd)(hHa:∀p∈a.toList,EN κ p)(hHb:∀p∈b.toList,EN κ p)(sa:a.toList.Pairwise (le κ))(sb:b.toList.Pairwise (le κ))(na:1<=a.size)(nb:1<=b.size)
  (h0:∀x,b[0]? =some x->∀y∈a.toList,le κ x y)(hl:∀x,a[a.size-1]? =some x->∀y∈b.toList,le κ y x)
  (q:∀r st',SG st st'->Y5 κ a b r->Q r st'):wpS (model prog w) A E s (mlo a b) Q st:=by
 obtain⟨b0,hb0⟩:=N6 (a:=b) (i:=0) (by omega)
 have g0:G κ a.toList b.toList (#[b0]:Array Keyed).toList 0 1:=by
  have g:G κ a.toList b.toList (#[]:Array Keyed).toList 0 0:=⟨by simp,List.Pairwise.nil,fun x hx=>by cases hx⟩
  obtain⟨a0,ha0⟩:=N6 (a:=a) (i:=0) (by omega)
  exact Td g sa sb ha0 hb0 (h0 b0 hb0 a0 (O7 ha0))
 have soA:∀i j x y,i<=j->a[i]? =some x->a[j]? =some y->le κ x y:=fun i j x y Fc hx hy=>J9 sa Fc (by rw[tl];exact hx) (by rw[tl];exact hy)
 have soB:∀i j x y,i<=j->b[i]? =some x->b[j]? =some y->le κ x y:=fun i j x y Fc hx hy=>J9 sb Fc (by rw[tl];exact hx) (by rw[tl];exact hy)
 refine j3 (Cy (Ah ⟨rfl,?_⟩))
 refine j3 (A8 hb0 ?_)
 refine j8 (fun h=>i7 (q _ _ (SG.refl _) (XG g0 sa h))) (fun h=>j8 (fun h2=>i7 (q _ _ (SG.refl _) (Pc g0 sb hl h2))) (fun h2=>j3 (Ag ?_)))
 have n1:¬1=b.size:=fun e=>h (by rw[<-e];rfl)
 have n2:¬0+1=a.size:=fun e=>h2 (by rw[<-e];rfl)
 refine K8 (Q1:=fun c st'=>SG st st'/\∃r,c.1=some r/\Y5 κ a b r) (L8 (J0 κ a b st) ?_ ?_ ⟨SG.refl _,rfl,⟨g0,by show 0+1<a.size;omega,by show 1<b.size;omega⟩,by show 0+1<=0+1;omega⟩) ?_
 ·rintro i ⟨o,out,ia,ib,mg⟩ st' _ hi ⟨s1,e1,gd,hn⟩
  dsimp only at e1 gd hn
  refine K8 (Q1:=R1 κ a b st (ia+ib+1)) (L8 (J1 κ a b st (ia+ib)) ?_ ?_ ⟨s1,rfl,gd,l8 _⟩) ?_
  ·rintro j ⟨o,out,ja,jb,ac,bc⟩ st2 _ hj ⟨s2,e2,gd,hn2⟩
   dsimp only at e2 gd hn2
   obtain⟨x,hx⟩:=N6 (a:=a) (i:=ja) (by have:=gd.la;omega)
   obtain⟨y,hy⟩:=N6 (a:=b) (i:=jb) gd.lb
   refine j3 (A8 hy (j3 (A8 hx (j3 (Ky ho (s2.ki.trans hk) (hHb _ (O7 hy)) (hHa _ (O7 hx)) ?_)))))
   refine j8 (fun hb=>j3 (A8 hy ?_)) (fun hb=>j3 (A8 hx ?_))
   ·have g1:=Td gd.g sa sb hx hy (Da hb)
    refine j8 (fun e=>i7 ⟨s2, .inl ⟨_,rfl,XG g1 sa e⟩⟩) (fun e=> ?_)
    have ne:¬jb+1=b.size:=fun e'=>e (by rw[<-e'];exact Bu _)
    have gd1:Gd κ a b (out.push y) ja (jb+1):=⟨g1,gd.la,by have:=gd.lb;omega⟩
    exact j8 (fun _=>i7 ⟨s2, .inr ⟨rfl,gd1,by show ia+ib+1<=ja+(jb+1);omega⟩⟩) (fun _=>i7 ⟨s2,rfl,gd1,by show ia+ib+(j+1)<=ja+(jb+1);omega⟩)
   ·have g1:=Te gd.g sa sb hx hy (W1 (by simpa using hb))
    refine j8 (fun e=>i7 ⟨s2, .inl ⟨_,rfl,Pc g1 sb hl e⟩⟩) (fun e=> ?_)
    have ne:¬ja+1+1=a.size:=fun e'=>e (by rw[<-e'];exact Bu _)
    have gd1:Gd κ a b (out.push x) (ja+1) jb:=⟨g1,by have:=gd.la;omega,gd.lb⟩
    exact j8 (fun _=>i7 ⟨s2, .inr ⟨rfl,gd1,by show ia+ib+1<=ja+1+jb;omega⟩⟩) (fun _=>i7 ⟨s2,rfl,gd1,by show ia+ib+(j+1)<=ja+1+jb;omega⟩)
  ·rintro⟨o,out,ja,jb,ac,bc⟩ st2 ⟨s2,e2,gd,hn2⟩
   dsimp only at e2 gd hn2
   exact⟨s2, .inr ⟨e2,gd,by show ia+ib+1<=ja+jb;omega⟩⟩
  ·rintro⟨o,out,ja,jb,ac,bc⟩ st2 ⟨s2,⟨r,e2,hr⟩|⟨e2,gd,hn2⟩⟩
   ·dsimp only at e2
    subst e2
    exact i7 ⟨s2,r,rfl,hr⟩
   ·dsimp only at e2 gd hn2
    subst e2
    refine j3 (Cy (Ah ⟨rfl,?_⟩))
    refine K8 (Q1:=R2 κ a b st (ia+ib+1)) (L8 (J2 κ a b st (ia+ib+1)) ?_ ?_ ⟨s2,rfl,gd,hn2⟩) ?_
    ·clear gd hn2
     rintro j ⟨o,out,ja,jb,mg2,ac,bc⟩ st3 _ hj ⟨s3,e3,gd,hn3⟩
     dsimp only at e3 gd hn3
     obtain⟨y,hy⟩:=N6 (a:=b) (i:=jb) gd.lb
     refine j8 (fun _=> ?_) (fun _=> ?_)<;>{
      refine j3 (Ir fun st4 s4=> ?_)
      have s34:=s3.trans s4
      have k4:=s34.ki.trans hk
      have la:=gd.la
      refine j3 (A8 hy (j3 (Iw ho k4 hHa (hHb _ (O7 hy)) (by show ja+(a.size-ja)<=a.size;omega) (by show 0<a.size-ja;omega) (fun i j x y _ Fc _ hx hy=>soA i j x y Fc hx hy) fun k (k1:k<=a.size-ja) (k2:∀i x,i<k->a[ja+i]? =some x->le κ x y) (k3:∀i x,k<=i->i<a.size-ja->a[ja+i]? =some x->le κ y x)=> ?_)))
      have gk:=UG (k:=k) gd.g sa sb (by omega) hy k2
      refine j8 (fun hk0=>j8 (fun e=>i7 ⟨s34, .inl ⟨_,rfl,Pc gk sb hl e⟩⟩) fun e=>j8 (fun e2=>i7 ⟨s34, .inl ⟨_,rfl,QcP gk sb e2⟩⟩) fun e2=> ?_) (fun hk0=> ?_)
      have ne1:¬ja+k+1=a.size:=fun e'=>e (by show (ja+k+1==a.size)=true;rw[e'];exact Bu _)
      have ne2:¬ja+k=a.size:=fun e'=>e2 (by show (ja+k==a.size)=true;rw[e'];exact Bu _)
      dsimp only
      obtain⟨o2,ka,hO,hK,gk',L1,C1,hn4⟩:∃(o2:Array Keyed) (ka:Nat),o2=out++a.extract ja (ja+k)/\ka=ja+k/\G κ a.toList b.toList o2.toList ka jb/\ka+1<a.size/\(∀i x,ka<=i->i<a.size->a[i]? =some x->le κ y x)/\ia+ib+1<=ka+jb:=⟨_,_,rfl,rfl,gk,by omega,fun i x h1 h2 hx=>k3 (i-ja) x (by omega) (by omega) (by rw[show ja+(i-ja)=i by omega];exact hx),by omega⟩
      rw[<-hO,<-hK]
      rotate_left
      have ek:k=0:=by omega
      dsimp only
      obtain⟨o2,ka,hO,hK,gk',L1,C1,hn4⟩:∃(o2:Array Keyed) (ka:Nat),o2=out/\ka=ja/\G κ a.toList b.toList o2.toList ka jb/\ka+1<a.size/\(∀i x,ka<=i->i<a.size->a[i]? =some x->le κ y x)/\ia+ib+1<=ka+jb:=⟨out,ja,rfl,rfl,gd.g,gd.la,fun i x h1 h2 hx=>k3 (i-ja) x (by omega) (by omega) (by rw[show ja+(i-ja)=i by omega];exact hx),hn3⟩
      rw[<-hO,<-hK]
      all_goals
       obtain⟨x,hx⟩:=N6 (a:=a) (i:=ka) (by omega)
       have lb:=gd.lb
       refine j3 (A8 hy ?_)
       have g1:=Td gk' sa sb hx hy (C1 ka x (l8 _) (by omega) hx)
       refine j8 (fun e=>i7 ⟨s34, .inl ⟨_,rfl,XG g1 sa e⟩⟩) (fun e=> ?_)
       have ne:¬jb+1=b.size:=fun e'=>e (by rw[e'];exact Bu _)
       refine j3 (A8 hx (j3 (Ix ho k4 hHb (hHa _ (O7 hx)) (by omega) (by omega) (fun i j x y _ Fc _ hx hy=>soB i j x y Fc hx hy) fun k' l1 l2 l3=> ?_)))
       have g2:=Qbj (k:=k') g1 sa sb (by omega) hx l2
       have fin3:∀(o3:Array Keyed) (jc:Nat),G κ a.toList b.toList o3.toList ka jc->jc<b.size->(∀z,b[jc]? =some z->le κ x z)->jb+1<=jc->((ka+1+1==a.size)=true->Y5 κ a b ((o3.push x)++b.extract jc++a.extract (ka+1)))/\(¬(ka+1+1==a.size)=true->Gd κ a b (o3.push x) (ka+1) jc/\ia+ib+1<=ka+1+jc):=fun o3 jc h1 h2 h3 h4=>by
        obtain⟨z,hz⟩:=N6 h2
        have g3:=Te h1 sa sb hx hz (h3 z hz)
        exact⟨fun e5=>Pc g3 sb hl e5,fun e5=>⟨⟨g3,by have:¬ka+1+1=a.size:=fun e'=>e5 (by rw[e'];exact Bu _);omega,h2⟩,by omega⟩⟩
       refine j8 (fun h5=>j8 (fun e3=>i7 ⟨s34, .inl ⟨_,rfl,XG g2 sa e3⟩⟩) fun e3=>j3 (A8 hx ?_)) (fun h5=>j3 (A8 hx ?_))
       ·have ne3:¬jb+1+k'=b.size:=fun e'=>e3 (by rw[e'];exact Bu _)
        have f3:=fin3 _ _ g2 (by omega) (fun z hz=>l3 k' z (l8 _) (by omega) hz) (by omega)
        exact j8 (fun e5=>i7 ⟨s34, .inl ⟨_,rfl,f3.1 e5⟩⟩) (fun e5=>j8 (fun _=>i7 ⟨s34, .inr ⟨rfl,f3.2 e5⟩⟩) (fun _=>i7 ⟨s34,rfl,f3.2 e5⟩))
       ·have f3:=fin3 _ _ g1 (by omega) (fun z hz=>l3 0 z (by omega) (by omega) hz) (by omega)
        exact j8 (fun e5=>i7 ⟨s34, .inl ⟨_,rfl,f3.1 e5⟩⟩) (fun e5=>j8 (fun _=>i7 ⟨s34, .inr ⟨rfl,f3.2 e5⟩⟩) (fun _=>i7 ⟨s34,rfl,f3.2 e5⟩))
     }
    ·rintro⟨o,out,ja,jb,mg2,ac,bc⟩ st3 ⟨s3,e3,gd,hn3⟩
     exact⟨s3, .inr ⟨e3,gd,hn3⟩⟩
    ·rintro⟨o,out,ja,jb,mg2,ac,bc⟩ st3 ⟨s3,⟨r,e3,hr⟩|⟨e3,gd,hn3⟩⟩
     ·dsimp only at e3
      subst e3
      exact i7 ⟨s3,r,rfl,hr⟩
     ·dsimp only at e3 gd hn3
      subst e3
      exact j3 (Ir fun st4 s4=>i7 ⟨s3.trans s4,rfl,gd,by show i+1+1<=ja+jb;omega⟩)
 ·rintro⟨o,out,ia,ib,mg⟩ st' ⟨s1,e1,gd,hn⟩
  dsimp only at e1 gd hn
  exact absurd gd.lb (by have:=gd.la;omega)
 ·rintro⟨o,out,ia,ib,mg⟩ st' ⟨s1,r,e1,hr⟩
  dsimp only at e1
  subst e1
  exact i7 (q r st' s1 hr)
structure Hh(κ:KeyKind)(la lb out:List Keyed)(na nb:Nat):Prop where
 pm:out.Perm (la.drop na++lb.drop nb)
 so:out.reverse.Pairwise (le κ)
 up:∀x,(x∈la.take na\/x∈lb.take nb)->∀y∈out,le κ x y
theorem Hh.swap{la lb out:List Keyed}{na nb:Nat}(h:Hh κ la lb out na nb):Hh κ lb la out nb na:=⟨h.pm.trans Bw,h.so,fun x hx y hy=>h.up x hx.symm y hy⟩
theorem Bk{l:List Keyed}{i:Nat}{y:Keyed}(h:y∈l.take i):∃j,j<i/\l[j]? =some y:=by
 obtain⟨j,hj⟩:=BA.mp h
 rw[Y3] at hj
 split at hj
 ·rename_i h1;exact⟨j,h1,hj⟩
 ·cases hj
theorem MB{l:List Keyed}{n:Nat}{x:Keyed}(h:l[n]? =some x):l.take (n+1)=l.take n++[x]:=by rw[x6,h];rfl
theorem Hh.push{la lb out:List Keyed}{n nb:Nat}{x:Keyed}(h:Hh κ la lb out (n+1) nb)(sa:la.Pairwise (le κ))(ha:la[n]? =some x)(CD:∀z∈lb.take nb,le κ z x):Hh κ la lb (out++[x]) n nb:=by
 refine⟨?_,?_,?_⟩
 ·rw[Jp ha]
  exact Bw.trans (h.pm.cons x)
 ·rw[Vw]
  show (x::out.reverse).Pairwise (le κ)
  rw[Cw]
  exact⟨fun y hy=>h.up x (.inl (by rw[MB ha];simp)) y (JW.mp hy),h.so⟩
 ·intro z hz y hy
  rcases D8.mp hy with h1|h1
  ·exact h.up z (hz.imp (fun m=>by rw[MB ha];exact Mi _ m) id) y h1
  ·rw[x8.mp h1]
   rcases hz with m|m
   ·obtain⟨j,hj,ez⟩:=Bk m
    exact J9 sa (by omega) ez ha
   ·exact CD z m
theorem Hh.chunk{la lb:List Keyed}{nb:Nat}(sa:la.Pairwise (le κ))(d:Nat):∀(k:Nat) {out:List Keyed},Hh κ la lb out (d+k) nb->d+k<=la.length->(∀i,i<k->∀x,la[d+i]? =some x->∀z∈lb.take nb,le κ z x)->Hh κ la lb (out++((la.drop d).take k).reverse) d nb
 |0,out,h,_,_=>by rw[Aj,List.reverse_nil,List.append_nil];exact h
 |k+1,out,h,hl,hk=>by
  obtain⟨x,hx⟩:∃x,la[d+k]? =some x:=⟨la[d+k],E5 (by omega)⟩
  have h1:=h.push (n:=d+k) sa hx (hk k (by omega) x hx)
  have h2:=Hh.chunk sa d k h1 (by omega) (fun i hi=>hk i (by omega))
  have e:(la.drop d).take (k+1)=(la.drop d).take k++[x]:=MB (by rw[Ak];exact hx)
  rw[e,Vw,<-C9]
  exact h2
theorem Hh.fin{la lb out r:List Keyed}{na nb:Nat}(h:Hh κ la lb out na nb)(pr:r.Perm (la.take na++lb.take nb))(sr:r.Pairwise (le κ)):Rx κ la lb (r++out.reverse):=by
 constructor
 ·refine(pr.append (out.reverse_perm.trans h.pm)).trans ?_
  have e1:la++lb=la.take na++(la.drop na++(lb.take nb++lb.drop nb)):=by rw[<-C9,O8,O8]
  rw[e1,C9]
  refine NZ _ ?_
  rw[<-C9,<-C9]
  exact Vx _ Bw
 ·rw[Af]
  exact⟨sr,h.so,fun x hx y hy=>h.up x (D8.mp (pr.mem_iff.mp hx)) y (JW.mp hy)⟩
theorem QU(a:Array Keyed)(n:Nat):(a.extract 0 n).toList=a.toList.take n:=by simp
abbrev Hl(κ:KeyKind)(a b out:Array Keyed)(na nb:Nat):Prop:=Hh κ a.toList b.toList out.toList na nb
theorem Jf{a b out:Array Keyed}{n nb:Nat}{x y:Keyed}(h:Hl κ a b out (n+1) (nb+1))(sa:a.toList.Pairwise (le κ))(sb:b.toList.Pairwise (le κ))(hx:a[n]? =some x)(hy:b[nb]? =some y)(CD:le κ y x):Hl κ a b (out.push x) n (nb+1):=by
 show Hh κ a.toList b.toList (out.push x).toList n (nb+1)
 rw[NY]
 refine Hh.push h sa (by rw[tl];exact hx) fun z hz=> ?_
 obtain⟨j,hj,ez⟩:=Bk hz
 exact le_trans (J9 (j:=nb) sb (by omega) ez (by rw[tl];exact hy)) CD
theorem Uc{a b out:Array Keyed}{na nb:Nat}{x y:Keyed}(h:Hl κ a b out (na+1) (nb+1))(sa:a.toList.Pairwise (le κ))(sb:b.toList.Pairwise (le κ))(hx:a[na]? =some x)(hy:b[nb]? =some y)(CD:le κ x y):Hl κ a b (out.push y) (na+1) nb:=(Jf (Hh.swap h) sb sa hy hx CD).swap
theorem Pp{a b out:Array Keyed}{d n nb:Nat}{y:Keyed}(h:Hl κ a b out n (nb+1))(sa:a.toList.Pairwise (le κ))(sb:b.toList.Pairwise (le κ))(hd:d<=n)(hn:n<=a.size)(hy:b[nb]? =some y)(CD:∀i x,d<=i->i<n->a[i]? =some x->le κ y x):Hl κ a b (out++(a.extract d n).reverse) d (nb+1):=by
 show Hh κ a.toList b.toList (out++(a.extract d n).reverse).toList d (nb+1)
 rw[Q6,JV,XF]
 refine Hh.chunk sa d (n-d) (by rw[show d+(n-d)=n by omega];exact h) (by rw[U0];omega) fun i hi x hx z hz=> ?_
 obtain⟨j,hj,ez⟩:=Bk hz
 exact le_trans (J9 (j:=nb) sb (by omega) ez (by rw[tl];exact hy)) (CD (d+i) x (by omega) (by omega) (by rw[<-tl];exact hx))
theorem XB{a b out:Array Keyed}{d n na:Nat}{x:Keyed}(h:Hl κ a b out (na+1) n)(sa:a.toList.Pairwise (le κ))(sb:b.toList.Pairwise (le κ))(hd:d<=n)(hn:n<=b.size)(hx:a[na]? =some x)(CD:∀i y,d<=i->i<n->b[i]? =some y->le κ x y):Hl κ a b (out++(b.extract d n).reverse) (na+1) d:=(Pp (Hh.swap h) sb sa hd hn hx CD).swap
theorem Po{a b out:Array Keyed}{na nb:Nat}(h:Hl κ a b out na nb)(sb:b.toList.Pairwise (le κ))(e:(na==0)=true):Y5 κ a b (a.extract 0 na++b.extract 0 nb++out.reverse):=by
 unfold Y5
 have e':na=0:=eq_of_beq e
 subst e'
 rw[Q6,Q6,JV,QU,QU]
 exact Hh.fin h (Cu _) (by rw[Aj,List.nil_append];exact sb.take)
theorem Qcs{a b out:Array Keyed}{na nb:Nat}(h:Hl κ a b out na nb)(sa:a.toList.Pairwise (le κ))(e:(nb==0)=true):Y5 κ a b (a.extract 0 na++b.extract 0 nb++out.reverse):=by
 unfold Y5
 have e':nb=0:=eq_of_beq e
 subst e'
 rw[Q6,Q6,JV,QU,QU]
 exact Hh.fin h (Cu _) (by rw[Aj,List.append_nil];exact sa.take)
theorem Ji{a b out:Array Keyed}{na nb:Nat}(h:Hl κ a b out na nb)(sa:a.toList.Pairwise (le κ))(h0:∀x,b[0]? =some x->∀y∈a.toList,le κ x y)(e:(nb==1)=true):Y5 κ a b (b.extract 0 nb++a.extract 0 na++out.reverse):=by
 unfold Y5
 have e':nb=1:=eq_of_beq e
 subst e'
 rw[Q6,Q6,JV,QU,QU]
 refine Hh.fin h Bw ?_
 rw[Af]
 refine⟨?_,sa.take,fun x hx y hy=> ?_⟩
 ·cases b.toList with
  |nil=>exact List.Pairwise.nil
  |cons z l=>exact JX _ _
 ·obtain⟨j,hj,ex⟩:=Bk hx
  have:j=0:=by omega
  subst this
  exact h0 x (by rw[<-tl];exact ex) y (Y1 hy)
structure Hd(κ:KeyKind)(a b out:Array Keyed)(na nb:Nat):Prop where
 g:Hl κ a b out na nb
 na1:1<=na
 nb2:2<=nb
 la:na<=a.size
 lb:nb<=b.size
abbrev D1:=Option (Array Keyed)×Nat×Nat×Array Keyed×Nat×Nat
abbrev D2:=Option (Array Keyed)×Nat×Nat×Array Keyed×Nat×Nat×Nat
def S1(κ:KeyKind)(a b:Array Keyed)(st:SortSt)(n:Nat)(c:D1)(st':SortSt):Prop:=SG st st'/\((∃r,c.1=some r/\Y5 κ a b r)\/(c.1=none/\Hd κ a b c.2.2.2.1 c.2.1 c.2.2.1/\c.2.1+c.2.2.1+n<=a.size+b.size))
def S2(κ:KeyKind)(a b:Array Keyed)(st:SortSt)(n:Nat)(c:D2)(st':SortSt):Prop:=SG st st'/\((∃r,c.1=some r/\Y5 κ a b r)\/(c.1=none/\Hd κ a b c.2.2.2.1 c.2.1 c.2.2.1/\c.2.1+c.2.2.1+n<=a.size+b.size))
def L1(κ:KeyKind)(a b:Array Keyed)(st:SortSt)(n j:Nat)(c:D1)(st':SortSt):Prop:=SG st st'/\c.1=none/\Hd κ a b c.2.2.2.1 c.2.1 c.2.2.1/\c.2.1+c.2.2.1+(n+j)<=a.size+b.size
def L2(κ:KeyKind)(a b:Array Keyed)(st:SortSt)(n j:Nat)(c:D2)(st':SortSt):Prop:=SG st st'/\c.1=none/\Hd κ a b c.2.2.2.1 c.2.1 c.2.2.1/\c.2.1+c.2.2.1+n<=a.size+b.size
def L0(κ:KeyKind)(a b:Array Keyed)(st:SortSt)(i:Nat)(c:Option (Array Keyed)×Nat×Nat×Array Keyed×Nat)(st':SortSt):Prop:=SG st st'/\c.1=none/\Hd κ a b c.2.2.2.1 c.2.1 c.2.2.1/\c.2.1+c.2.2.1+(i+1)<=a.size+b.size
theorem ZJ(ho:Ep κ kd prog w A s){st:SortSt}{a b:Array Keyed}{Q:Array Keyed->SortSt->Prop}(hk:kindOf st=kd)(hHa:∀p∈a.toList,EN κ p)(hHb:∀p∈b.toList,EN κ p)(sa:a.toList.Pairwise (le κ))(sb:b.toList.Pairwise (le κ))(na:1<=a.size)(nb:1<=b.size)
  (h0:∀x,b[0]? =some x->∀y∈a.toList,le κ x y)(hl:∀x,a[a.size-1]? =some x->∀y∈b.toList,le κ y x)
  (q:∀r st',SG st st'->Y5 κ a b r->Q r st'):wpS (model prog w) A E s (mhi a b) Q st:=by
 obtain⟨a0,ha0⟩:=N6 (a:=a) (i:=a.size-1) (by omega)
 have g0:Hl κ a b (#[a0]:Array Keyed) (a.size-1) b.size:=by
  have g:Hl κ a b (#[]:Array Keyed) (a.size-1+1) (b.size-1+1):=⟨by rw[Gs (by rw[U0];omega),Gs (by rw[U0];omega)];exact Cu _,List.Pairwise.nil,fun x _ y hy=>by cases hy⟩
  obtain⟨y,hy⟩:=N6 (a:=b) (i:=b.size-1) (by omega)
  have:=Jf g sa sb ha0 hy (hl a0 ha0 y (O7 hy))
  rw[show b.size-1+1=b.size by omega] at this
  exact this
 have soA:∀i j x y,i<=j->a[i]? =some x->a[j]? =some y->le κ x y:=fun i j x y Fc hx hy=>J9 sa Fc (by rw[tl];exact hx) (by rw[tl];exact hy)
 have soB:∀i j x y,i<=j->b[i]? =some x->b[j]? =some y->le κ x y:=fun i j x y Fc hx hy=>J9 sb Fc (by rw[tl];exact hx) (by rw[tl];exact hy)
 refine j3 (Cy (Ah ⟨rfl,?_⟩))
 refine j3 (A8 ha0 ?_)
 refine j8 (fun h=>i7 (q _ _ (SG.refl _) (Po g0 sb h))) (fun h=>j8 (fun h2=>i7 (q _ _ (SG.refl _) (Ji g0 sa h0 h2))) (fun h2=>j3 (Ag ?_)))
 have n1:¬a.size-1=0:=fun e=>h (by rw[e];rfl)
 have n2:¬b.size=1:=fun e=>h2 (by rw[e];rfl)
 refine K8 (Q1:=fun c st'=>SG st st'/\∃r,c.1=some r/\Y5 κ a b r) (L8 (L0 κ a b st) ?_ ?_ ⟨SG.refl _,rfl,⟨g0,by show 1<=a.size-1;omega,by show 2<=b.size;omega,by show a.size-1<=a.size;omega,l8 _⟩,by show a.size-1+b.size+(0+1)<=a.size+b.size;omega⟩) ?_
 ·rintro i ⟨o,ia,ib,out,mg⟩ st' _ hi ⟨s1,e1,gd,hn⟩
  dsimp only at e1 gd hn
  refine K8 (Q1:=S1 κ a b st (i+2)) (L8 (L1 κ a b st (i+1)) ?_ ?_ ⟨s1,rfl,gd,hn⟩) ?_
  ·rintro j ⟨o,ja,jb,out,ac,bc⟩ st2 _ hj ⟨s2,e2,gd,hn2⟩
   dsimp only at e2 gd hn2
   obtain⟨ja,rfl⟩:∃n,ja=n+1:=⟨ja-1,by have:=gd.na1;omega⟩
   obtain⟨jb,rfl⟩:∃n,jb=n+1:=⟨jb-1,by have:=gd.nb2;omega⟩
   have lA:=gd.la
   have lB:=gd.lb
   have l2:=gd.nb2
   obtain⟨x,hx⟩:=N6 (a:=a) (i:=ja) (by omega)
   obtain⟨y,hy⟩:=N6 (a:=b) (i:=jb) (by omega)
   refine j3 (A8 hy (j3 (A8 hx (j3 (Ky ho (s2.ki.trans hk) (hHb _ (O7 hy)) (hHa _ (O7 hx)) ?_)))))
   refine j8 (fun hb=>j3 (A8 hx ?_)) (fun hb=>j3 (A8 hy ?_))
   ·have g1:=Jf gd.g sa sb hx hy (Da hb)
    refine j8 (fun e=>i7 ⟨s2, .inl ⟨_,rfl,Po g1 sb e⟩⟩) (fun e=> ?_)
    have ne:¬ja=0:=fun e'=>e (by show (ja==0)=true;rw[e'];rfl)
    have gd1:Hd κ a b (out.push x) ja (jb+1):=⟨g1,by omega,l2,by omega,lB⟩
    exact j8 (fun _=>i7 ⟨s2, .inr ⟨rfl,gd1,by show ja+(jb+1)+(i+2)<=a.size+b.size;omega⟩⟩) (fun _=>i7 ⟨s2,rfl,gd1,by show ja+(jb+1)+(i+1+(j+1))<=a.size+b.size;omega⟩)
   ·have g1:=Uc gd.g sa sb hx hy (W1 (by simpa using hb))
    refine j8 (fun e=>i7 ⟨s2, .inl ⟨_,rfl,Ji g1 sa h0 e⟩⟩) (fun e=> ?_)
    have ne:¬jb=1:=fun e'=>e (by show (jb==1)=true;rw[e'];rfl)
    have gd1:Hd κ a b (out.push y) (ja+1) jb:=⟨g1,by omega,by omega,lA,by omega⟩
    exact j8 (fun _=>i7 ⟨s2, .inr ⟨rfl,gd1,by show ja+1+jb+(i+2)<=a.size+b.size;omega⟩⟩) (fun _=>i7 ⟨s2,rfl,gd1,by show ja+1+jb+(i+1+(j+1))<=a.size+b.size;omega⟩)
  ·rintro⟨o,ja,jb,out,ac,bc⟩ st2 ⟨s2,e2,gd,hn2⟩
   dsimp only at e2 gd hn2
   exact⟨s2, .inr ⟨e2,gd,by show ja+jb+(i+2)<=a.size+b.size;omega⟩⟩
  ·rintro⟨o,ja,jb,out,ac,bc⟩ st2 ⟨s2,⟨r,e2,hr⟩|⟨e2,gd,hn2⟩⟩
   ·dsimp only at e2
    subst e2
    exact i7 ⟨s2,r,rfl,hr⟩
   ·dsimp only at e2 gd hn2
    subst e2
    refine j3 (Cy (Ah ⟨rfl,?_⟩))
    refine K8 (Q1:=S2 κ a b st (i+2)) (L8 (L2 κ a b st (i+2)) ?_ ?_ ⟨s2,rfl,gd,hn2⟩) ?_
    ·clear gd hn2
     rintro j ⟨o,ja,jb,out,mg2,ac,bc⟩ st3 _ hj ⟨s3,e3,gd,hn3⟩
     dsimp only at e3 gd hn3
     obtain⟨jb,rfl⟩:∃n,jb=n+1:=⟨jb-1,by have:=gd.nb2;omega⟩
     have lA:=gd.la
     have lB:=gd.lb
     have l1:=gd.na1
     have l2:=gd.nb2
     obtain⟨y,hy⟩:=N6 (a:=b) (i:=jb) (by omega)
     refine j8 (fun _=> ?_) (fun _=> ?_)<;>{
      refine j3 (Ir fun st4 s4=> ?_)
      have s34:=s3.trans s4
      have k4:=s34.ki.trans hk
      refine j3 (A8 hy (j3 (Iw ho k4 hHa (hHb _ (O7 hy)) (by show 0+ja<=a.size;omega) (by show ja-1<ja;omega) (fun i j x y _ Fc _ hx hy=>soA i j x y Fc hx hy) fun d (k1:d<=ja) (k2:∀i x,i<d->a[0+i]? =some x->le κ x y) (k3:∀i x,d<=i->i<ja->a[0+i]? =some x->le κ y x)=> ?_)))
      have gk:=Pp (d:=d) gd.g sa sb k1 lA hy (fun i x h1 h2 hx=>k3 i x h1 h2 (by rw[Eb];exact hx))
      refine j8 (fun hk0=>j8 (fun e=>i7 ⟨s34, .inl ⟨_,rfl,Po gk sb e⟩⟩) fun e=> ?_) (fun hk0=> ?_)
      have ne1:¬d=0:=fun e'=>e (by show (d==0)=true;rw[e'];rfl)
      dsimp only
      obtain⟨o2,ka,hO,hK,gk',K1,K2,C1,hn4⟩:∃(o2:Array Keyed) (ka:Nat),o2=out++(a.extract d ja).reverse/\ka=d/\Hl κ a b o2 ka (jb+1)/\1<=ka/\ka<=a.size/\(∀i x,i<ka->a[i]? =some x->le κ x y)/\ka+jb+1+(i+2)<=a.size+b.size:=⟨_,_,rfl,rfl,gk,by omega,by omega,fun i x h1 hx=>k2 i x h1 (by rw[Eb];exact hx),by omega⟩
      rw[<-hO,<-hK]
      rotate_left
      have ek:d=ja:=by
       have h9:¬ja-d>0:=hk0
       omega
      subst ek
      dsimp only
      obtain⟨o2,ka,hO,hK,gk',K1,K2,C1,hn4⟩:∃(o2:Array Keyed) (ka:Nat),o2=out/\ka=d/\Hl κ a b o2 ka (jb+1)/\1<=ka/\ka<=a.size/\(∀i x,i<ka->a[i]? =some x->le κ x y)/\ka+jb+1+(i+2)<=a.size+b.size:=⟨out,d,rfl,rfl,gd.g,l1,lA,fun i x h1 hx=>k2 i x h1 (by rw[Eb];exact hx),by omega⟩
      rw[<-hO,<-hK]
      all_goals
       obtain⟨kp,rfl⟩:∃n,ka=n+1:=⟨ka-1,by omega⟩
       obtain⟨x,hx⟩:=N6 (a:=a) (i:=kp) (by omega)
       refine j3 (A8 hy ?_)
       have g1:=Uc gk' sa sb hx hy (C1 kp x (by omega) hx)
       refine j8 (fun e=>i7 ⟨s34, .inl ⟨_,rfl,Ji g1 sa h0 e⟩⟩) (fun e=> ?_)
       have ne:¬jb=1:=fun e'=>e (by show (jb==1)=true;rw[e'];rfl)
       refine j3 (A8 hx (j3 (Ix ho k4 hHb (hHa _ (O7 hx)) (by show 0+jb<=b.size;omega) (by show jb-1<jb;omega) (fun i j x y _ Fc _ hx hy=>soB i j x y Fc hx hy) fun c (m1:c<=jb) (m2:∀i y,i<c->b[0+i]? =some y->le κ y x) (m3:∀i y,c<=i->i<jb->b[0+i]? =some y->le κ x y)=> ?_)))
       have g2:=XB (d:=c) g1 sa sb m1 (by omega) hx (fun i y h1 h2 hy=>m3 i y h1 h2 (by rw[Eb];exact hy))
       have fin3:∀(o3:Array Keyed) (jc:Nat),Hl κ a b o3 (kp+1) jc->2<=jc->jc<=jb->(∀z,b[jc-1]? =some z->le κ z x)->((kp==0)=true->Y5 κ a b (a.extract 0 kp++b.extract 0 jc++(o3.push x).reverse))/\(¬(kp==0)=true->Hd κ a b (o3.push x) kp jc/\kp+jc+(i+2)<=a.size+b.size):=fun o3 jc h1 h2 h3 h4=>by
        obtain⟨jc,rfl⟩:∃n,jc=n+1:=⟨jc-1,by omega⟩
        obtain⟨z,hz⟩:=N6 (a:=b) (i:=jc) (by omega)
        have g3:=Jf h1 sa sb hx hz (h4 z (by rw[JY];exact hz))
        exact⟨fun e5=>Po g3 sb e5,fun e5=>⟨⟨g3,by have:¬kp=0:=fun e'=>e5 (by rw[e'];rfl);omega,h2,by omega,by omega⟩,by omega⟩⟩
       refine j8 (fun h5=>j8 (fun e3=>i7 ⟨s34, .inl ⟨_,rfl,Ji g2 sa h0 e3⟩⟩) fun e3=>j8 (fun e4=>i7 ⟨s34, .inl ⟨_,rfl,Qcs g2 sa e4⟩⟩) fun e4=>j3 (A8 hx ?_)) (fun h5=>j3 (A8 hx ?_))
       ·have ne3:¬c=1:=fun e'=>e3 (by show (c==1)=true;rw[e'];rfl)
        have ne4:¬c=0:=fun e'=>e4 (by show (c==0)=true;rw[e'];rfl)
        have f3:=fin3 _ _ g2 (by omega) (by omega) (fun z hz=>m2 (c-1) z (by omega) (by rw[Eb];exact hz))
        exact j8 (fun e5=>i7 ⟨s34, .inl ⟨_,rfl,f3.1 e5⟩⟩) (fun e5=>j8 (fun _=>i7 ⟨s34, .inr ⟨rfl,f3.2 e5⟩⟩) (fun _=>i7 ⟨s34,rfl,f3.2 e5⟩))
       ·have ec:c=jb:=by
         have h9:¬jb-c>0:=h5
         omega
        have f3:=fin3 _ _ g1 (by omega) (l8 _) (fun z hz=>m2 (jb-1) z (by omega) (by rw[Eb];exact hz))
        exact j8 (fun e5=>i7 ⟨s34, .inl ⟨_,rfl,f3.1 e5⟩⟩) (fun e5=>j8 (fun _=>i7 ⟨s34, .inr ⟨rfl,f3.2 e5⟩⟩) (fun _=>i7 ⟨s34,rfl,f3.2 e5⟩))
     }
    ·rintro⟨o,ja,jb,out,mg2,ac,bc⟩ st3 ⟨s3,e3,gd,hn3⟩
     exact⟨s3, .inr ⟨e3,gd,hn3⟩⟩
    ·rintro⟨o,ja,jb,out,mg2,ac,bc⟩ st3 ⟨s3,⟨r,e3,hr⟩|⟨e3,gd,hn3⟩⟩
     ·dsimp only at e3
      subst e3
      exact i7 ⟨s3,r,rfl,hr⟩
     ·dsimp only at e3 gd hn3
      subst e3
      exact j3 (Ir fun st4 s4=>i7 ⟨s3.trans s4,rfl,gd,by show ja+jb+(i+1+1)<=a.size+b.size;omega⟩)
 ·rintro⟨o,ia,ib,out,mg⟩ st' ⟨s1,e1,gd,hn⟩
  dsimp only at e1 gd hn
  exact absurd gd.na1 (by omega)
 ·rintro⟨o,ia,ib,out,mg⟩ st' ⟨s1,r,e1,hr⟩
  dsimp only at e1
  subst e1
  exact i7 (q r st' s1 hr)
theorem ZH{x st:SortSt}{Q:PUnit->SortSt->Prop}(q:Q PUnit.unit x):wpS (model prog w) A E s (set x) Q st:=Ct (f:=fun _=>x) q
theorem Hn:∀(M:List Keyed) (n t:Nat) (arr:Array Keyed),t+n+M.length<=arr.size->(List.foldl (fun a (x:Keyed×Nat)=>match x with|(p,j)=>a.setIfInBounds (t+j) p) arr (M.zipIdx n)).toList=arr.toList.take (t+n)++M++arr.toList.drop (t+n+M.length)
 |[],n,t,arr,_=>by simp
 |x::M,n,t,arr,h=>by
  rw[List.length_cons] at h
  rw[Od,Ko]
  have ih:=Hn M (n+1) t (arr.setIfInBounds (t+n) x) (by rw[Array.size_setIfInBounds];omega)
  rw[ih,Vv]
  have h1:(arr.toList.set (t+n) x).take (t+(n+1))=arr.toList.take (t+n)++[x]:=by
   rw[show t+(n+1)=t+n+1 by omega,x6,List.take_set_of_le (l8 _),PR (by rw[U0];omega)]
   rfl
  have h2:(arr.toList.set (t+n) x).drop (t+(n+1)+M.length)=arr.toList.drop (t+n+(M.length+1)):=by
   rw[List.drop_set_of_lt (by omega),show t+(n+1)+M.length=t+n+(M.length+1) by omega]
  rw[h1,h2,List.length_cons]
  simp
def Ao(l:List Keyed)(lo hi:Nat):List Keyed:=(l.drop lo).take (hi-lo)
theorem seg_at{l:List Keyed}{lo hi i:Nat}{x:Keyed}(h1:lo<=i)(h2:i<hi)(hx:l[i]? =some x):(Ao l lo hi)[i-lo]? =some x:=by
 unfold Ao
 rw[Y3,if_pos (by omega),Ak,show lo+(i-lo)=i by omega]
 exact hx
theorem W0{l:List Keyed}{lo hi:Nat}{x:Keyed}(h:x∈Ao l lo hi):∃i,lo<=i/\i<hi/\l[i]? =some x:=by
 obtain⟨j,hj,ex⟩:=Bk h
 rw[Ak] at ex
 exact⟨lo+j,by omega,by omega,ex⟩
theorem SI{l:List Keyed}{lo hi i j:Nat}{x y:Keyed}(h:(Ao l lo hi).Pairwise (le κ))(h1:lo<=i)(h2:i<=j)(h3:j<hi)(hx:l[i]? =some x)(hy:l[j]? =some y):le κ x y:=
 J9 h (by omega) (seg_at h1 (by omega) hx) (seg_at (by omega) h3 hy)
theorem ET{l:List Keyed}{lo hi lo' hi':Nat}(h:(Ao l lo hi).Pairwise (le κ))(h1:lo<=lo')(h2:hi'<=hi)(h3:lo'<=hi'):(Ao l lo' hi').Pairwise (le κ):=by
 have e:Ao l lo' hi'=((Ao l lo hi).drop (lo'-lo)).take (hi'-lo'):=by
  unfold Ao
  rw[List.drop_take,JU,List.take_take,show lo+(lo'-lo)=lo' by omega,Eg (by omega)]
 rw[e]
 exact h.drop.take
theorem DA(l:List Keyed){a b c:Nat}(h1:a<=b)(h2:b<=c):Ao l a c=Ao l a b++Ao l b c:=by
 unfold Ao
 rw[show c-a=(b-a)+(c-b) by omega,List.take_add,JU,show a+(b-a)=b by omega]
theorem Ba(l:List Keyed){a b:Nat}(h1:a<=b):l=l.take a++Ao l a b++l.drop b:=by
 unfold Ao
 rw[C9,show l.drop b=(l.drop a).drop (b-a) by rw[JU,show a+(b-a)=b by omega],O8,O8]
theorem Mv(ho:Ep κ kd prog w A s){st:SortSt}{i sa na pw sb nb pw2:Nat}{Q:Bool->SortSt->Prop}(hk:kindOf st=kd)(hf:failedOf st=none)(hH:∀p∈(arrOf st).toList,EN κ p)(hp1:(pendingOf st)[i]? =some (sa,na,pw))(hp2:(pendingOf st)[i+1]? =some (sb,nb,pw2))(hsb:sb=sa+na)(Zi:1<=na)(hnb:1<=nb)(hsz:sb+nb<=(arrOf st).size)
  (s1:(Ao (arrOf st).toList sa sb).Pairwise (le κ))(s2:(Ao (arrOf st).toList sb (sb+nb)).Pairwise (le κ))
  (q:∀st' R,kindOf st'=kd->failedOf st'=none->pendingOf st'=((pendingOf st).setIfInBounds i (sa,na+nb,pw)).eraseIdxIfInBounds (i+1)->(arrOf st').toList=(arrOf st).toList.take sa++R++(arrOf st).toList.drop (sb+nb)->R.Perm (Ao (arrOf st).toList sa (sb+nb))->R.Pairwise (le κ)->Q true st'):wpS (model prog w) A E s (mergeAt' i) Q st:=by
 refine j3 (Ag ?_)
 rw[hp1,hp2]
 refine j3 (ZH ?_)
 subst hsb
 have lz:(arrOf st).toList.length=(arrOf st).size:=U0 _
 have so1:∀i j x y,sa<=i->i<=j->j<sa+na->(arrOf st)[i]? =some x->(arrOf st)[j]? =some y->le κ x y:=fun i j x y h1 h2 h3 hx hy=>SI s1 h1 h2 h3 (by rw[tl];exact hx) (by rw[tl];exact hy)
 have so2:∀i j x y,sa+na<=i->i<=j->j<sa+na+nb->(arrOf st)[i]? =some x->(arrOf st)[j]? =some y->le κ x y:=fun i j x y h1 h2 h3 hx hy=>SI s2 h1 h2 h3 (by rw[tl];exact hx) (by rw[tl];exact hy)
 have sp:=DA (arrOf st).toList (a:=sa) (b:=sa+na) (c:=sa+na+nb) (by omega) (by omega)
 obtain⟨y0,hy0⟩:=N6 (a:=arrOf st) (i:=sa+na) (by omega)
 refine j3 (A8 hy0 (j3 (Iw ho hk hH (hH _ (O7 hy0)) (by show sa+na<=(arrOf st).size;omega) (by omega) so1 fun k k1 k2 k3=> ?_)))
 refine j8 (fun e=>i7 (q _ (Ao (arrOf st).toList sa (sa+na+nb)) hk hf rfl (Ba _ (by omega)) (Cu _) ?_)) (fun e=> ?_)
 ·have ek:k=na:=by have:=eq_of_beq e;omega
  rw[sp,Af]
  refine⟨s1,s2,fun x hx y hy=> ?_⟩
  obtain⟨i1,l1,l2,ex⟩:=W0 hx
  obtain⟨i2,l3,l4,ey⟩:=W0 hy
  rw[tl] at ex ey
  exact le_trans (k2 (i1-sa) x (by omega) (by rw[show sa+(i1-sa)=i1 by omega];exact ex)) (so2 _ i2 y0 y (l8 _) l3 l4 hy0 ey)
 have nk:¬na-k=0:=fun e'=>e (by rw[e'];rfl)
 obtain⟨xl,Fa⟩:=N6 (a:=arrOf st) (i:=sa+k+(na-k)-1) (by omega)
 refine j3 (A8 Fa (j3 (Ix ho hk hH (hH _ (O7 Fa)) (by omega) (by omega) so2 fun c c1 c2 c3=> ?_)))
 have exl:sa+k+(na-k)-1=sa+na-1:=by omega
 rw[exl] at Fa
 refine j8 (fun e2=>i7 (q _ (Ao (arrOf st).toList sa (sa+na+nb)) hk hf rfl (Ba _ (by omega)) (Cu _) ?_)) (fun e2=> ?_)
 ·have ec:c=0:=eq_of_beq e2
  rw[sp,Af]
  refine⟨s1,s2,fun x hx y hy=> ?_⟩
  obtain⟨i1,l1,l2,ex⟩:=W0 hx
  obtain⟨i2,l3,l4,ey⟩:=W0 hy
  rw[tl] at ex ey
  exact le_trans (so1 i1 _ x xl l1 (by omega) (by omega) ex Fa) (c3 (i2-(sa+na)) y (by omega) (by omega) (by rw[show sa+na+(i2-(sa+na))=i2 by omega];exact ey))
 have nc:¬c=0:=fun e'=>e2 (by rw[e'];rfl)
 have eA:((arrOf st).extract (sa+k) (sa+na)).toList=Ao (arrOf st).toList (sa+k) (sa+na):=XF _ _ _
 have eB:((arrOf st).extract (sa+na) (sa+na+c)).toList=Ao (arrOf st).toList (sa+na) (sa+na+c):=XF _ _ _
 have lA:((arrOf st).extract (sa+k) (sa+na)).size=na-k:=by rw[Vu];omega
 have lB:((arrOf st).extract (sa+na) (sa+na+c)).size=c:=by rw[Vu];omega
 have memA:∀z∈((arrOf st).extract (sa+k) (sa+na)).toList,∃i,sa+k<=i/\i<sa+na/\(arrOf st)[i]? =some z:=fun z hz=>by
  rw[eA] at hz
  obtain⟨i1,l1,l2,ex⟩:=W0 hz
  exact⟨i1,l1,l2,by rw[<-tl];exact ex⟩
 have memB:∀z∈((arrOf st).extract (sa+na) (sa+na+c)).toList,∃i,sa+na<=i/\i<sa+na+c/\(arrOf st)[i]? =some z:=fun z hz=>by
  rw[eB] at hz
  obtain⟨i1,l1,l2,ex⟩:=W0 hz
  exact⟨i1,l1,l2,by rw[<-tl];exact ex⟩
 have hHa:∀p∈((arrOf st).extract (sa+k) (sa+na)).toList,EN κ p:=fun p hp=>by obtain⟨_,_,_,ex⟩:=memA p hp;exact hH p (O7 ex)
 have hHb:∀p∈((arrOf st).extract (sa+na) (sa+na+c)).toList,EN κ p:=fun p hp=>by obtain⟨_,_,_,ex⟩:=memB p hp;exact hH p (O7 ex)
 have sA:((arrOf st).extract (sa+k) (sa+na)).toList.Pairwise (le κ):=by rw[eA];exact ET s1 (by omega) (l8 _) (by omega)
 have sB:((arrOf st).extract (sa+na) (sa+na+c)).toList.Pairwise (le κ):=by rw[eB];exact ET s2 (l8 _) (by omega) (by omega)
 have h0:∀x,((arrOf st).extract (sa+na) (sa+na+c))[0]? =some x->∀y∈((arrOf st).extract (sa+k) (sa+na)).toList,le κ x y:=fun x hx y hy=>by
  have ex:x=y0:=by
   rw[<-tl,eB] at hx
   have:=seg_at (lo:=sa+na) (hi:=sa+na+c) (l8 _) (by omega) (by rw[tl];exact hy0)
   rw[JT,hx] at this
   exact R7 this
  obtain⟨i1,l1,l2,ey⟩:=memA y hy
  rw[ex]
  exact k3 (i1-sa) y (by omega) (by omega) (by rw[show sa+(i1-sa)=i1 by omega];exact ey)
 have hl:∀x,((arrOf st).extract (sa+k) (sa+na))[((arrOf st).extract (sa+k) (sa+na)).size-1]? =some x->∀y∈((arrOf st).extract (sa+na) (sa+na+c)).toList,le κ y x:=fun x hx y hy=>by
  have ex:x=xl:=by
   rw[<-tl,eA,lA] at hx
   have:=seg_at (lo:=sa+k) (hi:=sa+na) (i:=sa+na-1) (by omega) (by omega) (by rw[tl];exact Fa)
   rw[show sa+na-1-(sa+k)=na-k-1 by omega,hx] at this
   exact R7 this
  obtain⟨i1,l1,l2,ey⟩:=memB y hy
  rw[ex]
  exact c2 (i1-(sa+na)) y (by omega) (by rw[show sa+na+(i1-(sa+na))=i1 by omega];exact ey)
 have eas:sa+k+(na-k)=sa+na:=by omega
 have fin:∀(r:Array Keyed),Y5 κ ((arrOf st).extract (sa+k) (sa+na)) ((arrOf st).extract (sa+na) (sa+na+c)) r->∃R:List Keyed,(List.foldl (fun a (x:Keyed×Nat)=>match x with|(p,j)=>a.setIfInBounds (sa+k+j) p) (arrOf st) r.toList.zipIdx).toList=(arrOf st).toList.take sa++R++(arrOf st).toList.drop (sa+na+nb)/\R.Perm (Ao (arrOf st).toList sa (sa+na+nb))/\R.Pairwise (le κ):=fun r hr=>by
  obtain⟨pr,sr⟩:=hr
  rw[eA,eB] at pr
  have lr:r.toList.length=(na-k)+c:=by
   have h1:=pr.length_eq
   have h2:=congrArg List.length eA
   have h3:=congrArg List.length eB
   rw[U0,lA] at h2
   rw[U0,lB] at h3
   rw[y9] at h1
   omega
  refine⟨Ao (arrOf st).toList sa (sa+k)++r.toList++Ao (arrOf st).toList (sa+na+c) (sa+na+nb),?_,?_,?_⟩
  ·rw[Hn r.toList 0 (sa+k) (arrOf st) (by omega),lr,show sa+k+0+((na-k)+c)=sa+na+c by omega,Nat.add_zero]
   have t1:(arrOf st).toList.take (sa+k)=(arrOf st).toList.take sa++Ao (arrOf st).toList sa (sa+k):=by
    unfold Ao
    rw[<-List.take_add,show sa+(sa+k-sa)=sa+k by omega]
   have t2:(arrOf st).toList.drop (sa+na+c)=Ao (arrOf st).toList (sa+na+c) (sa+na+nb)++(arrOf st).toList.drop (sa+na+nb):=by
    unfold Ao
    rw[show (arrOf st).toList.drop (sa+na+nb)=((arrOf st).toList.drop (sa+na+c)).drop (sa+na+nb-(sa+na+c)) by rw[JU,show sa+na+c+(sa+na+nb-(sa+na+c))=sa+na+nb by omega],O8]
   rw[t1,t2]
   simp
  ·rw[sp,DA _ (a:=sa) (b:=sa+k) (c:=sa+na) (by omega) (by omega),DA _ (a:=sa+na) (b:=sa+na+c) (c:=sa+na+nb) (by omega) (by omega)]
   have:=(pr.append_left (Ao (arrOf st).toList sa (sa+k))).append_right (Ao (arrOf st).toList (sa+na+c) (sa+na+nb))
   simpa using this
  ·have inR:∀z∈r.toList,(∃i,sa+k<=i/\i<sa+na/\(arrOf st)[i]? =some z)\/∃i,sa+na<=i/\i<sa+na+c/\(arrOf st)[i]? =some z:=fun z hz=>by
    rcases D8.mp (pr.mem_iff.mp hz) with h|h
    ·exact .inl (memA z (by rw[eA];exact h))
    ·exact .inr (memB z (by rw[eB];exact h))
   have lo:∀x∈Ao (arrOf st).toList sa (sa+k),∀i y,sa+na<=i->i<sa+na+nb->(arrOf st)[i]? =some y->le κ x y:=fun x hx i y l1 l2 ey=>by
    obtain⟨i1,l3,l4,ex⟩:=W0 hx
    rw[tl] at ex
    exact le_trans (k2 (i1-sa) x (by omega) (by rw[show sa+(i1-sa)=i1 by omega];exact ex)) (so2 _ i y0 y (l8 _) l1 l2 hy0 ey)
   rw[Af,Af]
   refine⟨⟨ET s1 (l8 _) (by omega) (by omega),sr,fun x hx y hy=> ?_⟩,ET s2 (by omega) (l8 _) (by omega),fun x hx y hy=> ?_⟩
   ·rcases inR y hy with ⟨i2,l1,l2,ey⟩|⟨i2,l1,l2,ey⟩
    ·obtain⟨i1,l3,l4,ex⟩:=W0 hx
     rw[tl] at ex
     exact so1 i1 i2 x y l3 (by omega) l2 ex ey
    ·exact lo x hx i2 y l1 (by omega) ey
   ·obtain⟨i2,l1,l2,ey⟩:=W0 hy
    rw[tl] at ey
    rcases D8.mp hx with h|h
    ·exact lo x h i2 y (by omega) l2 ey
    ·rcases inR x h with ⟨i1,l3,l4,ex⟩|⟨i1,l3,l4,ex⟩
     ·exact le_trans (so1 i1 _ x xl (by omega) (by omega) (by omega) ex Fa) (c3 (i2-(sa+na)) y (by omega) (by omega) (by rw[show sa+na+(i2-(sa+na))=i2 by omega];exact ey))
     ·exact so2 i1 i2 x y l3 (by omega) l2 ex ey
 refine j8 (fun _=>j3 (ZI ho hk hHa hHb sA sB (by rw[lA];omega) (by rw[lB];omega) h0 hl fun r st' g hr=> ?_)) (fun _=>j3 (ZJ ho hk hHa hHb sA sB (by rw[lA];omega) (by rw[lB];omega) h0 hl fun r st' g hr=> ?_))
 all_goals
  refine j3 (Ct (j3 (Ag ?_)))
  obtain⟨R,f1,f2,f3⟩:=fin r hr
  have ef:failedOf st'=none:=g.fa.trans hf
  have q':=q (SortSt.mk' (kindOf st') (List.foldl (fun a (x:Keyed×Nat)=>match x with|(p,j)=>a.setIfInBounds (sa+k+j) p) (arrOf st') r.toList.zipIdx) (pendingOf st') (gallopOf st') (failedOf st')) R (g.ki.trans hk) ef g.pe (by show (List.foldl _ (arrOf st') _).toList=_;rw[g.ar];exact f1) f2 f3
  refine i7 ?_
  show Q (failedOf st').isNone _
  rw[ef]
  exact q'
structure B(kd:SortKind)(P1 st:SortSt)(lo:Nat):Prop where
 ki:kindOf st=kd
 fa:failedOf st=none
 pe:pendingOf st=pendingOf P1
 pm:(arrOf st).Perm (arrOf P1)
 be:∀k,k<lo->(arrOf st)[k]? =(arrOf P1)[k]?
theorem B.sz{P1 st:SortSt}{lo:Nat}(h:B kd P1 st lo):(arrOf st).size=(arrOf P1).size:=h.pm.size_eq
theorem B.has{P1 st:SortSt}{lo:Nat}(h:B kd P1 st lo)(hH:∀p∈(arrOf P1).toList,EN κ p):∀p∈(arrOf st).toList,EN κ p:=fun p hp=>hH p ((JS.mp h.pm).mem_iff.mp hp)
def SK(κ:KeyKind)(a:Array Keyed)(lo hi:Nat):Prop:=∀i j,lo<=i->i<=j->j<hi->κ.kle (KK κ a i) (KK κ a j)
theorem BJ(ho:Ep κ kd prog w A s){P1 st:SortSt}{lo i j:Nat}{Q:Option Bool->SortSt->Prop}(hb:B kd P1 st lo)(hH:∀p∈(arrOf P1).toList,EN κ p)(hi:i<(arrOf P1).size)(hj:j<(arrOf P1).size)(q:Q (some (κ.blt (KK κ (arrOf st) i) (KK κ (arrOf st) j))) st):wpS (model prog w) A E s (ltAt' i j) Q st:=by
 obtain⟨x,hx⟩:=N6 (a:=arrOf st) (i:=i) (by rw[hb.sz];exact hi)
 obtain⟨y,hy⟩:=N6 (a:=arrOf st) (i:=j) (by rw[hb.sz];exact hj)
 obtain⟨a,ha⟩:=hb.has hH x (O7 hx)
 obtain⟨b,hb'⟩:=hb.has hH y (O7 hy)
 rw[ltAt'_eq]
 refine j3 (Ag ?_)
 show wpS _ _ _ _ (do let x<-elem' (arrOf st) i;let y<-elem' (arrOf st) j;lt' x y) Q st
 refine j3 (A8 hx (j3 (A8 hy (Ky ho hb.ki ⟨a,ha⟩ ⟨b,hb'⟩ ?_))))
 rw[Y4 hx,Y4 hy] at q
 exact q
theorem Wf{st:SortSt}{src dst:Nat}{Q:Unit->SortSt->Prop}(q:Q () (setArr st (bubble (arrOf st) src (src-dst)))):wpS (model prog w) A E s (moveDown' src dst) Q st:=by
 rw[moveDown'_eq]
 exact Ct q
abbrev BI:=Option Bool×Nat×Nat
def bi(κ:KeyKind)(st:SortSt)(lo k i:Nat)(c:BI)(st':SortSt):Prop:=st=st'/\c.1=none/\c.2.1<=c.2.2/\c.2.2<=k/\c.2.2-c.2.1<=k-i/\(∀j,j<c.2.1->κ.kle (KK κ (arrOf st) (lo+j)) (KK κ (arrOf st) (lo+k)))/\(∀j,c.2.2<=j->j<k->κ.kle (KK κ (arrOf st) (lo+k)) (KK κ (arrOf st) (lo+j)))
theorem NG{a:Array Keyed}{lo k l:Nat}(hs:SK κ a lo (lo+k))(hl:l<=k)(hz:lo+k<a.size)(h1:∀j,j<l->κ.kle (KK κ a (lo+j)) (KK κ a (lo+k)))(h2:∀j,l<=j->j<k->κ.kle (KK κ a (lo+k)) (KK κ a (lo+j))):SK κ (bubble a (lo+k) (lo+k-(lo+l))) lo (lo+(k+1)):=by
 intro i j hi Fc hj
 rw[KK_bubble hz (by omega),KK_bubble hz (by omega)]
 rw[show lo+k-(lo+k-(lo+l))=lo+l by omega]
 obtain⟨i,rfl⟩:∃n,i=lo+n:=⟨i-lo,by omega⟩
 obtain⟨j,rfl⟩:∃n,j=lo+n:=⟨j-lo,by omega⟩
 by_cases e1:lo+i=lo+l
 ·rw[if_pos e1]
  by_cases e2:lo+j=lo+l
  ·rw[if_pos e2];exact Bv _
  ·rw[if_neg e2,if_pos (by omega),show lo+j-1=lo+(j-1) by omega]
   exact h2 (j-1) (by omega) (by omega)
 ·rw[if_neg e1]
  by_cases e3:lo+l<lo+i/\lo+i<=lo+k
  ·rw[if_pos e3,if_neg (by omega),if_pos (by omega)]
   exact hs _ _ (by omega) (by omega) (by omega)
  ·rw[if_neg e3]
   by_cases e2:lo+j=lo+l
   ·rw[if_pos e2];exact h1 i (by omega)
   ·rw[if_neg e2]
    by_cases e4:lo+l<lo+j/\lo+j<=lo+k
    ·rw[if_pos e4];exact hs _ _ (by omega) (by omega) (by omega)
    ·rw[if_neg e4];exact hs _ _ (by omega) (by omega) (by omega)
theorem RV(ho:Ep κ kd prog w A s){P1 st:SortSt}{lo n ok:Nat}{Q:Bool->SortSt->Prop}(hb:B kd P1 st lo)(hH:∀p∈(arrOf P1).toList,EN κ p)(hn:lo+n<=(arrOf P1).size)(h1:1<=ok)(h2:ok<=n)(hs:SK κ (arrOf st) lo (lo+ok))
  (q:∀st',B kd P1 st' lo->SK κ (arrOf st') lo (lo+n)->Q true st'):wpS (model prog w) A E s (binarySort' lo n ok) Q st:=by
 rw[binarySort'_eq]
 refine K8 (Q1:=fun c st'=>c.1=none/\B kd P1 st' lo/\SK κ (arrOf st') lo (lo+n)) (L8 (fun k c st'=>c.1=none/\B kd P1 st' lo/\SK κ (arrOf st') lo (lo+k)) ?_ ?_ ⟨rfl,hb,by rw[Nat.max_eq_left h1];exact hs⟩) ?_
 ·rintro k ⟨o,_⟩ AU hk1 hk2 ⟨e1,b1,s1⟩
  have h0:lo+k<(arrOf P1).size:=by omega
  refine K8 (Q1:=fun c st'=>AU=st'/\c.1=none/\c.2.1<=k/\(∀j,j<c.2.1->κ.kle (KK κ (arrOf AU) (lo+j)) (KK κ (arrOf AU) (lo+k)))/\(∀j,c.2.1<=j->j<k->κ.kle (KK κ (arrOf AU) (lo+k)) (KK κ (arrOf AU) (lo+j)))) (L8 (bi κ AU lo k) ?_ ?_ ⟨rfl,rfl,o8 _,l8 _,l8 _,(fun j hj=>absurd hj (Nat.not_lt_zero _)),fun j h1 h2=>absurd h2 (by have:k<=j:=h1;omega)⟩) ?_
  ·rintro i ⟨o,l,r⟩ st2 _ hi ⟨e2,e3,l1,l2,l3,l4,l5⟩
   dsimp only at e3 l1 l2 l3 l4 l5
   subst e2
   refine j8 (fun hg=>i7 ⟨rfl,rfl,by show l<=k;omega,l4,fun j h1 h2=>l5 j (by have h1':l<=j:=h1;have hg':l≥r:=hg;omega) h2⟩) (fun hg=> ?_)
   have hlr:l<r:=by
    have hg':¬l≥r:=hg
    omega
   refine j3 (BJ ho b1 hH h0 (show lo+(l+r)/2<(arrOf P1).size by omega) ?_)
   refine j8 (fun hb=>i7 ⟨rfl,rfl,by show l<=(l+r)/2;omega,by show (l+r)/2<=k;omega,by show (l+r)/2-l<=k-(i+1);omega,l4,fun j h1 h2=> ?_⟩) (fun hb=>i7 ⟨rfl,rfl,by show (l+r)/2+1<=r;omega,l2,by show r-((l+r)/2+1)<=k-(i+1);omega,fun j h1=> ?_,l5⟩)
   ·have h1':(l+r)/2<=j:=h1
    exact AM (Da hb) (s1 (lo+(l+r)/2) (lo+j) (by omega) (by omega) (by omega))
   ·have h1':j<(l+r)/2+1:=h1
    exact AM (s1 _ _ (by omega) (show lo+j<=lo+(l+r)/2 by omega) (by omega)) (W1 (by simpa using hb))
  ·rintro⟨o,l,r⟩ st2 ⟨e2,e3,l1,l2,l3,l4,l5⟩
   dsimp only at e3 l1 l2 l3 l4 l5
   exact⟨e2,e3,by show l<=k;omega,l4,fun j h1 h2=>l5 j (by have h1':l<=j:=h1;omega) h2⟩
  ·rintro⟨o,l,r⟩ st2 ⟨e2,e3,l1,l4,l5⟩
   dsimp only at e3 l1 l4 l5
   subst e2 e3
   refine j3 (Wf (i7 ⟨rfl,⟨b1.ki,b1.fa,b1.pe,(bubble_perm _ _ _).trans b1.pm,fun j hj=> ?_⟩,?_⟩))
   ·show (bubble (arrOf AU) (lo+k) (lo+k-(lo+l)))[j]? =_
    rw[getElem?_bubble (by rw[b1.sz];exact h0) _ (by omega),if_neg (by omega),if_neg (by omega)]
    exact b1.be j hj
   ·exact NG s1 l1 (by rw[b1.sz];exact h0) l4 l5
 ·rintro⟨o,_⟩ AU ⟨e1,b1,s1⟩
  rw[show max (max ok 1) n=n by omega] at s1
  exact⟨e1,b1,s1⟩
 ·rintro⟨o,_⟩ AU ⟨e1,b1,s1⟩
  dsimp only at e1
  subst e1
  exact i7 (q AU b1 s1)
def NI(κ:KeyKind)(a:Array Keyed)(lo hi:Nat):Prop:=∀i j,lo<=i->i<=j->j<hi->κ.kle (KK κ a j) (KK κ a i)
theorem B.rev{P1 st:SortSt}{lo i j:Nat}(h:B kd P1 st lo)(hi:lo<=i)(hj:j<=(arrOf P1).size):B kd P1 (setArr st (mirror (arrOf st) i j ((j-i)/2))) lo:=
 ⟨h.ki,h.fa,h.pe,(mirror_perm _ _ _ _).trans h.pm,fun k hk=>by
  show (mirror (arrOf st) i j ((j-i)/2))[k]? =_
  rw[getElem?_mirror_all (by rw[h.sz];exact hj),if_neg (by omega)]
  exact h.be k hk⟩
theorem Iu{P1 st:SortSt}{lo i j:Nat}{Q:Unit->SortSt->Prop}(h:B kd P1 st lo)(hi:lo<=i)(hj:j<=(arrOf P1).size)(q:∀st',B kd P1 st' lo->(∀k,KK κ (arrOf st') k=if i<=k/\k<j then KK κ (arrOf st) (i+j-1-k) else KK κ (arrOf st) k)->Q () st'):wpS (model prog w) A E s (reverseSlice' i j) Q st:=
 wpS_reverse (q _ (h.rev hi hj) (fun k=>KK_mirror (by rw[h.sz];exact hj) k))
def asc(kd:SortKind)(κ:KeyKind)(P1:SortSt)(lo i:Nat)(c:Option (Option Nat)×Nat)(st:SortSt):Prop:=c=(none,i)/\B kd P1 st lo/\SK κ (arrOf st) lo (lo+i)
theorem SK.step{a:Array Keyed}{lo n:Nat}(h:SK κ a lo (lo+n))(hn:1<=n)(hb:κ.blt (KK κ a (lo+n)) (KK κ a (lo+n-1))=false):SK κ a lo (lo+(n+1)):=fun i j h1 h2 h3=>by
 by_cases e:j=lo+n
 ·subst e
  by_cases e2:i=lo+n
  ·rw[e2];exact Bv _
  ·exact AM (h i (lo+n-1) h1 (by omega) (by omega)) (W1 hb)
 ·exact h i j h1 h2 (by omega)
theorem NI.step{a:Array Keyed}{lo n:Nat}(h:NI κ a lo (lo+n))(hn:1<=n)(hb:κ.kle (KK κ a (lo+n)) (KK κ a (lo+n-1))):NI κ a lo (lo+(n+1)):=fun i j h1 h2 h3=>by
 by_cases e:j=lo+n
 ·subst e
  by_cases e2:i=lo+n
  ·rw[e2];exact Bv _
  ·exact AM hb (h i (lo+n-1) h1 (by omega) (by omega))
 ·exact h i j h1 h2 (by omega)
def Lk(κ:KeyKind)(a:Array Keyed)(lo n neq:Nat):Prop:=neq+1<=n/\∀j,lo+n-(neq+1)<=j->j<lo+n->KK κ a j=KK κ a (lo+n-1)
def dsc(kd:SortKind)(κ:KeyKind)(P1:SortSt)(lo i:Nat)(c:Option (Option Nat)×Nat×Nat)(st:SortSt):Prop:=c.1=none/\c.2.1=i/\B kd P1 st lo/\NI κ (arrOf st) lo (lo+i)/\Lk κ (arrOf st) lo i c.2.2
theorem Lj{a a':Array Keyed}{lo n neq:Nat}(h:Lk κ a lo n neq)(hk:∀k,KK κ a' k=if lo+n-(neq+1)<=k/\k<lo+n then KK κ a (lo+n-(neq+1)+(lo+n)-1-k) else KK κ a k):∀k,KK κ a' k=KK κ a k:=fun k=>by
 rw[hk]
 by_cases e:lo+n-(neq+1)<=k/\k<lo+n
 ·have:=h.1
  rw[if_pos e,h.2 _ (by omega) (by omega),h.2 k e.1 e.2]
 ·rw[if_neg e]
theorem Kz(ho:Ep κ kd prog w A s){P1 st:SortSt}{lo Ap:Nat}{Q:Option Nat->SortSt->Prop}(hb:B kd P1 st lo)(hH:∀p∈(arrOf P1).toList,EN κ p)(hn:lo+Ap<=(arrOf P1).size)(h1:1<=Ap)
  (q:∀m st',B kd P1 st' lo->1<=m->m<=Ap->SK κ (arrOf st') lo (lo+m)->Q (some m) st'):wpS (model prog w) A E s (countRun' lo Ap) Q st:=by
 have desc:∀(n:Nat) (AU:SortSt),1<=n->n<Ap->B kd P1 AU lo->NI κ (arrOf AU) lo (lo+(n+1))->dsc kd κ P1 lo (n+1) (none,n+1,0) AU:=fun n AU h1 h2 b1 s1=>⟨rfl,rfl,b1,s1,by show 0+1<=n+1;omega,fun j h3 h4=>by have h3':lo+(n+1)-(0+1)<=j:=h3;rw[show j=lo+(n+1)-1 by omega]⟩
 refine K8 (Q1:=fun c st'=>∃n,c=(none,n)/\B kd P1 st' lo/\1<=n/\n<=Ap/\SK κ (arrOf st') lo (lo+n)/\(n=Ap\/(n<Ap/\κ.blt (KK κ (arrOf st') (lo+n)) (KK κ (arrOf st') (lo+n-1))=true))) (L8 (asc kd κ P1 lo) ?_ ?_ ⟨rfl,hb,fun i j h1 h2 h3=>by rw[show i=j by omega];exact Bv _⟩) ?_
 ·rintro i c AU hi1 hi2 ⟨rfl,b1,s1⟩
  refine j3 (BJ ho b1 hH (show lo+i<(arrOf P1).size by omega) (show lo+i-1<(arrOf P1).size by omega) ?_)
  exact j8 (fun h=>i7 ⟨i,rfl,b1,hi1,by omega,s1, .inr ⟨hi2,h⟩⟩) (fun h=>i7 ⟨rfl,b1,s1.step hi1 (by simpa using h)⟩)
 ·rintro c AU ⟨rfl,b1,s1⟩
  rw[Oa h1] at s1⊢
  exact⟨Ap,rfl,b1,h1,l8 _,s1, .inl rfl⟩
 ·rintro c AU ⟨n,rfl,b1,n1,n2,s1,hd⟩
  refine j8 (fun e=>i7 (q n AU b1 n1 n2 s1)) (fun e=> ?_)
  have O2:n<Ap:=by
   rcases hd with e'|⟨h,_⟩
   ·exact absurd (by show (n==Ap)=true;rw[e'];exact Bu _) e
   ·exact h
  have hbl:=(hd.resolve_left (by omega)).2
  refine j8 (fun e2=>j3 (BJ ho b1 hH (show lo<(arrOf P1).size by omega) (show lo+n-1<(arrOf P1).size by omega) ?_)) (fun e2=> ?_)
  refine j8 (fun _=>i7 (q n AU b1 n1 n2 s1)) (fun hr=> ?_)
  refine j3 (Iu (κ:=κ) b1 (l8 _) (by show lo+n<=(arrOf P1).size;omega) fun st2 b2 kk=> ?_)
  have kk':∀k,KK κ (arrOf st2) k=if lo<=k/\k<lo+n then KK κ (arrOf AU) (lo+(lo+n)-1-k) else KK κ (arrOf AU) k:=kk
  have ni:NI κ (arrOf st2) lo (lo+(n+1)):=by
   have hr':κ.kle (KK κ (arrOf AU) (lo+n-1)) (KK κ (arrOf AU) lo):=W1 (by simpa using hr)
   have all:∀i j,lo<=i->i<lo+n->lo<=j->j<lo+n->κ.kle (KK κ (arrOf AU) i) (KK κ (arrOf AU) j):=fun i j h1 h2 h3 h4=>AM (s1 i (lo+n-1) h1 (by omega) (by omega)) (AM hr' (s1 lo j (l8 _) h3 h4))
   intro i j h1 h2 h3
   rw[kk',kk']
   by_cases e3:j=lo+n
   ·subst e3
    rw[if_neg (by omega)]
    by_cases e4:i=lo+n
    ·rw[e4,if_neg (by omega)];exact Bv _
    ·rw[if_pos (by omega)]
     exact AM (Da hbl) (all _ _ (by omega) (by omega) (by omega) (by omega))
   ·rw[if_pos (by omega),if_pos (by omega)]
    exact all _ _ (by omega) (by omega) (by omega) (by omega)
  rotate_left
  have en:n=1:=by
   have e2':¬n>1:=e2
   omega
  obtain⟨st2,Mr,b2,ni⟩:∃st2,st2=AU/\B kd P1 st2 lo/\NI κ (arrOf st2) lo (lo+(n+1)):=⟨AU,rfl,b1,NI.step (fun i j h1 h2 h3=>by rw[show i=j by omega];exact Bv _) n1 (Da hbl)⟩
  rw[<-Mr]
  all_goals
   refine j3 (Cy (Ah ⟨rfl,?_⟩))
   refine K8 (Q1:=fun c st'=>∃m neq,c=(none,m,neq)/\B kd P1 st' lo/\1<=m/\m<=Ap/\NI κ (arrOf st') lo (lo+m)/\Lk κ (arrOf st') lo m neq) (L8 (dsc kd κ P1 lo) ?_ ?_ (desc n st2 n1 O2 b2 ni)) ?_
   ·rintro i ⟨o,m,neq⟩ st3 hi1 hi2 ⟨e3,e4,b3,ni3,lk3⟩
    dsimp only at e3 e4 hi1 lk3
    subst e3 e4
    have l1:=lk3.1
    refine j3 (BJ ho b3 hH (show lo+m<(arrOf P1).size by omega) (show lo+m-1<(arrOf P1).size by omega) ?_)
    have one:∀a:Array Keyed,Lk κ a lo (m+1) 0:=fun a=>⟨by omega,fun j h1 h2=>by rw[show j=lo+(m+1)-1 by omega]⟩
    refine j8 (fun hs=> ?_) (fun hs=>j3 (BJ ho b3 hH (show lo+m-1<(arrOf P1).size by omega) (show lo+m<(arrOf P1).size by omega) ?_))
    ·refine j8 (fun _=>j3 (Iu (κ:=κ) b3 (show lo<=lo+m-(neq+1) by omega) (show lo+m<=(arrOf P1).size by omega) fun st4 b4 kk=>i7 ⟨rfl,rfl,b4,?_,one _⟩)) (fun _=>i7 ⟨rfl,rfl,b3,ni3.step (by omega) (Da hs),one _⟩)
     have sm:=Lj lk3 kk
     intro i j h1 h2 h3
     rw[sm,sm]
     exact ni3.step (by omega) (Da hs) i j h1 h2 h3
    ·refine j8 (fun _=>i7 ⟨m,neq,rfl,b3,by omega,by omega,ni3,lk3⟩) (fun hl=>i7 ⟨rfl,rfl,b3,ni3.step (by omega) (W1 (by simpa using hl)),?_⟩)
     have eq:KK κ (arrOf st3) (lo+m)=KK κ (arrOf st3) (lo+m-1):=κ.total _ _ (by simpa using hs) (by simpa using hl)
     refine⟨by show neq+1+1<=m+1;omega,fun j h1 h2=> ?_⟩
     have h1':lo+(m+1)-(neq+1+1)<=j:=h1
     rw[show lo+(m+1)-1=lo+m by omega]
     by_cases ej:j=lo+m
     ·rw[ej]
     ·rw[lk3.2 j (by omega) (by omega),eq]
   ·rintro⟨o,m,neq⟩ st3 ⟨e3,e4,b3,ni3,lk3⟩
    dsimp only at e3 e4 lk3
    rw[show max (n+1) Ap=Ap by omega] at e4 ni3 lk3
    subst e3 e4
    exact⟨m,neq,rfl,b3,h1,l8 _,ni3,lk3⟩
   ·rintro c st3 ⟨m,neq,rfl,b3,m1,m2,ni3,lk3⟩
    have l1:=lk3.1
    refine j8 (fun _=>j3 (Iu (κ:=κ) b3 (show lo<=lo+m-(neq+1) by omega) (show lo+m<=(arrOf P1).size by omega) fun st4 b4 kk=> ?_)) (fun _=> ?_)
    have ni4:NI κ (arrOf st4) lo (lo+m):=by
     have sm:=Lj lk3 kk
     intro i j h1 h2 h3
     rw[sm,sm]
     exact ni3 i j h1 h2 h3
    rotate_left
    obtain⟨st4,hst4,b4,ni4⟩:∃st4,st4=st3/\B kd P1 st4 lo/\NI κ (arrOf st4) lo (lo+m):=⟨st3,rfl,b3,ni3⟩
    rw[<-hst4]
    all_goals
     refine j3 (Iu (κ:=κ) b4 (l8 _) (show lo+m<=(arrOf P1).size by omega) fun st5 b5 kk5=> ?_)
     have kk6:∀k,KK κ (arrOf st5) k=if lo<=k/\k<lo+m then KK κ (arrOf st4) (lo+(lo+m)-1-k) else KK κ (arrOf st4) k:=kk5
     have s5:SK κ (arrOf st5) lo (lo+m):=fun i j h1 h2 h3=>by
      rw[kk6,kk6,if_pos (by omega),if_pos (by omega)]
      exact ni4 _ _ (by omega) (by omega) (by omega)
     refine K8 (Q1:=fun c st'=>∃n',c=(none,n')/\B kd P1 st' lo/\1<=n'/\n'<=Ap/\SK κ (arrOf st') lo (lo+n')) (L8 (asc kd κ P1 lo) ?_ ?_ ⟨rfl,b5,s5⟩) ?_
     ·rintro i c st6 hi1 hi2 ⟨rfl,b6,s6⟩
      have hi1':m<=i:=hi1
      refine j3 (BJ ho b6 hH (show lo+i<(arrOf P1).size by omega) (show lo+i-1<(arrOf P1).size by omega) ?_)
      exact j8 (fun h=>i7 ⟨i,rfl,b6,by omega,by omega,s6⟩) (fun h=>i7 ⟨rfl,b6,s6.step (by omega) (by simpa using h)⟩)
     ·rintro c st6 ⟨rfl,b6,s6⟩
      have em:max m Ap=Ap:=by omega
      refine⟨Ap,?_,b6,h1,l8 _,?_⟩
      ·show (none,max m Ap)=_
       rw[em]
      ·have:SK κ (arrOf st6) lo (lo+max m Ap):=s6
       rw[em] at this
       exact this
     ·rintro c st6 ⟨n',rfl,b6,h3,h4,s6⟩
      exact i7 (q n' st6 b6 h3 h4 s6)
theorem ZB{a a':Array Keyed}{k:Nat}(h:a'[k]? =a[k]?):KK κ a' k=KK κ a k:=by unfold KK;rw[h]
theorem SH{a:Array Keyed}{lo hi:Nat}(h:SK κ a lo hi):(Ao a.toList lo hi).Pairwise (le κ):=by
 rw[Ee]
 intro i j h1 h2 h3
 have e1:(Ao a.toList lo hi)[i]? =some (Ao a.toList lo hi)[i]:=E5 _
 have e2:(Ao a.toList lo hi)[j]? =some (Ao a.toList lo hi)[j]:=E5 _
 generalize (Ao a.toList lo hi)[i]=x at*
 generalize (Ao a.toList lo hi)[j]=y at*
 unfold Ao at e1 e2
 rw[Y3] at e1 e2
 split at e1
 ·split at e2
  ·rw[Ak,tl] at e1 e2
   have:=h (lo+i) (lo+j) (by omega) (by omega) (by omega)
   rw[Y4 e1,Y4 e2] at this
   exact this
  ·cases e2
 ·cases e1
def Runs(κ:KeyKind)(a:Array Keyed):Nat->List (Nat×Nat×Nat)->Nat->Prop
 |t,[],e=>t=e
 |t,x::r,e=>x.1=t/\1<=x.2.1/\SK κ a t (t+x.2.1)/\Runs κ a (t+x.2.1) r e
theorem Runs.le{a:Array Keyed}:∀{t e:Nat} {p:List (Nat×Nat×Nat)},Runs κ a t p e->t+p.length<=e
 |t,e,[],h=>by have h':t=e:=h;simp [h']
 |t,e,x::r,h=>by
  have:=Runs.le h.2.2.2
  have:=h.2.1
  rw[List.length_cons]
  omega
theorem Runs.app{a:Array Keyed}:∀{t e:Nat} {p q:List (Nat×Nat×Nat)},Runs κ a t (p++q) e↔∃m,Runs κ a t p m/\Runs κ a m q e
 |t,e,[],q=>by
  constructor
  ·intro h;exact⟨t,rfl,h⟩
  ·rintro⟨m,h1,h2⟩
   have h1':t=m:=h1
   rw[h1'];exact h2
 |t,e,x::p,q=>by
  constructor
  ·rintro⟨h1,h2,h3,h4⟩
   obtain⟨m,h5,h6⟩:=Runs.app.mp h4
   exact⟨m,⟨h1,h2,h3,h5⟩,h6⟩
  ·rintro⟨m,⟨h1,h2,h3,h4⟩,h5⟩
   exact⟨h1,h2,h3,Runs.app.mpr ⟨m,h4,h5⟩⟩
theorem SK.congr{a a':Array Keyed}{lo hi:Nat}(h:SK κ a lo hi)(e:∀k,lo<=k->k<hi->a'[k]? =a[k]?):SK κ a' lo hi:=fun i j h1 h2 h3=>by
 rw[ZB (e i h1 (by omega)),ZB (e j (by omega) h3)]
 exact h i j h1 h2 h3
theorem Runs.congr{a a':Array Keyed}:∀{t e:Nat} {p:List (Nat×Nat×Nat)},Runs κ a t p e->(∀k,t<=k->k<e->a'[k]? =a[k]?)->Runs κ a' t p e
 |t,e,[],h,_=>h
 |t,e,x::r,⟨h1,h2,h3,h4⟩,hk=>by
  have:=Runs.le h4
  exact⟨h1,h2,h3.congr fun k k1 k2=>hk k k1 (by omega),Runs.congr h4 fun k k1 k2=>hk k (by omega) k2⟩
structure S0(kd:SortKind)(κ:KeyKind)(a0:Array Keyed)(st:SortSt):Prop where
 ki:kindOf st=kd
 fa:failedOf st=none
 pm:(arrOf st).Perm a0
theorem S0.sz{a0:Array Keyed}{st:SortSt}(h:S0 kd κ a0 st):(arrOf st).size=a0.size:=h.pm.size_eq
theorem S0.has{a0:Array Keyed}{st:SortSt}(h:S0 kd κ a0 st)(hH:∀p∈a0.toList,EN κ p):∀p∈(arrOf st).toList,EN κ p:=fun p hp=>hH p ((JS.mp h.pm).mem_iff.mp hp)
theorem CH(ho:Ep κ kd prog w A s){a0:Array Keyed}{st:SortSt}{i e:Nat}{Q:Bool->SortSt->Prop}(h:S0 kd κ a0 st)(hH:∀p∈a0.toList,EN κ p)(hr:Runs κ (arrOf st) 0 (pendingOf st).toList e)(he:e<=a0.size)(hi:i+1<(pendingOf st).size)
  (q:∀st',S0 kd κ a0 st'->Runs κ (arrOf st') 0 (pendingOf st').toList e->(pendingOf st').size+1=(pendingOf st).size->(∀k,e<=k->(arrOf st')[k]? =(arrOf st)[k]?)->Q true st'):wpS (model prog w) A E s (mergeAt' i) Q st:=by
 obtain⟨p,⟨sa,na,pw⟩,⟨sb,nb,pw2⟩,r,hp,hl⟩:∃p x y r,(pendingOf st).toList=p++x::y::r/\p.length=i:=by
  have h1:i<(pendingOf st).toList.length:=by rw[X9];omega
  have h2:i+1<(pendingOf st).toList.length:=by rw[X9];omega
  refine⟨(pendingOf st).toList.take i,(pendingOf st).toList[i],(pendingOf st).toList[i+1],(pendingOf st).toList.drop (i+2),?_,by rw[A4];omega⟩
  rw[<-U2 h2,<-U2 h1,O8]
 have hr0:=hr
 rw[hp,Runs.app] at hr
 obtain⟨m,r1,⟨e1,n1,k1,e2,n2,k2,r3⟩⟩:=hr
 dsimp only at e1 n1 k1 e2 n2 k2 r3
 subst e1
 have le3:=Runs.le r3
 have g1:(pendingOf st)[i]? =some (sa,na,pw):=by rw[<-Ec,hp,Ik (by omega),hl,JT];rfl
 have g2:(pendingOf st)[i+1]? =some (sb,nb,pw2):=by rw[<-Ec,hp,Ik (by omega),hl,show i+1-i=1 by omega];rfl
 subst e2
 have sz:=h.sz
 refine Mv ho h.ki h.fa (h.has hH) g1 g2 rfl n1 n2 (by omega) (SH k1) (SH k2) fun st' R f1 f2 f3 f4 f5 f6=> ?_
 have lR:R.length=na+nb:=by
  rw[f5.length_eq]
  unfold Ao
  rw[A4,AQ,U0]
  omega
 have lT:((arrOf st).toList.take sa).length=sa:=by rw[A4,U0];omega
 have out1:∀k,k<sa->(arrOf st')[k]? =(arrOf st)[k]? :=fun k hk=>by
  rw[<-tl,f4,C9,PM (by omega),Y3,if_pos hk,tl]
 have out2:∀k,sa+na+nb<=k->(arrOf st')[k]? =(arrOf st)[k]? :=fun k hk=>by
  rw[<-tl,f4,Ik (by rw[y9,lT,lR];omega),y9,lT,lR,Ak,tl,show sa+na+nb+(k-(sa+(na+nb)))=k by omega]
 have mid:SK κ (arrOf st') sa (sa+(na+nb)):=fun i j h1 h2 h3=>by
  have get:∀k,sa<=k->k<sa+(na+nb)->∃x,R[k-sa]? =some x/\(arrOf st')[k]? =some x:=fun k h1 h2=>by
   refine⟨R[k-sa]'(by omega),E5 _,?_⟩
   rw[<-tl,f4,PM (by rw[y9,lT,lR];omega),Ik (by omega),lT]
   exact E5 _
  obtain⟨x,x1,x2⟩:=get i h1 (by omega)
  obtain⟨y,y1,y2⟩:=get j (by omega) h3
  rw[Y4 x2,Y4 y2]
  exact J9 f6 (by omega) x1 y1
 have pP:(pendingOf st').toList=p++(sa,na+nb,pw)::r:=by
  rw[f3]
  have:((pendingOf st).setIfInBounds i (sa,na+nb,pw)).toList=p++(sa,na+nb,pw)::(sa+na,nb,pw2)::r:=by
   rw[Vv,hp,List.set_append_right _ _ (by omega),hl,JT]
   rfl
  rw[Array.toList_eraseIdxIfInBounds,this,List.eraseIdx_append_of_length_le (by omega),hl,show i+1-i=1 by omega]
  rfl
 refine q st' ⟨f1,f2,?_⟩ ?_ ?_ fun k hk=>out2 k (by omega)
 ·refine(JS.mpr ?_).trans h.pm
  rw[f4]
  have:=(f5.append_left ((arrOf st).toList.take sa)).append_right ((arrOf st).toList.drop (sa+na+nb))
  rw[<-Ba _ (by omega)] at this
  exact this
 ·rw[pP,Runs.app]
  exact⟨sa,r1.congr fun k _ k2=>out1 k k2,rfl,by show 1<=na+nb;omega,mid,by
   rw[show sa+(na+nb)=sa+na+nb by omega]
   exact r3.congr fun k k1 _=>out2 k k1⟩
 ·have h1:=congrArg List.length hp
  have h2:=congrArg List.length pP
  rw[X9] at h1 h2
  simp at h1 h2
  omega
def iv1(kd:SortKind)(κ:KeyKind)(a0:Array Keyed)(i:Nat)(c:Option Unit×Nat)(st:SortSt):Prop:=c.1=none/\S0 kd κ a0 st/\Runs κ (arrOf st) 0 (pendingOf st).toList c.2/\c.2<=a0.size/\i<=c.2
def iv2(kd:SortKind)(κ:KeyKind)(a0:Array Keyed)(lo n:Nat)(_:Nat)(c:Option Unit×Unit)(st:SortSt):Prop:=c.1=none/\S0 kd κ a0 st/\Runs κ (arrOf st) 0 (pendingOf st).toList lo/\SK κ (arrOf st) lo (lo+n)
def iv3(kd:SortKind)(κ:KeyKind)(a0:Array Keyed)(j:Nat)(c:Option Unit×Unit)(st:SortSt):Prop:=c.1=none/\S0 kd κ a0 st/\Runs κ (arrOf st) 0 (pendingOf st).toList a0.size/\(pendingOf st).size+j<=a0.size
theorem Qh{a:Array Keyed}{lo:Nat}{P:Array (Nat×Nat×Nat)}(f:Nat×Nat×Nat->Nat×Nat×Nat)(hf:∀x,(f x).1 =x.1/\(f x).2.1 =x.2.1)(h:Runs κ a 0 P.toList lo):Runs κ a 0 (P.modify (P.size-1) f).toList lo:=by
 have gen:∀(l:List (Nat×Nat×Nat)) (t i:Nat),Runs κ a t l lo->Runs κ a t (l.modify i f) lo:=by
  intro l
  induction l with
  |nil=>intro t i h;rw[List.modify_nil];exact h
  |cons x l ih=>
   intro t i h
   cases i with
   |zero=>
    show Runs κ a t (f x::l) lo
    obtain⟨h1,h2,h3,h4⟩:=h
    have e:=hf x
    refine⟨e.1.trans h1,?_,?_,?_⟩
    ·rw[e.2];exact h2
    ·rw[e.2];exact h3
    ·rw[e.2];exact h4
   |succ i=>
    show Runs κ a t (x::l.modify i f) lo
    exact⟨h.1,h.2.1,h.2.2.1,ih _ i h.2.2.2⟩
 rw[Array.toList_modify]
 exact gen _ _ _ h
theorem Qg{a:Array Keyed}{lo n:Nat}{P:Array (Nat×Nat×Nat)}(h:Runs κ a 0 P.toList lo)(hn:1<=n)(hs:SK κ a lo (lo+n)):Runs κ a 0 (P.push (lo,n,0)).toList (lo+n):=by
 rw[NY,Runs.app]
 exact⟨lo,h,rfl,hn,hs,rfl⟩
theorem Kx(ho:Ep κ kd prog w A s){st:SortSt}{Q:Unit->SortSt->Prop}(hk:kindOf st=kd)(hf:failedOf st=none)(hp:pendingOf st= #[])(hH:∀p∈(arrOf st).toList,EN κ p)(h2:1<=(arrOf st).size)
  (q:∀st',(arrOf st').Perm (arrOf st)->failedOf st'=none->SK κ (arrOf st') 0 (arrOf st).size->Q () st'):wpS (model prog w) A E s sortRuns' Q st:=by
 rw[sortRuns'_eq]
 refine j3 (Ag ?_)
 have r0:Runs κ (arrOf st) 0 (pendingOf st).toList 0:=by rw[hp];rfl
 refine K8 (Q1:=fun c st'=>c.1=none/\S0 kd κ (arrOf st) st'/\Runs κ (arrOf st') 0 (pendingOf st').toList (arrOf st).size) (L8 (iv1 kd κ (arrOf st)) ?_ ?_ ⟨rfl,⟨hk,hf,NW _⟩,r0,o8 _,l8 _⟩) ?_
 ·rintro i ⟨o,lo⟩ AU _ hi ⟨e1,b1,r1,l1,l2⟩
  dsimp only at e1 r1 l1 l2
  refine j8 (fun hg=>i7 ⟨rfl,b1,by have:(arrOf st).size<=lo:=hg;rw[show (arrOf st).size=lo by omega];exact r1⟩) (fun hg=> ?_)
  have O2:lo<(arrOf st).size:=by
   have:¬lo≥(arrOf st).size:=hg
   omega
  have bb:B kd AU AU lo:=⟨b1.ki,b1.fa,rfl,NW _,fun _ _=>rfl⟩
  have hH1:=b1.has hH
  have sz1:=b1.sz
  refine j3 (Kz ho bb hH1 (show lo+((arrOf st).size-lo)<=(arrOf AU).size by omega) (show 1<=(arrOf st).size-lo by omega) fun n st2 b2 n1 n2 s2=> ?_)
  refine j8 (fun hm=>j3 (Cy (Ah ⟨rfl,?_⟩))) (fun hm=> ?_)
  refine j3 (RV ho b2 hH1 (show lo+min ((arrOf st).size-lo) _<=(arrOf AU).size by omega) n1 (show n<=min ((arrOf st).size-lo) (minRun' (arrOf st).size (arrOf st).size 0) by have n2':n<=(arrOf st).size-lo:=n2;omega) s2 fun st4 b4 s4=> ?_)
  refine j8 (fun c=>absurd c (by simp)) (fun _=> ?_)
  dsimp only
  obtain⟨m,EK,m1,m2,s4⟩:∃m,m=min ((arrOf st).size-lo) (minRun' (arrOf st).size (arrOf st).size 0)/\1<=m/\lo+m<=(arrOf st).size/\SK κ (arrOf st4) lo (lo+m):=⟨_,rfl,by have n2':n<=(arrOf st).size-lo:=n2;omega,by omega,s4⟩
  rw[<-EK]
  rotate_left
  dsimp only
  obtain⟨st4,m,Mr,EK,b4,m1,m2,s4⟩:∃st4 m,st4=st2/\m=n/\B kd AU st4 lo/\1<=m/\lo+m<=(arrOf st).size/\SK κ (arrOf st4) lo (lo+m):=⟨st2,n,rfl,rfl,b2,n1,by have n2':n<=(arrOf st).size-lo:=n2;omega,s2⟩
  rw[<-Mr,<-EK]
  all_goals
   have S4:S0 kd κ (arrOf st) st4:=⟨b4.ki,b4.fa,b4.pm.trans b1.pm⟩
   have R4:Runs κ (arrOf st4) 0 (pendingOf st4).toList lo:=by rw[b4.pe];exact r1.congr fun k _ k2=>b4.be k k2
   have fin:∀st5,S0 kd κ (arrOf st) st5->Runs κ (arrOf st5) 0 (pendingOf st5).toList lo->SK κ (arrOf st5) lo (lo+m)->iv1 kd κ (arrOf st) (i+1) (none,lo+m) (setPending st5 ((pendingOf st5).push (lo,m,0))):=fun st5 S5 R5 s5=>⟨rfl,⟨S5.ki,S5.fa,S5.pm⟩,Qg R5 m1 s5,m2,by show i+1<=lo+m;omega⟩
   refine j3 (Ag ?_)
   cases hbk:(pendingOf st4).back? with
   |none=>exact j3 (Ct (i7 (fin st4 S4 R4 s4)))
   |some x=>
    obtain⟨x1,x2,x3⟩:=x
    refine K8 (Q1:=fun c st'=>c.1=none/\S0 kd κ (arrOf st) st'/\Runs κ (arrOf st') 0 (pendingOf st').toList lo/\SK κ (arrOf st') lo (lo+m)) (L8 (iv2 kd κ (arrOf st) lo m) ?_ ?_ ⟨rfl,S4,R4,s4⟩) ?_
    ·rintro j ⟨o,u⟩ st5 _ hj ⟨e5,S5,R5,s5⟩
     refine j3 (Ag ?_)
     by_cases hsz:(pendingOf st5).size>1
     ·obtain⟨x,hx⟩:∃x,(pendingOf st5)[(pendingOf st5).size-2]? =some x:=⟨_,Gu (by omega)⟩
      rw[if_pos hsz,hx]
      obtain⟨y1,y2,y3⟩:=x
      exact j8 (fun _=>i7 ⟨rfl,S5,R5,s5⟩) (fun _=>j3 (CH ho S5 hH R5 (by omega) (by omega) fun st6 S6 R6 _ k6=>j8 (fun c=>absurd c (by simp)) fun _=>i7 ⟨rfl,S6,R6,s5.congr fun k k1 _=>k6 k k1⟩))
     ·rw[if_neg hsz]
      exact i7 ⟨rfl,S5,R5,s5⟩
    ·rintro⟨o,u⟩ st5 h
     exact h
    ·rintro⟨o,u⟩ st5 ⟨e5,S5,R5,s5⟩
     dsimp only at e5
     subst e5
     exact j3 (Ct (j3 (Ct (i7 (fin (setPending st5 _) ⟨S5.ki,S5.fa,S5.pm⟩ (Qh _ (fun x=>⟨rfl,rfl⟩) R5) s5)))))
 ·rintro⟨o,lo⟩ AU ⟨e1,b1,r1,l1,l2⟩
  dsimp only at e1 r1 l1 l2
  have:lo=(arrOf st).size:=by omega
  rw[this] at r1
  exact⟨e1,b1,r1⟩
 ·rintro⟨o,lo⟩ AU ⟨e1,b1,r1⟩
  dsimp only at e1
  subst e1
  have le1:=Runs.le r1
  rw[X9] at le1
  refine K8 (Q1:=fun c st'=>c.1=none/\S0 kd κ (arrOf st) st'/\Runs κ (arrOf st') 0 (pendingOf st').toList (arrOf st).size/\(pendingOf st').size<=1) (L8 (iv3 kd κ (arrOf st)) ?_ ?_ ⟨rfl,b1,r1,by omega⟩) ?_
  ·rintro j ⟨o,u⟩ st2 _ hj ⟨e2,S2,R2,l2⟩
   refine j3 (Ag ?_)
   refine j8 (fun CD=>i7 ⟨rfl,S2,R2,CD⟩) (fun CD=> ?_)
   have hle':¬(pendingOf st2).size<=1:=CD
   refine j3 (CH ho S2 hH R2 (l8 _) (by(repeat' split)<;>omega) fun st3 S3 R3 l3 _=>j8 (fun c=>absurd c (by simp)) fun _=>i7 ⟨rfl,S3,R3,by omega⟩)
  ·rintro⟨o,u⟩ st2 ⟨e2,S2,R2,l2⟩
   exact⟨e2,S2,R2,by omega⟩
  ·rintro⟨o,u⟩ st2 ⟨e2,S2,R2,l2⟩
   dsimp only at e2
   subst e2
   refine i7 (q st2 S2.pm S2.fa ?_)
   rw[<-X9] at l2
   match hl:(pendingOf st2).toList,R2,l2 with
   |[],h,_=>
    have h':0=(arrOf st).size:=h
    omega
   |[x],h,_=>
    obtain⟨h1,h3,h4,h5⟩:=h
    have h5':0+x.2.1=(arrOf st).size:=h5
    rw[h5'] at h4
    exact h4
   |_::_::_,_,h=>simp at h
def Dq(κ:KeyKind)(kd:SortKind)(prog:Program)(w:World)(vs:List Value)(s:Shared):Prop:=∀A,Ep κ kd prog w A s/\(2<=vs.length->∀(E':Value->Shared->Prop) {Q:SortKind->Shared->Prop},Q kd s->wpAny (model prog w) A (keyKind' vs.toArray) Q E' s)
theorem BZ{a:Addr}{vs:List Value}{n:Nat}{P:Fin->Shared->Prop}(ho:s.heap.get? a=some (seqObj "list" vs.toArray n))(h0:KeysOf κ (pairsOf vs))
  (hkk:∀h':Heap,(∀b o,b≠a->s.heap.get? b=some o->h'.get? b=some o)->Dq κ kd prog w vs {s with heap:=h'})(hn:vs.length<=1000000)
  (h:∀st':SortSt,(arrOf st').Perm (pairsOf vs)->SortedToK κ (arrOf st') (pairsOf vs).size->P (Fin.done (Flow.ret Value.none)) {heap:=sortedHeap s.heap a vs (Array.map (fun x=>x.snd) (arrOf st')),gens:=s.gens,drawn:=s.drawn,toks:=s.toks,os:=s.os}):
  wpAny (model prog w) A (PySem.Builtin.«list.sort» {pos:=[Value.ref a]}) P E s:=by
 have ha:=A1 ho
 have line:vs.toArray.size<=sizeLine:=by rw[C6,B9];omega
 rw[list_sort_plain]
 refine e8 (listItems_at ho rfl (e8 (listUpdate_at ho rfl ?_ line (o8 _))))
 obtain⟨e1,ho1⟩:∃e,(s.heap.update a (Obj.mapSeq fun x=> #[])).get? a=some (seqObj "list" #[] e):=⟨_,get?_update_seq ho fun x=> #[]⟩
 refine e8 (seqEpoch_at ho1 rfl (e8 (wpAny_newTuple (e8 (JR (Y2 ?_) (o8 _))) (by rw[<-C6];exact line))))
 have nt:∀b,b<s.heap.objs.size->(((s.heap.update a (Obj.mapSeq fun x=> #[])).push (seqObj "tuple" vs.toArray 0)).push (seqObj "list" #[] 0)).get? b=(s.heap.update a (Obj.mapSeq fun x=> #[])).get? b:=fun b hb=>by
  rw[Ea _ _ _ (by rw[size_push',NV];exact u9 (Gr hb)),Ea _ _ _ (by rw[NV];exact u9 hb)]
 have ho6:=(nt a ha).trans ho1
 have sz:=pairsOf_size vs
 have fin:∀st':SortSt,(arrOf st').Perm (pairsOf vs)->failedOf st'=none->SortedToK κ (arrOf st') (pairsOf vs).size->wpAny (model prog w) A (do
   let sorted:=(arrOf st').map (·.2)
   let touched:=(<-seqEpoch a) != e1
   Builtin.List.listUpdate (.ref a) fun _=>sorted
   if let some e:=failedOf st' then rule "list.sort.comparison-raised";throw e
   if touched then rule "list.sort.modified";raiseError "ValueError" "list modified during sort"
   ret .none) P E {s with heap:=(((s.heap.update a (Obj.mapSeq fun x=> #[])).push (seqObj "tuple" vs.toArray 0)).push (seqObj "list" #[] 0))}:=fun st' p1 p2 p3=>by
  refine e8 (seqEpoch_at ho6 rfl (e8 (listUpdate_at ho6 rfl ?_ (o8 _) ?_)))
  ·rw[p2]
   have et:(e1 != e1)=false:=by simp
   rw[et]
   exact l0 (h st' p1 p3)
  ·rw[Array.size_map,p1.size_eq,sz]
   rw[C6] at line
   omega
 by_cases h2:vs.toArray.size<2
 ·rw[if_pos h2,if_pos h2]
  refine e8 (l0 ?_)
  dsimp only
  rw[StateT.run_pure]
  refine e8 (l0 (fin (SortSt.mk' general' (vs.toArray.zip vs.toArray) #[] 7 none) (NW _) rfl fun i j Fc hj=> ?_))
  rw[C6] at h2
  rw[sz] at hj
  have:i=j:=by omega
  subst this
  exact Bv _
 ·rw[if_neg h2,if_neg h2]
  rw[C6] at h2
  obtain⟨hO,hK⟩:=hkk _ (fun b o nb hb=>(nt b (A1 hb)).trans (by rw[Heap.get?_update_ne _ _ _ _ nb];exact hb)) A
  refine e8 (hK (by omega) _ ?_)
  refine e8 (I9 (Kx (κ:=κ) hO (st:=SortSt.mk' kd (pairsOf vs) #[] 7 none) (Q:=fun _ st'=>(arrOf st').Perm (pairsOf vs)/\failedOf st'=none/\SK κ (arrOf st') 0 (pairsOf vs).size) rfl rfl rfl h0 (by show 1<=(pairsOf vs).size;omega) fun st' a1 a2 a3=>⟨a1,a2,a3⟩) ?_ fun _ _ e=>e)
  rintro⟨u,st'⟩ s1 ⟨rfl,p1,p2,p3⟩
  exact fin st' p1 p2 fun i j h1 h2=>p3 i j (o8 _) h1 h2
theorem Fy{l:Addr}{vs:List Value}{Q:Value->Shared->Prop}(hl:s.heap.IsList l vs.toArray)(h0:KeysOf κ (pairsOf vs))
  (hkk:∀h':Heap,(∀b o,s.heap.get? b=some o->h'.get? b=some o)->Dq κ kd prog w vs {s with heap:=h'})(hn:vs.length<=1000000)
  (h:∀st':SortSt,(arrOf st').Perm (pairsOf vs)->SortedToK κ (arrOf st') (pairsOf vs).size->Q (Value.ref (s.heap.objs.size+1)) {heap:=sortedAll s.heap vs (Array.map (fun x=>x.snd) (arrOf st')),gens:=s.gens,drawn:=s.drawn,toks:=s.toks,os:=s.os}):
  wpAny (model prog w) A (call (Value.builtin "sorted") [Value.ref l]) Q E s:=by
 have line:vs.length<=sizeLine:=by rw[B9];omega
 refine NU kind_sorted plain_sorted entry_sorted (args_sorted1 (Value.ref l)) ?_
 refine e8 (l0 (e8 (collect_list hl (e8 (JR ?_ line)) line)))
 have hsz:((s.heap.push (seqObj "list" #[] 0)).update s.heap.objs.size (Obj.mapSeq fun x=>x++vs.toArray)).objs.size=s.heap.objs.size+1:=by rw[NV,size_push']
 have hoL:(((s.heap.push (seqObj "list" #[] 0)).update s.heap.objs.size (Obj.mapSeq fun x=>x++vs.toArray)).push (seqObj "list" vs.toArray 0)).get? (s.heap.objs.size+1)=some (seqObj "list" vs.toArray 0):=by
  rw[<-hsz]
  exact C7 _ rfl
 dsimp only
 rw[hsz]
 refine e8 (Y2 (Cz slot_list_sort ⟨seqObj "list" vs.toArray 0,hoL,rfl⟩ entry_list_sort (BZ hoL h0 (fun h' hk=>hkk h' fun b o hb=> ?_) hn fun st' a1 a2=>⟨Value.none,rfl,l0 ⟨Value.ref (s.heap.objs.size+1),rfl,h st' a1 a2⟩⟩) (args_list_sort (Value.ref (s.heap.objs.size+1)))))
 have O2:=A1 hb
 refine hk b o (u9 (Gr O2)) ?_
 rw[Ea _ _ _ (by rw[hsz];exact u9 (Gr O2)),Heap.get?_update_ne _ _ _ _ (u9 O2),Ea _ _ _ (u9 O2)]
 exact hb
theorem BV{vs:List Value}{ss:List Str}(hS:StrsAre vs ss):Dq strKind oneType' prog w vs s:=fun A=>⟨fun E x y a b Q ha hb q=>by
  rw[keyLt'_oneType]
  exact strKind_oneLt prog w A E s x y a b ha hb q,fun h2 E' Q q=>by
  obtain⟨v₁,v₂,C3,rfl⟩:∃v₁ v₂ C3,vs=v₁::v₂::C3:=by
   match vs,h2 with
   |v₁::v₂::C3,_=>exact⟨v₁,v₂,C3,rfl⟩
  rw[keyKind_strs hS]
  exact l0 q⟩
theorem Lf{l:Addr}{vs:List Value}{ss:List Str}{Q:Value->Shared->Prop}(hl:s.heap.IsList l vs.toArray)(hS:StrsAre vs ss)(hn:vs.length<=1000000)
  (h:∀(out:Array Value) (ss':List Str),StrsAre out.toList ss'->ss'.Perm ss->sortedS ss'=true->Q (Value.ref (s.heap.objs.size+1)) {heap:=sortedAll s.heap vs out,gens:=s.gens,drawn:=s.drawn,toks:=s.toks,os:=s.os}):
  wpAny (model prog w) A (call (Value.builtin "sorted") [Value.ref l]) Q E s:=
 Fy hl hS.keysOf (fun _ _=>BV hS) hn fun st' hp hs=>by
  obtain⟨ss',h1,h2,h3⟩:=sorted_out_str hS hp hs
  exact h _ ss' h1 h2 h3
end
end TS
namespace L2
open PySem PySem.Spec PyProof.Rows
section
variable {prog:Program} {w:World} {A:Around} {E:Value->Shared->Prop} {s:Shared} {T:String} {r d:Addr} {n:Nat} {P:Nat->Value->Prop} {OK:Heap->Prop}
theorem Eu{Q:Value->Shared->Prop}{zs:List Str}(K:PySem.W.KdlSrc prog w T r d zs.length P OK)(hh:A.handled=none)(hok:OK s.heap)(hb:zs.length<=1000000)(hP:∀i v,P i v->∃z t,zs[i]? =some z/\v= .str z t)
  (q:∀(h':Heap) (tk:Nat) (a:Addr) (out:List Value) (ys:List Str) (e:Nat),s.heap.objs.size<=a->(∀b o,s.heap.get? b=some o->h'.get? b=some o)->h'.get? a=some {cls:= .type "list",data:= .seq out.toArray e}->u3 (ys.map V.str) out->ys.Perm zs->sortedS ys=true->
   Q (.ref a) {s with heap:=h',toks:=tk}):wpAny (model prog w) A (call (.builtin "sorted") [.ref r]) Q E s:=by
 refine NU kind_sorted plain_sorted entry_sorted (args_sorted1 _) ?_
 unfold Builtin.«sorted»
 refine e8 (m:=checkCount "sorted" 1 1 _) (l0 ?_)
 refine e8 (ED K hh hok (by rw[B9];omega) fun h1 tk V1 O2 old hi=> ?_)
 obtain⟨hn,hi⟩:=hi
 have hS:StrsAre V1.toList zs:=by
  have all:∀v∈V1.toList,∃z t,v= .str z t:=fun v hv=>by
   obtain⟨j,hj,rfl⟩:=Vt.mp hv
   obtain⟨z,t,_,e⟩:=hP j V1.toList[j] (hi j V1.toList[j] (by rw[<-Ec];exact E5 hj))
   exact⟨z,t,e⟩
  have e:V1.toList.map strOf=zs:=by
   apply Om
   intro j
   rw[u8]
   cases hj:V1.toList[j]? with
   |none=>
    have:=Vy.mp hj
    rw[X9,hn] at this
    exact(CC this).symm
   |some v=>
    obtain⟨z,t,e1,e2⟩:=hP j v (hi j v (by rw[<-Ec];exact hj))
    rw[e1,e2];rfl
  rw[<-e]
  exact strsAre_map _ all
 have G1:V1.toList.length=zs.length:=by rw[X9,hn]
 have szl:=B9
 refine e8 (JR ?_ (by omega))
 have o1:(h1.push (seqObj "list" V1.toList.toArray 0)).get? h1.objs.size=some (seqObj "list" V1.toList.toArray 0):=C7 _ rfl
 refine e8 (Y2 (Cz slot_list_sort ⟨_,o1,rfl⟩ entry_list_sort (TS.BZ o1 hS.keysOf (fun _ _=>TS.BV hS) (by omega) fun st a1 a2=>⟨_,rfl,?_⟩) (args_list_sort _)))
 obtain⟨ys,b1,b2,b3⟩:=sorted_out_str hS a1 a2
 obtain⟨e,he2⟩:=sortedHeap_at (vs:=V1.toList) (out:=(arrOf st).map (·.2)) o1
 have hz:s.heap.objs.size<=h1.objs.size:=EI O2
 refine l0 ⟨_,rfl,q _ tk h1.objs.size ((arrOf st).map (·.2)).toList ys e hz (fun b o hb=> ?_) he2 (Ce b1) b2 b3⟩
 have lb:b<h1.objs.size:=A1 (old b o hb)
 rw[sortedHeap_old (u9 lb) (by rw[size_push'];exact Gr lb),Ea _ _ _ (u9 lb)]
 exact old b o hb
end
section
variable {X:Cx}
theorem Hg(K:j6)(hK:X.K=K:=by rfl):P8 X (.builtin "sorted") (fun xs H Q=>∃(p:Addr) (zs:List Str),xs=[.ref p]/\l7 K H p (zs.map V.str)/\zs.length<=1000000/\
  ∀(r:Addr) (zs':List Str),H r=none->zs'.Perm zs->sortedS zs'=true->Q (.ref r) (i8 H r (.lst (zs'.map V.str)))):=by
 subst hK
 intro c4 s σ H xs us Q I r h
 obtain⟨p,zs,rfl,hp,hl,q⟩:=h
 obtain⟨u,rfl,ru⟩:=vals1 r
 cases ru
 obtain⟨n5,rv,pl,hz⟩:=I.list hp
 have G1:n5.length=zs.length:=by rw[<-rv.length,i4]
 refine TS.Lf pl.isList (Fs rv) (by omega) fun out zs' h1 h2 h3=> ?_
 obtain⟨e,he⟩:=sortedAll_at s.heap n5 out
 refine⟨.ref (s.heap.objs.size+1),_,I.laid (o:= .lst (zs'.map V.str)) (t':=s.toks) (fun b u hb=>sortedAll_old hb) (Cc _) ?_,rfl,q _ zs' (I.hok.fresh (Cc _)) h2 h3⟩
 refine⟨?_,out.toList,e,Ce h1,he⟩
 rw[i4,h2.length_eq,B9]
 omega
theorem KN{kvs:List (A0×V)}{vs:List (A0×Value)}{zs:List Str}(rel:KV kvs vs)(hk:kvs.map (·.1)=zs.map Sum.inr){i:Nat}{v:Value}(h:∃k x,vs[i]? =some (k,x)/\(o6 X.prog X.w).is k v=true):∃z t,zs[i]? =some z/\v= .str z t:=by
 obtain⟨k,x,e1,e2⟩:=h
 have e3:(vs.map (·.1))[i]? =some k:=by rw[u8,e1];rfl
 rw[AF rel,hk,u8] at e3
 cases hz:zs[i]? with
 |none=>rw[hz] at e3;cases e3
 |some z1=>
  rw[hz] at e3
  have:Sum.inr z1=k:=R7 e3
  subst this
  obtain⟨t,rfl⟩:=Ng e2
  exact⟨z1,t,rfl,rfl⟩
theorem Cb(hc:X.calm=true:=by rfl):P8 X (.builtin "sorted") (fun xs H Q=>∃(p:Addr) (kvs:List (A0×V)) (zs:List Str),xs=[.ref p]/\H p=some (.dK kvs)/\kvs.map (·.1)=zs.map Sum.inr/\zs.length<=1000000/\
  ∀(r:Addr) (ys:List Str),H r=none->ys.Perm zs->sortedS ys=true->Q (.ref r) (i8 H r (.lst (ys.map V.str)))):=by
 intro c4 s σ H xs us Q I r h
 obtain⟨p,kvs,zs,rfl,hp,hk,hl,q⟩:=h
 obtain⟨u,rfl,ru⟩:=vals1 r
 cases ru
 obtain⟨z,hd,vs,rel,dd⟩:=Df I.hok hp
 obtain⟨ep,da⟩:=dd.dictAt
 have hn:vs.length=zs.length:=by
  have:=congrArg List.length ((AF rel).trans hk)
  simpa using this
 have S:=PySem.W.kdl_dict (prog:=X.prog) (w:=X.w) (knd:=o6 X.prog X.w) (kvs:=vs) (ep:=ep) hd
 rw[hn] at S
 refine Eu S (I.ok.hd hc) da hl (fun i v h=>KN rel hk h) fun h' tk a out ys e ha old g1 rv hy hm=> ?_
 refine⟨.ref a,_,I.laid (o:= .lst (ys.map V.str)) (t':=tk) old ha ?_,rfl,q a ys (I.hok.fresh ha) hy hm⟩
 refine⟨?_,out,e,rv,g1⟩
 rw[i4,hy.length_eq,B9]
 omega
def Mt(r d:Addr):HO:= .ext fun h=>PySem.W.KdlKeysView h r d
theorem Xj{P:Program}{w:World}{H:Hp}{h:Heap}{r d:Addr}(x:PySem.W.KdlKeysView h r d):D0 P w H h r (Mt r d):=by
 obtain⟨o,ho,hc,hd⟩:=id x
 exact⟨x,⟨o,ho⟩,fun h1 h2 ⟨o1,g1,r1⟩ k=>⟨o1,k o1 g1,r1⟩⟩
def HE:V->List V->Hp->VK->Prop:=fun x vs H Q=>∃(p:Addr) (kvs:List (A0×V)),x= .ref p/\vs=[]/\H p=some (.dK kvs)/\∀r,H r=none->Q (.ref r) (i8 H r (Mt r p))
theorem CZ:MtR X "dict.keys" HE:=by
 intro c4 s σ H x vs v us Q I rx rv h
 obtain⟨p,kvs,rfl,rfl,hp,q⟩:=h
 cases rx
 have Am:=rv.zero
 subst Am
 obtain⟨z,hd,ws,rel,dd⟩:=Df I.hok hp
 refine Gv DZ dd.typeIs PySem.F.entry_dict_keys (PySem.F.args_dict_keys_1 _) (PySem.W.kdl_meets_keys (o6 X.prog X.w) p hd) ⟨⟨_,dd⟩,?_⟩
 have g:(s.heap.push {cls:= .type "dict_keys",data:= .fields #[.ref p]}).get? s.heap.objs.size=some {cls:= .type "dict_keys",data:= .fields #[.ref p]}:=C7 _ rfl
 exact⟨.ref s.heap.objs.size,_,I.laid (o:=Mt s.heap.objs.size p) (t':=s.toks) (fun b o e=>q0 _ e) (l8 _) (Xj ⟨_,g,rfl,rfl⟩),rfl,q _ (I.hok.fresh (l8 _))⟩
theorem U5(hc:X.calm=true:=by rfl):P8 X (.builtin "sorted") (fun xs H Q=>∃(v p:Addr) (kvs:List (A0×V)) (zs:List Str),xs=[.ref v]/\H v=some (Mt v p)/\H p=some (.dK kvs)/\kvs.map (·.1)=zs.map Sum.inr/\zs.length<=1000000/\
  ∀(r:Addr) (ys:List Str),H r=none->ys.Perm zs->sortedS ys=true->Q (.ref r) (i8 H r (.lst (ys.map V.str)))):=by
 intro c4 s σ H xs us Q I r h
 obtain⟨v,p,kvs,zs,rfl,hv,hp,hk,hl,q⟩:=h
 obtain⟨u,rfl,ru⟩:=vals1 r
 cases ru
 have kv:=(I.hok v _ hv).1
 obtain⟨z,hd,vs,rel,dd⟩:=Df I.hok hp
 obtain⟨ep,da⟩:=dd.dictAt
 have hn:vs.length=zs.length:=by
  have:=congrArg List.length ((AF rel).trans hk)
  simpa using this
 have S:=PySem.W.kdl_keys (prog:=X.prog) (w:=X.w) (knd:=o6 X.prog X.w) (d:=p) (r:=v) (kvs:=vs) (ep:=ep)
 rw[hn] at S
 refine Eu S (I.ok.hd hc) ⟨kv,da⟩ hl (fun i v h=>KN rel hk h) fun h' tk a out ys e ha old g1 rv hy hm=> ?_
 refine⟨.ref a,_,I.laid (o:= .lst (ys.map V.str)) (t':=tk) old ha ?_,rfl,q a ys (I.hok.fresh ha) hy hm⟩
 refine⟨?_,out,e,rv,g1⟩
 rw[i4,hy.length_eq,B9]
 omega
end
section
variable {prog:Program} {w:World} {A:Around} {E:Value->Shared->Prop} {s:Shared} {T:String} {r d:Addr} {n:Nat} {P:Nat->Value->Prop} {OK:Heap->Prop}
theorem Ev{Q:Value->Shared->Prop}{ns:List Int}(K:PySem.W.KdlSrc prog w T r d ns.length P OK)(hh:A.handled=none)(hok:OK s.heap)(hb:ns.length<64)(hP:∀i v,P i v->∃z t,ns[i]? =some z/\v= .int z t)
  (q:∀(h':Heap) (tk:Nat) (a:Addr) (out:List Value) (ns':List Int) (e:Nat),s.heap.objs.size<=a->(∀b o,s.heap.get? b=some o->h'.get? b=some o)->h'.get? a=some {cls:= .type "list",data:= .seq out.toArray e}->u3 (ns'.map V.int) out->ns'.Perm ns->ns'.Pairwise (· <= ·)->
   Q (.ref a) {s with heap:=h',toks:=tk}):wpAny (model prog w) A (call (.builtin "sorted") [.ref r]) Q E s:=by
 refine NU kind_sorted plain_sorted entry_sorted (args_sorted1 _) ?_
 unfold Builtin.«sorted»
 refine e8 (m:=checkCount "sorted" 1 1 _) (l0 ?_)
 refine e8 (ED K hh hok (by rw[B9];omega) fun h1 tk V1 O2 old hi=> ?_)
 obtain⟨hn,hi⟩:=hi
 have hS:IntsAre V1.toList ns:=by
  refine intsAre_of ?_
  have key:∀(ns:List Int) (vs:List Value),vs.length=ns.length->(∀(i:Nat) (v:Value),vs[i]? =some v->∃z t,ns[i]? =some z/\v=Value.int z t)->u3 (ns.map V.int) vs:=by
   intro ns
   induction ns with
   |nil=>intro vs hl _;rw[Cs hl];exact .nil
   |cons n ns ih=>
    intro vs hl hv
    cases vs with
    |nil=>cases hl
    |cons v vs=>
     obtain⟨z,t,e1,e2⟩:=hv 0 v rfl
     cases e1
     exact .cons ⟨t,e2⟩ (ih vs (DY hl) fun i u hu=>hv (i+1) u hu)
  exact key ns _ (by rw[X9,hn]) fun i v hv=>hP i v (hi i v (by rw[<-Ec];exact hv))
 have G1:V1.toList.length=ns.length:=by rw[X9,hn]
 have szl:=B9
 refine e8 (JR ?_ (by omega))
 have o1:(h1.push (seqObj "list" V1.toList.toArray 0)).get? h1.objs.size=some (seqObj "list" V1.toList.toArray 0):=C7 _ rfl
 refine e8 (Y2 (Cz slot_list_sort ⟨_,o1,rfl⟩ entry_list_sort (list_sort_tree o1 hS (by omega) fun out ns' a1 a2 a3=>⟨_,rfl,?_⟩) (args_list_sort _)))
 obtain⟨e,he2⟩:=sortedHeap_at (vs:=V1.toList) (out:=out) o1
 have hz:s.heap.objs.size<=h1.objs.size:=EI O2
 refine l0 ⟨_,rfl,q _ tk h1.objs.size out.toList ns' e hz (fun b o hb=> ?_) he2 (Du a1) a2 a3⟩
 have lb:b<h1.objs.size:=A1 (old b o hb)
 rw[sortedHeap_old (u9 lb) (by rw[size_push'];exact Gr lb),Ea _ _ _ (u9 lb)]
 exact old b o hb
end
section
variable {X:Cx}
theorem Hi(hc:X.calm=true:=by rfl):P8 X (.builtin "sorted") (fun xs H Q=>∃(v p:Addr) (kvs:List (A0×V)) (ns:List Int),xs=[.ref v]/\H v=some (Mt v p)/\H p=some (.dK kvs)/\kvs.map (·.1)=ns.map Sum.inl/\ns.length<64/\ns.Pairwise (· < ·)/\
  ∀(r:Addr),H r=none->Q (.ref r) (i8 H r (.lst (ns.map V.int)))):=by
 intro c4 s σ H xs us Q I r h
 obtain⟨v,p,kvs,ns,rfl,hv,hp,hk,hl,hs,q⟩:=h
 obtain⟨u,rfl,ru⟩:=vals1 r
 cases ru
 have kv:=(I.hok v _ hv).1
 obtain⟨z,hd,vs,rel,dd⟩:=Df I.hok hp
 obtain⟨ep,da⟩:=dd.dictAt
 have hn:vs.length=ns.length:=by
  have:=congrArg List.length ((AF rel).trans hk)
  simpa using this
 have S:=PySem.W.kdl_keys (prog:=X.prog) (w:=X.w) (knd:=o6 X.prog X.w) (d:=p) (r:=v) (kvs:=vs) (ep:=ep)
 rw[hn] at S
 refine Ev S (I.ok.hd hc) ⟨kv,da⟩ hl (fun i v h=> ?_) fun h' tk a out ns' e ha old g1 rv a2 a3=> ?_
 ·obtain⟨k,x,e1,e2⟩:=h
  have e3:(vs.map (·.1))[i]? =some k:=by rw[u8,e1];rfl
  rw[AF rel,hk,u8] at e3
  cases hz:ns[i]? with
  |none=>rw[hz] at e3;cases e3
  |some z1=>
   rw[hz] at e3
   have:Sum.inl z1=k:=R7 e3
   subst this
   obtain⟨t,rfl⟩:=Ng e2
   exact⟨z1,t,rfl,rfl⟩
 have en:ns'=ns:=JQ (le:=(· <= ·)) (fun a b _ _ h h'=>JP h h') a3 (hs.imp fun h=>Gq h) a2
 subst en
 refine⟨.ref a,_,I.laid (o:= .lst (ns'.map V.int)) (t':=tk) old ha ?_,rfl,q a (I.hok.fresh ha)⟩
 refine⟨?_,out,e,rv,g1⟩
 rw[i4,B9]
 omega
end
section
variable {prog:Program} {w:World} {A:Around} {E:Value->Shared->Prop} {s:Shared}
theorem Jd:typeLookup (.type "list") "keys"=pure none:=by rw[typeLookup_type,builtinLookup_eq_fast];kernel_rfl
theorem QE{a:Addr}{o:Obj}{xs:Array Value}{k:Nat}{Q:Option Value->Shared->Prop}(hx:s.heap.get? a=some o)(hc:o.cls= .type "list")(hdat:o.data= .seq xs k)(hd:o.dict=none)(hA:A.handled=none)
  (h:∀h' tk,(∀b o,s.heap.get? b=some o->h'.get? b=some o)->Q none {s with heap:=h',toks:=tk}):wpAny (model prog w) A (getAttr? (.ref a) "keys") Q E s:=by
 obtain⟨c,dct,dat,sl⟩:=o
 simp only at hc hdat hd
 subst hc hdat hd
 obtain⟨hp,g,d,tk,os⟩:=s
 have hT:∀tk',(⟨hp,g,d,tk',os⟩:Shared).TypeIs (.ref a) "list":=fun _=>⟨_,hx,rfl⟩
 have f1:=sub_AttributeError
 have f3:=NT.lookup
 have f4:=NT.bind (.ref a)
 have f5:=am_list_getattr_none
 unfold getAttr? getAttrBy? getAttrBy
 repeat (any_goals (first|assumption|exact hT _|((with_reducible show wpAny _ _ (call (Value.builtin "list.__getattribute__") _ _) _ _ _);refine En NT (hT _) am_entry_list_getattribute (F.args_list_getattribute_2 _ _) (meets_getattribute_miss_list a xs k sl "keys" _ Jd (by decide) (by decide)) ⟨hx,hA,fun h' tk' e hx'=> ?_⟩)|wp_step))
 obtain⟨t',u',he⟩:=hx'.there
 have hI:∀tk'',(⟨h',g,d,tk'',os⟩:Shared).TypeIs (.ref e) "AttributeError":=fun _=>⟨_,he,rfl⟩
 show wpAny _ _ (getattributeRaised _ _ _ _ _ _ _) _ _ _
 unfold getattributeRaised
 repeat (any_goals (first|assumption|exact hI _|wp_step))
 exact h h' tk' hx'.keeps
theorem AO:entryFor table "dict.update.loop"=some Builtin.«dict.update.loop»:=entryFor_of_tree (by kernel_rfl)
theorem P9:plainId "dict.update.loop"=true:=by decide+kernel
def Dr(P:Program)(w:World)(D I:Addr)(items:Array Value)(vs:List (A0×Value))(h:Heap):Prop:=∀(i:Nat) (v:Value),items[i]? =some v->∃(t:Addr) (key:Value) (k:A0) (x:Value),v= .ref t/\t≠D/\t≠I/\IsTup h t #[key,x]/\vs[i]? =some (k,x)/\(o6 P w).is k key=true
theorem Dr.keep{D I:Addr}{items:Array Value}{vs:List (A0×Value)}{h h':Heap}(p:Dr prog w D I items vs h)(k:∀b o,b≠D->b≠I->h.get? b=some o->h'.get? b=some o):Dr prog w D I items vs h':=fun i v hv=>by
 obtain⟨t,key,kk,x,h1,h2,h3,⟨o,h4,h5⟩,h6⟩:=p i v hv
 exact⟨t,key,kk,x,h1,h2,h3,⟨o,k t o h2 h3 h4,h5⟩,h6⟩
theorem QZ{D I ax:Addr}{items:Array Value}{vs:List (A0×Value)}{R:Result->Shared->Prop}(hh:A.in1.handled=none)(Np:ax≠I)(hDI:D≠I)(hDa:D≠ax)(hn:(vs.map (·.1)).Nodup)(hl:items.size=vs.length)(hz:vs.length<=1000):
  ∀(k i:Nat) (s:Shared) (j:Int) (tk:Tok),items.size-i=k->i<=items.size->s.heap.IsListIter I ax i->s.heap.IsList ax items->Dr prog w D I items vs s.heap->s.heap.DictOf (o6 prog w) D (vs.take i)->
   (∀h' tk',h'.DictOf (o6 prog w) D vs->(∀b o,b≠D->b≠I->s.heap.get? b=some o->h'.get? b=some o)->R (.ok (.ret .none)) {s with heap:=h',toks:=tk'})->
   codeAny (model prog w) A (.builtin "dict.update.loop" ⟨[.ref D, .ref I, .int j tk, .none],[]⟩) R s:=by
 have W:=Walks.list (prog:=prog) (w:=w) hh I ax Np items
 intro k
 induction k with
 |zero=>
  intro i s j tk hk hi QO EB hp hd hR
  have Xv:i=items.size:=by omega
  subst Xv
  refine Ka AO ?_
  rw[JZ P9 _]
  show wpAny _ A.in1 (pyNext (.ref I)>>=_) _ _ s
  refine e8 (W.done s _ _ ⟨QO,EB⟩ fun h' tk' hm=> ?_)
  show wpAny _ A.in1 (Builtin.Dict.addKeywords D []>>=fun _=>ret Value.none) _ _ _
  rw[hl,y8] at hd
  refine e8 (l0 (l0 (hR h' tk' ?_ fun b o _ hb e=>hm b o (by simpa using hb) e)))
  obtain⟨o,es,ep,ho,C3⟩:=hd
  exact⟨o,es,ep,hm D o (by simpa using hDI) ho,C3⟩
 |succ k ih=>
  intro i s j tk hk hi QO EB hp hd hR
  have O2:i<items.size:=by omega
  refine Ka AO ?_
  rw[JZ P9 _]
  show wpAny _ A.in1 (pyNext (.ref I)>>=_) _ _ s
  refine e8 (W.item i s _ _ O2 ⟨QO,EB⟩ fun v h' tk' hP hst' hm=> ?_)
  have hp':Dr prog w D I items vs h':=hp.keep fun b o _ hb e=>hm b o (by simpa using hb) e
  obtain⟨t,key,kk,x,rfl,t1,t2,ht,hv,Hc⟩:=hp' i v hP
  obtain⟨ot,ho,hc,nt,VY⟩:=id ht
  have hd':h'.DictOf (o6 prog w) D (vs.take i):=by
   obtain⟨o,es,ep,ho,C3⟩:=hd
   exact⟨o,es,ep,hm D o (by simpa using hDI) ho,C3⟩
  have hT:(⟨h',s.gens,s.drawn,tk',s.os⟩:Shared).TypeIs (.ref t) "tuple":=⟨_,ho,hc⟩
  have hil':i<vs.length:=by omega
  have Mr:stored (vs.take i) kk x=vs.take (i+1):=by
   have e1:vs.take (i+1)=vs.take i++[(kk,x)]:=by rw[x6,hv];rfl
   have e2:¬kk∈(vs.take i).map (·.1):=fun hm=>by
    have e3:vs=vs.take i++(kk,x)::vs.drop (i+1):=by
     conv=>lhs;rw[<-O8 i vs,U2 hil']
     congr 2
     exact(u4.mp hv).2
    rw[e3,n6,AL] at hn
    exact hn.2.2 _ hm _ (by rw[List.map_cons];exact A5) rfl
   rw[e1]
   unfold stored
   rw[if_neg]
   intro z
   obtain⟨y,hy,ey⟩:=List.any_eq_true.mp z
   exact e2 (n8.mpr ⟨y,hy,by simpa using ey⟩)
  show wpAny _ A.in1 (holding [Value.ref t] _>>=_) _ _ _
  refine e8 (Y2 (e8 (wpAny_tryCatch ?_)))
  unfold Builtin.Dict.pairItems
  refine e8 (wpAny_typeOf hT ?_)
  rw[if_pos (by decide)]
  obtain⟨oc,od,oda,osl⟩:=ot
  simp only at hc VY
  subst hc VY
  unfold seqItems?
  refine e8 (e8 (wpAny_load ho (l0 ?_)))
  refine l0 ?_
  show wpAny _ A.in1 (holding [key,x] (dictSet D key x)) _ _ _
  refine Y2 (wpAny_dictSet_pairs Hc hd' (fun h2 hd2 hs2=> ?_) (by rw[A4,B9];omega))
  rw[Mr] at hd2
  refine l0 ⟨Ob P9 _,?_⟩
  have hI2:h2.IsListIter I ax (i+1):=by
   obtain⟨o,h1,h2'⟩:=hst'.1
   exact⟨o,(hs2.2 I hDI.symm).trans h1,h2'⟩
  have hL2:h2.IsList ax items:=by
   obtain⟨o,h1,h2'⟩:=hst'.2
   exact⟨o,(hs2.2 ax hDa.symm).trans h1,h2'⟩
  refine ih (i+1) _ (j+1) _ (by omega) O2 hI2 hL2 (hp'.keep fun b o hb _ e=>(hs2.2 b hb).trans e) hd2 fun h3 tk3 hd3 hm3=> ?_
  exact hR h3 tk3 hd3 fun b o hb hb' e=>hm3 b o hb hb' ((hs2.2 b hb).trans (hm b o (by simpa using hb') e))
theorem Ny{l:Addr}{items:Array Value}{vs:List (A0×Value)}{Q:Value->Shared->Prop}(hh:A.handled=none)(hl:s.heap.IsList l items)(hdn:∀o,s.heap.get? l=some o->o.dict=none)(hn:(vs.map (·.1)).Nodup)(hs:items.size=vs.length)(hz:vs.length<=1000)
  (hp:∀(i:Nat) (v:Value),items[i]? =some v->∃(t:Addr) (key:Value) (k:A0) (x:Value),v= .ref t/\IsTup s.heap t #[key,x]/\vs[i]? =some (k,x)/\(o6 prog w).is k key=true)
  (q:∀h' tk,h'.DictOf (o6 prog w) s.heap.objs.size vs->(∀b o,s.heap.get? b=some o->h'.get? b=some o)->Q (.ref s.heap.objs.size) {s with heap:=h',toks:=tk}):wpAny (model prog w) A (call (.type "dict") [.ref l]) Q E s:=by
 refine callType_codes (Q₁:=fun obj s₁=>obj= .ref s.heap.objs.size/\s₁={s with heap:=s.heap.push {cls:= .type "dict",data:= .dict #[]}}) F.kt_called_dict (F.kt_typeCall_dict_1 _) F.entry_dict_init (kt_code_dict_new _ ⟨rfl,rfl⟩) ?_
 rintro obj s₁ ⟨rfl,rfl⟩
 have Ud:(s.heap.push {cls:= .type "dict",data:= .dict #[]}).DictOf (o6 prog w) s.heap.objs.size []:=Heap.DictOf.new s.heap
 have hl1:(s.heap.push {cls:= .type "dict",data:= .dict #[]}).IsList l items:=hl.push _
 refine⟨Ud.typeIs,F.args_dict_init_2 _ _,?_⟩
 unfold Builtin.«dict.__init__»
 refine e8 ?_
 unfold Builtin.Dict.selfAndRest
 refine e8 (wpAny_notOrdered_dict Ud.typeIs ?_)
 show wpAny _ _ (pure (s.heap.objs.size,[Value.ref l])) _ _ _
 refine l0 ?_
 show wpAny _ _ (Builtin.Dict.updateFrom "dict.__init__" s.heap.objs.size (.ref l) [] .none) _ _ _
 unfold Builtin.Dict.updateFrom
 refine e8 (wpAny_typeOf hl1.typeIs ?_)
 rw[if_pos (by decide)]
 obtain⟨o,ho,hc,nn,hd⟩:=id hl
 have hh2:A.in1.in1.handled=none:=by simp [hh]
 refine e8 (QE (s:={s with heap:=s.heap.push {cls:= .type "dict",data:= .dict #[]}}) (q0 _ ho) hc hd (hdn o ho) hh2 fun h1 tk1 hk1=> ?_)
 show wpAny _ _ (rule _>>=_) _ _ _
 refine e8 (Ah ?_)
 have hl2:h1.IsList l items:=by
  obtain⟨o,g1,g2⟩:=hl1
  exact⟨o,hk1 l o g1,g2⟩
 refine e8 (Gg hl2 ?_)
 have old1:∀b o,s.heap.get? b=some o->h1.get? b=some o:=fun b o e=>hk1 b o (q0 _ e)
 have hD1:h1.DictOf (o6 prog w) s.heap.objs.size []:=by
  obtain⟨o,es,ep,ho,C3⟩:=Ud
  exact⟨o,es,ep,hk1 _ o ho,C3⟩
 have lD:s.heap.objs.size<h1.objs.size:=by
  obtain⟨o,es,ep,ho,C3⟩:=hD1
  exact A1 ho
 have ll:l<s.heap.objs.size:=A1 ho
 refine l0 ⟨Ob P9 _,?_⟩
 refine QZ (items:=items) (vs:=vs) (I:=h1.objs.size) (ax:=l) (by simp [hh]) (u9 (Ki ll lD)) (u9 lD) (Av ll) hn hs hz items.size 0 _ 0 _ (by omega) (o8 _) ⟨_,C7 _ rfl,rfl,rfl⟩ (hl2.push _) (fun i v hv=> ?_) (hD1.push _) fun h' tk' hd' hm'=> ?_
 ·obtain⟨t,key,k,x,e1,⟨o,e2,e3⟩,e4⟩:=hp i v hv
  have lt:=A1 e2
  exact⟨t,key,k,x,e1,u9 lt,u9 (Ki lt lD),⟨o,q0 _ (old1 t o e2),e3⟩,e4⟩
 ·exact⟨rfl,q h' tk' hd' fun b o e=>hm' b o (u9 (A1 e)) (u9 (Ki (A1 e) lD)) (q0 _ (old1 b o e))⟩
end
section
variable {X:Cx}
theorem NE(K:j6)(hc:X.calm=true:=by rfl)(hK:X.K=K:=by rfl):P8 X (.type "dict") (fun xs H Q=>∃(p:Addr) (ys:List V) (d:List (Str×Str)),xs=[.ref p]/\l7 K H p ys/\ys.length=d.length/\d.length<=1000/\(d.map (·.1)).Nodup/\
  (∀(i:Nat) (y:V),ys[i]? =some y->∃t x,y= .ref t/\d[i]? =some x/\H t=some (.tup [.str x.1, .str x.2]))/\∀r,H r=none->Q (.ref r) (i8 H r (.dK (d.map fun x=>(.inr x.1, .str x.2))))):=by
 subst hK
 intro c4 s σ H xs us Q I r h
 obtain⟨p,ys,d,rfl,hp,hl,hz,hn,hy,q⟩:=h
 obtain⟨u,rfl,ru⟩:=vals1 r
 cases ru
 obtain⟨n5,rv,pl,hsz⟩:=I.list hp
 have G1:n5.length=ys.length:=rv.length.symm
 -- the pairs
 have key:∀(d:List (Str×Str)) (ys:List V) (n5:List Value),u3 ys n5->ys.length=d.length->(∀(i:Nat) (y:V),ys[i]? =some y->∃t x,y= .ref t/\d[i]? =some x/\H t=some (.tup [.str x.1, .str x.2]))->
   ∃vs:List (A0×Value),KV (d.map fun x=>((.inr x.1:A0),V.str x.2)) vs/\vs.length=n5.length/\∀(i:Nat) (v:Value),n5[i]? =some v->∃(t:Addr) (kv:Value) (k:A0) (x:Value),v= .ref t/\IsTup s.heap t #[kv,x]/\vs[i]? =some (k,x)/\(o6 X.prog X.w).is k kv=true:=by
  intro d
  induction d with
  |nil=>
   intro ys n5 rv hl _
   have:ys=[]:=Cs hl
   subst this
   cases rv
   exact⟨[], .nil,rfl,fun i v h=>by simp at h⟩
  |cons x d ih=>
   intro ys n5 rv hl hy
   cases rv with
   |nil=>cases hl
   |cons r0 rv=>
    obtain⟨vs,h1,h2,h3⟩:=ih _ _ rv (DY hl) fun i y hi=>hy (i+1) y hi
    obtain⟨t,x',e1,e2,e3⟩:=hy 0 _ rfl
    cases e2
    subst e1
    obtain⟨zs,r1,tu,_⟩:=I.tuple (W3.of (K:=X.K) e3)
    obtain⟨z0,z1,rfl,rz0,rz1⟩:=vals2 r1
    refine⟨((.inr x.1:A0),z1)::vs, .cons ⟨rfl,rz1⟩ h1,by rw[List.length_cons,List.length_cons,h2],fun i v hv=> ?_⟩
    cases i with
    |zero=>
     cases hv
     have r0':_=Value.ref t:=r0
     exact⟨t,z0, .inr x.1,z1,r0',tu,rfl,EA (k:= .inr x.1) rz0⟩
    |succ i=>exact h3 i v hv
 obtain⟨vs,h1,h2,h3⟩:=key d ys n5 rv hl hy
 have hnv:(vs.map (·.1)).Nodup:=by
  rw[AF h1,N7]
  have:((fun x:A0×V=>x.1)∘fun x:Str×Str=>((.inr x.1:A0),V.str x.2))=fun x=>Sum.inr x.1:=rfl
  rw[this]
  have e:(d.map fun x=>(Sum.inr x.1:A0))=(d.map (·.1)).map Sum.inr:=by rw[N7];rfl
  rw[e]
  exact List.Pairwise.map _ (fun a b h z=>h (JC z)) hn
 have hlv:vs.length=d.length:=by rw[h2,G1,hl]
 obtain⟨ol,nl,g1,g2,g3,g4⟩:=id pl
 refine Ny (vs:=vs) (I.ok.hd hc) pl.isList (fun o ho=>by rw[g1] at ho;cases ho;exact g3) hnv (by simp [h2]) (by omega) (fun i v hv=>h3 i v (by simpa using hv)) fun h' tk dd old=> ?_
 refine⟨.ref s.heap.objs.size,_,I.laid (o:= .dK (d.map fun x=>(.inr x.1, .str x.2))) (t':=tk) old (l8 _) (Nw (by rw[i4,B9];omega) (NH.mpr (D9 (u9 I.big))) h1 dd),rfl,q _ (I.hok.fresh (l8 _))⟩
end
section
variable {X:Cx}
def Qcx(X:Cx)(st:List Stmt)(t:TS):Prop:=
 ∀(c4:List (Addr×Obj)) (s:Shared) (σ:St) (H:Hp) (D:Ends),Inw X c4 σ H s->t D σ H->wpAny (model X.prog X.w) X.A (execs st X.env) (fun fl s'=>SP X c4 D fl s'/\0<s'.toks) X.xe s
theorem Tf{i j:Nat}{x y:Str}{n:Int}{c:Nat}{px py p1 p2 p3 pos1 pos2:Pos}{C3:List Stmt}{u:TS}(hN:X.N.Nodup)(hi:X.N[i]? =some x)(hx:Loc X.env.scope x)(hj:X.N[j]? =some y)(hy:Loc X.env.scope y)(h2:Hm X C3 u)
  (hs1:swapsWith (.List [] p1) (some (.Name x px)) pos1.line X.env=pure false:=by rfl)(hs2:swapsWith (.UnaryOp .USub (.Constant (.int n) c p2) p3) (some (.Name y py)) pos2.line X.env=pure false:=by rfl)
  (hf1:X.fn x=true\/X.env.scope.names.lookup x=some .local:=by first|exact .inl rfl|exact .inr rfl|assumption)(hf2:X.fn y=true\/X.env.scope.names.lookup y=some .local:=by first|exact .inl rfl|exact .inr rfl|assumption):
  Qcx X (.Assign [.Name x px] (.List [] p1) pos1:: .Assign [.Name y py] (.UnaryOp .USub (.Constant (.int n) c p2) p3) pos2::C3)
   (Qc (MH (KH GO) (O3 i)) (Qc (MH (tUn (rU fun i=> .int (-i)) (tC (.int n))) (O3 j)) u)):=by
 intro c4 s σ H D I h
 obtain⟨hz,h⟩:(0:Nat)<=sizeLine/\∀p,H p=none->_:=h
 have hf:H s.heap.objs.size=none:=I.hok.fresh (l8 _)
 have q:rU (fun i=>V.int (-i)) (.int n) (i8 H s.heap.objs.size (.lst [])) (fun v H2=>u D ((σ.set i (some (.ref s.heap.objs.size))).set j (some v)) H2):=h _ hf
 refine Mg (PP (wpAny_List_spliced (Mf ⟨o8 _,?_⟩)) hs1)
 refine U6 (I.laid (a:=s.heap.objs.size) (o:= .lst []) (t':=s.toks) (fun b u e=>q0 _ e) (l8 _) ⟨hz,[],0, .nil,C7 _ rfl⟩) hN hi hx (v:= .ref s.heap.objs.size) rfl (fun s2 I2=> ?_) hf1
 refine Mg (PP (UnaryOp_ (wpAny_Constant_int ?_)) hs2)
 have I3:Inv X c4 _ _ {s2 with toks:=s2.toks+1}:=⟨I2.tok _,Nat.succ_pos _⟩
 refine IB I3.pos (IA c4 _ _ _ (.int n) _ _ I3 ⟨_,rfl⟩ q) fun v s4 z4 ⟨y4,H4,I4,r4,q4⟩=> ?_
 refine K7 z4 (U6 I4 hN hj hy r4 (fun s5 I5 z5=> ?_) hf2)
 exact IB z5 (h2 c4 s5 _ _ D ⟨I5,z5⟩ q4) fun fl s6 z6 q6=>⟨q6,z6⟩
end
structure FnOkT(P:Program)(w:World)(K:j6)(mg:Str->Option Value)(base:Heap)(k:Nat)(f:Addr)(fd:FuncData)(ps:List Str)(sp:Sp):Prop where
 len:∀vs H Q E,sp vs H Q E->vs.length=ps.length
 run:∀(A:Around) (outer:List Env) (s:Shared) (H:Hp) (args:Args) (us:List Value) (vs:List V) (Q:VK) (E:XK),Room k A->Env0w P w K mg base A outer s H->BindsTo s fd args (ps.zip us)->u3 vs us->sp vs H Q E->
  codeAny (model P w) A (.call (.ref f) args) (fun r s'=>CR D7 outer P w H s Q E r s'/\0<s'.toks) s
section
variable {P:Program} {w:World} {K:j6} {mg:Str->Option Value} {base:Heap}
theorem Fun.okT{x qual:Str}{st:Stmt}{f:Addr}{fd:FuncData}{N ps:List Str}{k:Nat}{sp:Sp}(F:Fun K x qual st f fd)(S:FnScope N ps (i3 st))(len:∀vs H Q E,sp vs H Q E->vs.length=ps.length)
  (Bp:∀(E6:Value) (A:Around) (outer:List Env) (s:Shared) (H:Hp) (vs:List V) (Q:VK) (E:XK),Room k (A.deeper (envOfC qual (i3 st) s.heap.objs.size f E6))->sp vs H Q E->
   ∃t,Qcx (X7 D7 P w K mg base N qual (i3 st) f E6 A outer s H E).nox (S9 st) t/\t {nx:=fun _ H'=>Q .non H',rt:=Q} (start N vs) H):FnOkT P w K mg base (k+1) f fd ps sp:=by
 obtain⟨oc,od,kV,doc,pm,an,E6,ct,osl,rfl,lk,DL⟩:=F.ex
 refine⟨len,fun A outer s H args us vs Q E hr e0 hb r Ha=> ?_⟩
 have hl:=len _ _ _ _ Ha
 have KX:K.In s.heap:=e0.mod.kin.keeps fun b o e=>(e0.bs b o e).1
 have lim:s.heap.NoLimit:=e0.mod.nolimit.keeps fun b o e=>(e0.bs b o e).1
 have LG:∀y∈ps.zip us,(i3 st).names.lookup y.1=some .local\/((i3 st).names.lookup y.1=some .cell/\((cellsFrom (s.heap.objs.size+1) (i3 st).names []).lookup y.1).isSome=true):=fun⟨n,v⟩ hy=>by
  rcases S.par n (Me hy).1 with q|q
  ·exact .inl q
  ·exact .inr ⟨q,PN _ _ _ (.inl q)⟩
 refine UP hr.depth (KX _ _ lk) rfl S.co S.gen rfl (UO KX DL) (hb _ _ _ _ ?_)
 refine UN S.kind LG fun env he s1 x=> ?_
 subst he
 refine⟨lim.keeps x.toInCall.keep,codeAny_func ?_⟩
 obtain⟨t,ht,hq⟩:=Bp E6 A outer s H vs Q E (hr.deeper _) Ha
 have I:Inw (X7 D7 P w K mg base N qual (i3 st) f E6 A outer s H E) [] (start N vs) H s1:=DK S hr.hd e0 hl r x
 refine I9 (ht [] s1 (start N vs) H _ (I.wish _) hq) (fun fl s' hs=> ?_) fun e s' hs=>False.elim hs
 obtain⟨hs,z⟩:=hs
 have hs:=hs.unwish
 have fin:∀{σ':St} {H':Hp} {v:V} {u:Value},Inw (X7 D7 P w K mg base N qual (i3 st) f E6 A outer s H E) [] σ' H' s'->RelV v u->Q v H'->CE outer P w H s Q u s':=
  fun{σ' H' v u} J rv q=>⟨v,H',J.os,J.bare,J.base,J.hok,rv,q⟩
 cases fl with
 |ret u=>
  obtain⟨v,σ',H',J,rv,q⟩:=hs
  exact⟨fin J rv q,z⟩
 |next=>
  obtain⟨σ',H',J,q⟩:=hs
  exact⟨fin (v:=V.non) (u:=Value.none) J rfl q,z⟩
 |brk=>
  obtain⟨_,_,_,q⟩:=hs
  exact False.elim q
 |cont=>
  obtain⟨_,_,_,q⟩:=hs
  exact False.elim q
end
section
variable {X:Cx}
theorem Qq{k i iy:Nat}{f:Addr}{fd:FuncData}{ps:List Str}{sp:Sp}{E:XK}{x y g:Str}{px py pg cpos pos:Pos}
  (F:FnOkT X.prog X.w X.K X.mg X.base k f fd ps sp)(hr:Room k X.A)(hg:Gl X g)(hm:X.mg g=some (.ref f))(hk:PySem.W.keepIn X.K (.ref f)=true)(hb:Binds X.K fd ps [])
  (hN:X.N.Nodup)(hi:X.N[i]? =some x)(Fa:Loc X.env.scope x)(hy:X.N[iy]? =some y)(Pm:X.env.scope.names.lookup y=some .local)(hdy:(y==("__debug__":Str))=false:=by decide)(Jj:(g==("__debug__":Str))=false:=by decide)
  (hs:swapsWith (.Call (.Name g pg) [.Name y py] [] cpos) (some (.Name x px)) pos.line X.env=pure false:=by rfl)
  (hf:X.fn x=true\/X.env.scope.names.lookup x=some .local:=by first|exact .inl rfl|exact .inr rfl|assumption):
  PSW X (.Assign [.Name x px] (.Call (.Name g pg) [.Name y py] [] cpos) pos)
   (fun D σ H=>∃v,σ[iy]? =some (some v)/\sp [v] H (fun u H'=>D.nx (σ.set i (some u)) H') E):=by
 intro c4 s σ H D I h
 obtain⟨v,hv,h⟩:=h
 obtain⟨m,hn,hl⟩:=I.loc
 obtain⟨u,ru,lk⟩:=hl iy y v hy hv (.inl Pm)
 have hmy:m y=some u:=by
  rcases lk with ⟨_,e⟩|⟨k,_⟩
  ·exact e
  ·rcases k with k|k
   ·rw[show X.env.kindOf y=some .local from Pm] at k;cases k
   ·rw[show X.env.kindOf y=some .local from Pm] at k;cases k
 refine PP ?_ hs
 refine Gf (Vc I.ok.kind hg (Zy (by rw[I.ok.glob];exact I.mod.glob.keeps I.bk) hm ?_) Jj)
 refine Il (h₀:=X.base) I.ok.mod.kin hk ?_ rfl rfl
 refine Im (PQ (pos:=py) (Vh I.ok.kind Pm hn hmy ?_) hdy)
 refine Mf ⟨I.kIn,?_⟩
 have r2:u3 [v] [u]:= .cons ru .nil
 have hl2:([u]:List Value).length=ps.length:=by rw[<-r2.length];exact F.len _ _ _ _ h
 have e0:Env0w X.prog X.w X.K X.mg X.base X.A X.stack s H:=⟨I.ok.frames,I.ok.mod,I.bs,E7 I.ok.bsz I.sz,I.stack,I.stkFree,I.hok,I.bare⟩
 refine Dm (Dk (F.run X.A X.stack s H ⟨[u],[]⟩ [u] [v] _ E hr e0 (hb s [u] I.kIn hl2) r2 h) fun r s' hq=> ?_)
 obtain⟨hq,z⟩:=hq
 cases r with
 |error e=>exact False.elim hq
 |ok fl=>
  cases fl with
  |ret u2=>
   obtain⟨y2,H2,I2,r3,q2⟩:=I.after hq
   exact K7 z (U6 I2 hN hi Fa r3 (fun s3 I3 z3=>⟨_,H2,⟨I3,z3⟩,q2⟩) hf)
  |next=>exact False.elim hq
  |brk=>exact False.elim hq
  |cont=>exact False.elim hq
end
def Nh(f:Addr->Option Int):PyProof.Rows.KeyKind where
 α:=Int
 blt a b:=decide (a<b)
 irrefl a:=X8 (Int.lt_irrefl a)
 trans a b c h1 h2:=B7 (Int.lt_trans (A2 h1) (A2 h2))
 negTrans a b c h:=by
  have h:=A2 h
  by_cases e:a<b
  ·exact .inl (B7 e)
  ·exact .inr (B7 (by omega))
 total a b h1 h2:=by
  have h1:=Bt h1
  have h2:=Bt h2
  omega
 keyOf v:=match v with
  | .ref a=>f a
  |_=>none
 dflt:=0
theorem FJ{h:Heap}{f:Addr->Option Int}(hT:∀a m,f a=some m->∃o t x n,h.get? a=some o/\o.cls= .type "tuple"/\o.data= .seq #[.int m t,x] n):∀{vs:List Value},(∀v∈vs,∃a m,v= .ref a/\f a=some m)->∃fs,fs.length=vs.length/\PySem.W.KatTups h vs fs/\∀v∈fs,∃m t,v=Value.int m t
 |[],_=>⟨[],rfl,PySem.W.KatTups.nil,fun v hv=>(by cases hv)⟩
 |v::vs,hv=>by
  obtain⟨a,m,rfl,e⟩:=hv v A5
  obtain⟨o,t,x,n,h1,h2,h3⟩:=hT a m e
  obtain⟨fs,l,k,q⟩:=FJ hT (vs:=vs) fun v hv'=>hv v (B1 _ hv')
  refine⟨.int m t::fs,by rw[List.length_cons,List.length_cons,l],PySem.W.KatTups.cons h1 h2 h3 rfl k,fun v hv'=> ?_⟩
  rcases C8.mp hv' with e|hv'
  ·exact⟨m,t,e⟩
  ·exact q v hv'
theorem GL{prog:Program}{w:World}{s:Shared}{f:Addr->Option Int}{vs:List Value}(inj:∀a b m,f a=some m->f b=some m->a=b)(hT:∀a m,f a=some m->∃o t x n,s.heap.get? a=some o/\o.cls= .type "tuple"/\o.data= .seq #[.int m t,x] n)
  (hv:∀v∈vs,∃a m,v= .ref a/\f a=some m):TS.Dq (Nh f) (tuples' true) prog w vs s:=fun A=>⟨fun E x y a b Q ha hb q=>by
  cases x<;>first|(cases ha;done)|skip
  cases y<;>first|(cases hb;done)|skip
  rename_i x y
  obtain⟨o,t,u,n,h1,h2,h3⟩:=hT x a ha
  obtain⟨o',t',u',n',g1,g2,g3⟩:=hT y b hb
  refine PySem.W.kat_lt h1 h3 g1 g3 (PySem.W.kat_cons (UL a t b t' prog w _ _ (PySem.W.kat_go (fun e=> ?_) fun e=> ?_)))
  ·have e':a=b:=eq_of_beq (α:=Int) e
   subst e'
   have:=inj x y a ha hb
   subst this
   rw[h1] at g1
   cases g1
   rw[h3] at g3
   cases g3
   have q':Q false s:=by have h:=q;rw[show (Nh f).blt a a=false from (Nh f).irrefl a] at h;exact h
   exact PySem.W.kat_yes (PySem.W.kat_cons (Ih u prog w _ _ (PySem.W.kat_yes (PySem.W.kat_nil q'))))
  ·refine PySem.W.kat_no ?_
   have:=PySem.W.kat_lt_int (prog:=prog) (w:=w) (A:=A) (E:=fun _ _=>False) (s:=s) (x:=a) (y:=b) (t:=t) (u:=t') (Q:=Q) q
   rw[keyLt'_oneType] at this
   exact this,fun h2 E' Q q=>by
  obtain⟨fs,l,k,hi⟩:=FJ hT hv
  refine PySem.W.kat_kind (T:= .type "int") k (by omega) (fun v hv=> ?_) (by decide) q
  obtain⟨m,t,rfl⟩:=hi v hv
  exact PySem.W.Looks.of_pure rfl⟩
theorem Fw{f:Addr->Option Int}{ps:List (Int×Addr)}(hf:∀x∈ps,f x.2=some x.1){xs:Array Keyed}(hp:xs.Perm (pairsOf (ps.map fun x=>Value.ref x.2)))(hs:SortedToK (Nh f) xs (pairsOf (ps.map fun x=>Value.ref x.2)).size):
  ∃qs:List (Int×Addr),(xs.map (·.2)).toList=qs.map (fun x=>Value.ref x.2)/\qs.Perm ps/\(qs.map (·.1)).Pairwise (· <= ·):=by
 have hl:xs.toList.Perm ((ps.map fun x=>Value.ref x.2).zip (ps.map fun x=>Value.ref x.2)):=by rw[<-pairsOf_toList];exact JS.mp hp
 have hmem:∀p,p∈xs.toList->∃x∈ps,p=(Value.ref x.2,Value.ref x.2):=fun p hp'=>by
  obtain⟨h1,h2⟩:=mem_zip_self (hl.mem_iff.mp hp')
  obtain⟨x,hx,e⟩:=n8.mp h2
  exact⟨x,hx,Ej e.symm (by rw[<-h1];exact e.symm)⟩
 let g:Value×Value->Int×Addr:=fun p=>match p.1 with
  | .ref a=>((f a).getD 0,a)
  |_=>(0,0)
 have hg:∀x∈ps,g (Value.ref x.2,Value.ref x.2)=x:=fun x hx=>by
  show ((f x.2).getD 0,x.2)=x
  rw[hf x hx]
  rfl
 refine⟨xs.toList.map g,?_,?_,?_⟩
 ·rw[Array.toList_map,N7]
  refine JO fun p hp'=> ?_
  obtain⟨x,hx,rfl⟩:=hmem p hp'
  show Value.ref x.2=Value.ref (g (Value.ref x.2,Value.ref x.2)).2
  rw[hg x hx]
 ·have h1:=hl.map g
  have e2:∀l:List (Int×Addr),(∀x∈l,x∈ps)->((l.map fun x=>Value.ref x.2).zip (l.map fun x=>Value.ref x.2)).map g=l:=by
   intro l
   induction l with
   |nil=>intro _;rfl
   |cons x l ih=>
    intro h
    rw[List.map_cons,List.zip_cons_cons,List.map_cons,ih fun y hy=>h y (B1 _ hy),hg x (h x A5)]
  rwa [e2 ps fun _ h=>h] at h1
 ·rw[Ee]
  intro i j hi hj Fc
  have hi':i<xs.size:=by simpa using hi
  have hj':j<xs.size:=by simpa using hj
  have h1:=hs i j (EI Fc) (by rw[<-hp.size_eq];exact hj')
  obtain⟨x,hx,ex⟩:=hmem xs[i] (by simp)
  obtain⟨y,hy,ey⟩:=hmem xs[j] (by simp)
  have k1:KK (Nh f) xs i=x.1:=by
   unfold KK
   rw[Gu hi',ex]
   show (f x.2).getD 0=x.1
   rw[hf x hx];rfl
  have k2:KK (Nh f) xs j=y.1:=by
   unfold KK
   rw[Gu hj',ey]
   show (f y.2).getD 0=y.1
   rw[hf y hy];rfl
  rw[k1,k2] at h1
  have h2:¬y.1<x.1:=Bt h1
  simp only[List.getElem_map,Array.getElem_toList]
  rw[ex,ey,hg x hx,hg y hy]
  omega
section
variable {X:Cx}
theorem PV{ps:List (Int×Addr)}:∀{n5:List Value},u3 (ps.map fun x=>V.ref x.2) n5->n5=ps.map fun x=>Value.ref x.2:=by
 induction ps with
 |nil=>intro n5 h;cases h;rfl
 |cons x ps ih=>
  intro n5 h
  cases h with
  |cons h1 h2=>rw[List.map_cons,ih h2];cases h1;rfl
theorem HC:∀(ps:List (Int×Addr)),u3 (ps.map fun x=>V.ref x.2) (ps.map fun x=>Value.ref x.2)
 |[]=> .nil
 |_::ps=> .cons rfl (HC ps)
theorem Lr:∀{ps:List (Int×Addr)},(ps.map (·.1)).Nodup->∀x∈ps,∀y∈ps,x.1=y.1->x=y
 |z::ps,nd,x,hx,y,hy,e=>by
  rw[List.map_cons,O4] at nd
  rcases C8.mp hx with h1|h1<;>rcases C8.mp hy with h2|h2
  ·rw[h1,h2]
  ·exact absurd (n8.mpr ⟨y,h2,by rw[<-e,h1]⟩) nd.1
  ·exact absurd (n8.mpr ⟨x,h1,by rw[e,h2]⟩) nd.1
  ·exact Lr nd.2 x h1 y h2 e
theorem Jy(K:j6)(hK:X.K=K:=by rfl):P8 X (.builtin "sorted") (fun xs H Q=>∃(p:Addr) (ps:List (Int×Addr)),xs=[.ref p]/\l7 K H p (ps.map fun x=> .ref x.2)/\(∀x∈ps,∃v,H x.2=some (.tup [.int x.1,v]))/\(ps.map (·.1)).Nodup/\ps.length<=1000000/\
  ∀(r:Addr) (qs:List (Int×Addr)),H r=none->qs.Perm ps->(qs.map (·.1)).Pairwise (· <= ·)->Q (.ref r) (i8 H r (.lst (qs.map fun x=> .ref x.2)))):=by
 subst hK
 intro c4 s σ H xs us Q I r h
 obtain⟨p,ps,rfl,hp,hT,nd,hl,q⟩:=h
 obtain⟨u,rfl,ru⟩:=vals1 r
 cases ru
 obtain⟨n5,rv,pl,hz⟩:=I.list hp
 have eits:=PV rv
 subst eits
 let f:Addr->Option Int:=fun a=>(ps.find? fun x=>decide (x.2=a)).map (·.1)
 have hf:∀x∈ps,f x.2=some x.1:=fun x hx=>by
  show (ps.find? fun y=>decide (y.2=x.2)).map (·.1)=_
  cases e:ps.find? fun y=>decide (y.2=x.2) with
  |none=>exact absurd (B7 rfl) (List.find?_eq_none.mp e x hx)
  |some y=>
   have hy:=NS e
   have he:y.2=x.2:=A2 (List.find?_some (p:=fun y:Int×Addr=>decide (y.2=x.2)) e)
   obtain⟨v,h1⟩:=hT x hx
   obtain⟨v',h2⟩:=hT y hy
   rw[he,h1] at h2
   show some y.1=some x.1
   rw[V.int.inj (DX (HO.tup.inj (R7 h2))).1]
 have ff:∀a m,f a=some m->∃x∈ps,x=(m,a):=fun a m e=>by
  obtain⟨y,e1,e2⟩:=o7.mp e
  exact⟨y,NS e1,Ej e2 (A2 (List.find?_some (p:=fun x:Int×Addr=>decide (x.2=a)) e1))⟩
 refine TS.Fy (κ:=Nh f) (kd:=tuples' true) pl.isList (fun z hz=> ?_) (fun h' hk=>GL (fun a b m h1 h2=> ?_) (fun a m e=> ?_) fun v hv=> ?_) (by rw[i4];omega) fun st a1 a2=> ?_
 ·obtain⟨h1,h2⟩:=mem_zip_self (by rw[<-pairsOf_toList];exact hz)
  obtain⟨x,hx,e⟩:=n8.mp h2
  exact⟨x.1,by rw[<-e];exact hf x hx⟩
 ·obtain⟨x,hx,rfl⟩:=ff a m h1
  obtain⟨y,hy,rfl⟩:=ff b m h2
  exact congrArg Prod.snd (Lr nd _ hx _ hy rfl)
 ·obtain⟨x,hx,rfl⟩:=ff a m e
  obtain⟨v,h1⟩:=hT _ hx
  obtain⟨vs',rv',⟨o,g1,g2,n,g3⟩,_⟩:=I.tuple (W3.of h1)
  cases rv' with
  |cons r1 r2=>
   cases r2 with
   |cons r2 r3=>
    cases r3
    obtain⟨t,rfl⟩:=r1
    exact⟨o,t,_,n,hk _ _ g1,g2,g3⟩
 ·obtain⟨x,hx,rfl⟩:=n8.mp hv
  exact⟨x.2,x.1,rfl,hf x hx⟩
 ·obtain⟨qs,h1,h2,h3⟩:=Fw hf a1 a2
  obtain⟨e,he⟩:=sortedAll_at s.heap (ps.map fun x=>Value.ref x.2) ((arrOf st).map (·.2))
  refine⟨.ref (s.heap.objs.size+1),_,I.laid (o:= .lst (qs.map fun x=> .ref x.2)) (t':=s.toks) (fun b u hb=>sortedAll_old hb) (Cc _) ?_,rfl,q _ qs (I.hok.fresh (Cc _)) h2 h3⟩
  refine⟨?_,((arrOf st).map (·.2)).toList,e,by rw[h1];exact HC qs,he⟩
  rw[i4,h2.length_eq,B9]
  omega
end
section
variable {X:Cx}
theorem Rn(K:j6)(hc:X.calm=true:=by rfl)(hK:X.K=K:=by rfl):P8 X (.builtin "min") (fun xs H Q=>∃(p:Addr) (ns:List Int),xs=[.ref p]/\l7 K H p (ns.map V.int)/\0<ns.length/\∀M,M∈ns->(∀a∈ns,M<=a)->Q (.int M) H):=by
 subst hK
 intro c4 s σ H xs us Q I r h
 obtain⟨p,ns,rfl,hp,Np,q⟩:=h
 obtain⟨u,rfl,ru⟩:=vals1 r
 cases ru
 obtain⟨n5,rv,pl,hz⟩:=I.list hp
 have hi:=intsAre_of rv
 obtain⟨ys,e⟩:=hi.allInts.items
 have QM:ns=ys.toList.map (·.1):=by rw[<-hi.numsOf,<-nums_intItems,<-e]
 have hsz:0<ys.size:=by
  have h3:=Np
  rw[QM,i4,X9] at h3
  exact h3
 have hl:=pl.isList
 rw[e] at hl
 refine min_intList (I.ok.hd hc) hl hsz fun v h' tk hv hk=> ?_
 obtain⟨t,rfl⟩:=intItems_at hv
 obtain⟨h1,h2⟩:=argBest_lt (numAt ys) (ys.size-1)
 refine⟨.int _,H,I.kept (t':=tk) hk,⟨t,rfl⟩,q _ ?_ fun a ha=> ?_⟩
 ·rw[QM,numAt_eq]
  exact getD_mem (by rw[i4,X9];omega)
 ·rw[QM] at ha
  obtain⟨j,hj,rfl⟩:=mem_getD ha
  rw[i4,X9] at hj
  rw[<-numAt_eq]
  exact h2 j (by omega)
def VVo(r d:Addr):HO:= .ext fun h=>h.IsValuesView r d
theorem Wg{P:Program}{w:World}{H:Hp}{h:Heap}{r d:Addr}(x:h.IsValuesView r d):D0 P w H h r (VVo r d):=by
 obtain⟨o,ho,hc,hd⟩:=id x
 exact⟨x,⟨o,ho⟩,fun h1 h2 ⟨o1,g1,r1⟩ k=>⟨o1,k o1 g1,r1⟩⟩
def Yv:V->List V->Hp->VK->Prop:=fun x vs H Q=>∃(p:Addr) (kvs:List (A0×V)),x= .ref p/\vs=[]/\H p=some (.dK kvs)/\∀r,H r=none->Q (.ref r) (i8 H r (VVo r p))
theorem Xc:MtR X "dict.values" Yv:=by
 intro c4 s σ H x vs v us Q I rx rv h
 obtain⟨p,kvs,rfl,rfl,hp,q⟩:=h
 cases rx
 have Am:=rv.zero
 subst Am
 obtain⟨z,hd,ws,rel,dd⟩:=Df I.hok hp
 refine Gv Vs dd.typeIs PySem.F.entry_dict_values (PySem.F.args_dict_values_1 _) (PySem.meets_dict_values (o6 X.prog X.w) p hd) ⟨⟨_,dd⟩,?_⟩
 have g:(s.heap.push {cls:= .type "dict_values",data:= .fields #[.ref p]}).get? s.heap.objs.size=some {cls:= .type "dict_values",data:= .fields #[.ref p]}:=C7 _ rfl
 exact⟨.ref s.heap.objs.size,_,I.laid (o:=VVo s.heap.objs.size p) (t':=s.toks) (fun b o e=>q0 _ e) (l8 _) (Wg ⟨_,g,rfl,rfl⟩),rfl,q _ (I.hok.fresh (l8 _))⟩
theorem Hf(hc:X.calm=true:=by rfl):P8 X (.builtin "sorted") (fun xs H Q=>∃(v p:Addr) (kvs:List (A0×V)) (ns:List Int),xs=[.ref v]/\H v=some (VVo v p)/\H p=some (.dK kvs)/\kvs.map (·.2)=ns.map V.int/\ns.length<64/\
  ∀(r:Addr) (ns':List Int),H r=none->ns'.Perm ns->ns'.Pairwise (· <= ·)->Q (.ref r) (i8 H r (.lst (ns'.map V.int)))):=by
 intro c4 s σ H xs us Q I r h
 obtain⟨v,p,kvs,ns,rfl,hv,hp,hk,hl,q⟩:=h
 obtain⟨u,rfl,ru⟩:=vals1 r
 cases ru
 have kv:=(I.hok v _ hv).1
 obtain⟨z,hd,vs,rel,dd⟩:=Df I.hok hp
 obtain⟨ep,da⟩:=dd.dictAt
 have hn:vs.length=ns.length:=by
  have h1:=congrArg List.length hk
  have h2:=congrArg List.length (AF rel)
  simp only[i4] at h1 h2
  omega
 have S:=PySem.W.kdl_values (prog:=X.prog) (w:=X.w) (knd:=o6 X.prog X.w) (d:=p) (r:=v) (kvs:=vs) (ep:=ep)
 rw[hn] at S
 refine Ev S (I.ok.hd hc) ⟨kv,da⟩ hl (fun i v h=> ?_) fun h' tk a out ns' e ha old g1 rv a2 a3=> ?_
 ·obtain⟨k,e1⟩:=h
  have key:∀{kvs:List (A0×V)} {vs:List (A0×Value)} {ns:List Int} {i:Nat},KV kvs vs->kvs.map (·.2)=ns.map V.int->vs[i]? =some (k,v)->∃z t,ns[i]? =some z/\v= .int z t:=by
   intro kvs
   induction kvs with
   |nil=>
    intro vs ns i r _ e
    cases r
    simp at e
   |cons x kvs ih=>
    intro vs ns i r hk e
    cases ns with
    |nil=>cases hk
    |cons n ns=>
     rw[List.map_cons,List.map_cons] at hk
     obtain⟨k1,k2⟩:=DX hk
     cases r with
     |cons r1 r2=>
      cases i with
      |zero=>
       simp at e
       rw[e,k1] at r1
       obtain⟨_,t,r1⟩:=r1
       exact⟨n,t,rfl,r1⟩
      |succ i=>
       obtain⟨z,t,h1,h2⟩:=ih (i:=i) r2 k2 (by simpa using e)
       exact⟨z,t,by simpa using h1,h2⟩
  exact key rel hk e1
 ·refine⟨.ref a,_,I.laid (o:= .lst (ns'.map V.int)) (t':=tk) old ha ?_,rfl,q a ns' (I.hok.fresh ha) a2 a3⟩
  refine⟨?_,out,e,rv,g1⟩
  rw[i4,a2.length_eq,B9]
  omega
end
theorem Ye{b:Addr}{P:Addr->Prop}:(∃k,V.ref b=V.ref k/\P k)=P b:=propext ⟨fun h=>by obtain⟨k,e,h⟩:=h;cases e;exact h,fun h=>by exact⟨b,rfl,h⟩⟩
theorem Yd{α0:Sort _}{b:Addr}{P:Addr->α0->Prop}:(∃k y0,V.ref b=V.ref k/\P k y0)=(∃y0,P b y0):=propext ⟨fun h=>by obtain⟨k,y0,e,h⟩:=h;cases e;exact⟨y0,h⟩,fun h=>by obtain⟨y0,h⟩:=h;exact⟨b,y0,rfl,h⟩⟩
theorem Yc{α0:Sort _}{α1:Sort _}{b:Addr}{P:Addr->α0->α1->Prop}:(∃k y0 y1,V.ref b=V.ref k/\P k y0 y1)=(∃y0 y1,P b y0 y1):=propext ⟨fun h=>by obtain⟨k,y0,y1,e,h⟩:=h;cases e;exact⟨y0,y1,h⟩,fun h=>by obtain⟨y0,y1,h⟩:=h;exact⟨b,y0,y1,rfl,h⟩⟩
theorem Yb{α0:Sort _}{α1:Sort _}{α2:Sort _}{b:Addr}{P:Addr->α0->α1->α2->Prop}:(∃k y0 y1 y2,V.ref b=V.ref k/\P k y0 y1 y2)=(∃y0 y1 y2,P b y0 y1 y2):=propext ⟨fun h=>by obtain⟨k,y0,y1,y2,e,h⟩:=h;cases e;exact⟨y0,y1,y2,h⟩,fun h=>by obtain⟨y0,y1,y2,h⟩:=h;exact⟨b,y0,y1,y2,rfl,h⟩⟩
theorem Ya{α0:Sort _}{α1:Sort _}{α2:Sort _}{α3:Sort _}{b:Addr}{P:Addr->α0->α1->α2->α3->Prop}:(∃k y0 y1 y2 y3,V.ref b=V.ref k/\P k y0 y1 y2 y3)=(∃y0 y1 y2 y3,P b y0 y1 y2 y3):=propext ⟨fun h=>by obtain⟨k,y0,y1,y2,y3,e,h⟩:=h;cases e;exact⟨y0,y1,y2,y3,h⟩,fun h=>by obtain⟨y0,y1,y2,y3,h⟩:=h;exact⟨b,y0,y1,y2,y3,rfl,h⟩⟩
theorem RO{b:Addr}{P:Addr->Prop}:(∃k,[V.ref b]=[V.ref k]/\P k)=P b:=propext ⟨fun h=>by obtain⟨k,e,h⟩:=h;cases e;exact h,fun h=>by exact⟨b,rfl,h⟩⟩
theorem RN{α0:Sort _}{b:Addr}{P:Addr->α0->Prop}:(∃k y0,[V.ref b]=[V.ref k]/\P k y0)=(∃y0,P b y0):=propext ⟨fun h=>by obtain⟨k,y0,e,h⟩:=h;cases e;exact⟨y0,h⟩,fun h=>by obtain⟨y0,h⟩:=h;exact⟨b,y0,rfl,h⟩⟩
theorem RL{α0:Sort _}{α1:Sort _}{b:Addr}{P:Addr->α0->α1->Prop}:(∃k y0 y1,[V.ref b]=[V.ref k]/\P k y0 y1)=(∃y0 y1,P b y0 y1):=propext ⟨fun h=>by obtain⟨k,y0,y1,e,h⟩:=h;cases e;exact⟨y0,y1,h⟩,fun h=>by obtain⟨y0,y1,h⟩:=h;exact⟨b,y0,y1,rfl,h⟩⟩
theorem RK{α0:Sort _}{α1:Sort _}{α2:Sort _}{b:Addr}{P:Addr->α0->α1->α2->Prop}:(∃k y0 y1 y2,[V.ref b]=[V.ref k]/\P k y0 y1 y2)=(∃y0 y1 y2,P b y0 y1 y2):=propext ⟨fun h=>by obtain⟨k,y0,y1,y2,e,h⟩:=h;cases e;exact⟨y0,y1,y2,h⟩,fun h=>by obtain⟨y0,y1,y2,h⟩:=h;exact⟨b,y0,y1,y2,rfl,h⟩⟩
theorem Yh{b:Int}{P:Int->Prop}:(∃k,V.int b=V.int k/\P k)=P b:=propext ⟨fun h=>by obtain⟨k,e,h⟩:=h;cases e;exact h,fun h=>by exact⟨b,rfl,h⟩⟩
theorem Yg{α0:Sort _}{b:Int}{P:Int->α0->Prop}:(∃k y0,V.int b=V.int k/\P k y0)=(∃y0,P b y0):=propext ⟨fun h=>by obtain⟨k,y0,e,h⟩:=h;cases e;exact⟨y0,h⟩,fun h=>by obtain⟨y0,h⟩:=h;exact⟨b,y0,rfl,h⟩⟩
theorem Yf{α0:Sort _}{α1:Sort _}{b:Int}{P:Int->α0->α1->Prop}:(∃k y0 y1,V.int b=V.int k/\P k y0 y1)=(∃y0 y1,P b y0 y1):=propext ⟨fun h=>by obtain⟨k,y0,y1,e,h⟩:=h;cases e;exact⟨y0,y1,h⟩,fun h=>by obtain⟨y0,y1,h⟩:=h;exact⟨b,y0,y1,rfl,h⟩⟩
theorem RS{b:Int}{P:Int->Prop}:(∃k,[V.int b]=[V.int k]/\P k)=P b:=propext ⟨fun h=>by obtain⟨k,e,h⟩:=h;cases e;exact h,fun h=>by exact⟨b,rfl,h⟩⟩
theorem RQ{α0:Sort _}{b:Int}{P:Int->α0->Prop}:(∃k y0,[V.int b]=[V.int k]/\P k y0)=(∃y0,P b y0):=propext ⟨fun h=>by obtain⟨k,y0,e,h⟩:=h;cases e;exact⟨y0,h⟩,fun h=>by obtain⟨y0,h⟩:=h;exact⟨b,y0,rfl,h⟩⟩
theorem RP{α0:Sort _}{α1:Sort _}{b:Int}{P:Int->α0->α1->Prop}:(∃k y0 y1,[V.int b]=[V.int k]/\P k y0 y1)=(∃y0 y1,P b y0 y1):=propext ⟨fun h=>by obtain⟨k,y0,y1,e,h⟩:=h;cases e;exact⟨y0,y1,h⟩,fun h=>by obtain⟨y0,y1,h⟩:=h;exact⟨b,y0,y1,rfl,h⟩⟩
theorem XZ{b:Str}{P:Str->Prop}:(∃k,V.str b=V.str k/\P k)=P b:=propext ⟨fun h=>by obtain⟨k,e,h⟩:=h;cases e;exact h,fun h=>by exact⟨b,rfl,h⟩⟩
theorem XY{α0:Sort _}{b:Str}{P:Str->α0->Prop}:(∃k y0,V.str b=V.str k/\P k y0)=(∃y0,P b y0):=propext ⟨fun h=>by obtain⟨k,y0,e,h⟩:=h;cases e;exact⟨y0,h⟩,fun h=>by obtain⟨y0,h⟩:=h;exact⟨b,y0,rfl,h⟩⟩
theorem XX{α0:Sort _}{α1:Sort _}{b:Str}{P:Str->α0->α1->Prop}:(∃k y0 y1,V.str b=V.str k/\P k y0 y1)=(∃y0 y1,P b y0 y1):=propext ⟨fun h=>by obtain⟨k,y0,y1,e,h⟩:=h;cases e;exact⟨y0,y1,h⟩,fun h=>by obtain⟨y0,y1,h⟩:=h;exact⟨b,y0,y1,rfl,h⟩⟩
theorem RJ{b:Str}{P:Str->Prop}:(∃k,[V.str b]=[V.str k]/\P k)=P b:=propext ⟨fun h=>by obtain⟨k,e,h⟩:=h;cases e;exact h,fun h=>by exact⟨b,rfl,h⟩⟩
theorem RI{α0:Sort _}{b:Str}{P:Str->α0->Prop}:(∃k y0,[V.str b]=[V.str k]/\P k y0)=(∃y0,P b y0):=propext ⟨fun h=>by obtain⟨k,y0,e,h⟩:=h;cases e;exact⟨y0,h⟩,fun h=>by obtain⟨y0,h⟩:=h;exact⟨b,y0,rfl,h⟩⟩
theorem RH{α0:Sort _}{α1:Sort _}{b:Str}{P:Str->α0->α1->Prop}:(∃k y0 y1,[V.str b]=[V.str k]/\P k y0 y1)=(∃y0 y1,P b y0 y1):=propext ⟨fun h=>by obtain⟨k,y0,y1,e,h⟩:=h;cases e;exact⟨y0,y1,h⟩,fun h=>by obtain⟨y0,y1,h⟩:=h;exact⟨b,y0,y1,rfl,h⟩⟩
theorem Qbs{b:Bool}{P:Bool->Prop}:(∃k,V.bl b=V.bl k/\P k)=P b:=propext ⟨fun h=>by obtain⟨k,e,h⟩:=h;cases e;exact h,fun h=>by exact⟨b,rfl,h⟩⟩
theorem Qbr{α0:Sort _}{b:Bool}{P:Bool->α0->Prop}:(∃k y0,V.bl b=V.bl k/\P k y0)=(∃y0,P b y0):=propext ⟨fun h=>by obtain⟨k,y0,e,h⟩:=h;cases e;exact⟨y0,h⟩,fun h=>by obtain⟨y0,h⟩:=h;exact⟨b,y0,rfl,h⟩⟩
theorem Qbq{α0:Sort _}{α1:Sort _}{b:Bool}{P:Bool->α0->α1->Prop}:(∃k y0 y1,V.bl b=V.bl k/\P k y0 y1)=(∃y0 y1,P b y0 y1):=propext ⟨fun h=>by obtain⟨k,y0,y1,e,h⟩:=h;cases e;exact⟨y0,y1,h⟩,fun h=>by obtain⟨y0,y1,h⟩:=h;exact⟨b,y0,y1,rfl,h⟩⟩
theorem Yk{b:Bool}{P:Bool->Prop}:(∃k,[V.bl b]=[V.bl k]/\P k)=P b:=propext ⟨fun h=>by obtain⟨k,e,h⟩:=h;cases e;exact h,fun h=>by exact⟨b,rfl,h⟩⟩
theorem Yj{α0:Sort _}{b:Bool}{P:Bool->α0->Prop}:(∃k y0,[V.bl b]=[V.bl k]/\P k y0)=(∃y0,P b y0):=propext ⟨fun h=>by obtain⟨k,y0,e,h⟩:=h;cases e;exact⟨y0,h⟩,fun h=>by obtain⟨y0,h⟩:=h;exact⟨b,y0,rfl,h⟩⟩
theorem Yi{α0:Sort _}{α1:Sort _}{b:Bool}{P:Bool->α0->α1->Prop}:(∃k y0 y1,[V.bl b]=[V.bl k]/\P k y0 y1)=(∃y0 y1,P b y0 y1):=propext ⟨fun h=>by obtain⟨k,y0,y1,e,h⟩:=h;cases e;exact⟨y0,y1,h⟩,fun h=>by obtain⟨y0,y1,h⟩:=h;exact⟨b,y0,y1,rfl,h⟩⟩
theorem Yn{v:V}{l:St}{H:Hp}{Q:VK}:CI 0 (some v::l) H Q=Q v H:=by unfold CI;simp only[List.getElem?_cons_zero,Option.some.injEq,exists_eq_left']
theorem Ym{n:Nat}{o:Option V}{l:St}{H:Hp}{Q:VK}:CI (n+1) (o::l) H Q=CI n l H Q:=rfl
theorem Qbc{K:j6}{x qual:Str}{st:Stmt}{f:Addr}(h:∃(oc:Value) (od an:Option Addr) (osl:Array (Option Value)) (kV doc pm E6 ct:Value),K.lookup f=some ⟨oc,od, .func (PySem.W.fnOf x qual (AJ st) (S9 st) (i3 st) .none kV doc pm an E6 ct),osl⟩/\PySem.W.codeIn K E6 qual=true/\PySem.W.keepIn K (.ref f)=true):∃fd,Fun K x qual st f fd:=by
 obtain⟨oc,od,an,osl,kV,doc,pm,E6,ct,l,c,k⟩:=h
 exact⟨_,Uo l c k⟩
theorem Hq{α:Type}{us:List α}(h:us.length=1):∃a,us=[a]:=by
 cases us with
 |nil=>cases h
 |cons a l=>exact⟨a,by rw[Cs (DY h)]⟩
theorem Ry{α:Type}{us:List α}(h:us.length=2):∃a b,us=[a,b]:=by
 cases us with
 |nil=>cases h
 |cons a l=>obtain⟨b,rfl⟩:=Hq (DY h);exact⟨a,b,rfl⟩
theorem us3{α:Type}{us:List α}(h:us.length=3):∃a b c,us=[a,b,c]:=by
 cases us with
 |nil=>cases h
 |cons a l=>obtain⟨b,c,rfl⟩:=Ry (DY h);exact⟨a,b,c,rfl⟩
theorem us4{α:Type}{us:List α}(h:us.length=4):∃a b c d,us=[a,b,c,d]:=by
 cases us with
 |nil=>cases h
 |cons a l=>obtain⟨b,c,d,rfl⟩:=us3 (DY h);exact⟨a,b,c,d,rfl⟩
theorem QbC{i j:Int}:Ws (.int i) (.int j)=true:=rfl
theorem Qbz{i j:Str}:Ws (.str i) (.str j)=true:=rfl
theorem gN0{v:V}{o:Option V}{l:St}{H:Hp}{Q:St->Hp->Prop}:O3 0 v (o::l) H Q=Q (some v::l) H:=rfl
theorem gNS{n:Nat}{v:V}{o:Option V}{l:St}{H:Hp}{Q:St->Hp->Prop}:O3 (n+1) v (o::l) H Q=O3 n v l H fun l' H'=>Q (o::l') H':=rfl
def Mp(i:Nat):TE:=fun σ H Q=>match σ[i]? with|some (some v)=>Q v H|_=>False
theorem Qbv{v:V}{l:St}{H:Hp}{Q:VK}:Mp 0 (some v::l) H Q=Q v H:=rfl
theorem Qbu{n:Nat}{o:Option V}{l:St}{H:Hp}{Q:VK}:Mp (n+1) (o::l) H Q=Mp n l H Q:=rfl
theorem i9{X:Cx}(i:Nat){x:Str}{pos:Pos}(hN:X.N[i]? =some x:=by rfl)(hv:Vis X.env.scope x:=by first|exact Or.inl rfl|exact Or.inr (Or.inl rfl)|exact Or.inr (Or.inr rfl))(hd:(x==("__debug__":Str))=false:=by decide)
  (DL:(x==("__classdict__":Str))=false:=by decide):PE X (.Name x pos) (Mp i):=fun c4 s σ H Q I h=>Tn hN hv hd DL c4 s σ H Q I (by
 unfold Mp at h
 cases e:σ[i]? with
 |none=>rw[e] at h;exact h.elim
 |some o=>
  cases o with
  |none=>rw[e] at h;exact h.elim
  |some v=>rw[e] at h;exact⟨v,e,h⟩)
theorem Yo{i:Nat}{te:TE}{ti:TIp}{D:Ends}{σ:St}{H:Hp}:Wl i te ti D σ H=CI i σ H fun x H0=>te σ H0 fun y H1=>ti x y H1 fun z H2=>O3 i z σ H2 D.nx:=rfl
theorem Qb2{f:Int->Int->Int}{i j:Int}{H:Hp}{Q:VK}:ipI f (.int i) (.int j) H Q=Q (.int (f i j)) H:=by unfold ipI;simp only[V.int.injEq,exists_eq_left',exists_and_left,exists_eq_left]
theorem rI_{C:Int->Int->Prop}{g:Int->Int->V}{i j:Int}{H:Hp}{Q:VK}:rI C g (.int i) (.int j) H Q=(C i j/\Q (g i j) H):=by unfold rI;simp only[V.int.injEq,exists_eq_left',exists_and_left,exists_eq_left]
theorem QbH{g:Int->Int->V}{i j:Int}{H:Hp}{Q:VK}:RA g (.int i) (.int j) H Q=Q (g i j) H:=by unfold RA;simp only[V.int.injEq,exists_eq_left',exists_and_left,exists_eq_left]
theorem rU_{g:Int->V}{i:Int}{H:Hp}{Q:VK}:rU g (.int i) H Q=Q (g i) H:=by unfold rU;simp only[V.int.injEq,exists_eq_left',exists_and_left,exists_eq_left]
theorem QbJ{i j:Int}{H:Hp}{Q:VK}:rEq (.int i) (.int j) H Q=Q (.bl (decide (i=j))) H:=propext ⟨fun h=>by simpa only[V.int.injEq] using h.2,fun h=>⟨rfl,by simpa only[V.int.injEq] using h⟩⟩
theorem QbI{i j:Str}{H:Hp}{Q:VK}:rEq (.str i) (.str j) H Q=Q (.bl (decide (i=j))) H:=propext ⟨fun h=>by simpa only[V.str.injEq] using h.2,fun h=>⟨rfl,by simpa only[V.str.injEq] using h⟩⟩
theorem QbG{i j:Int}{H:Hp}{Q:VK}:rNe (.int i) (.int j) H Q=Q (.bl (!decide (i=j))) H:=propext ⟨fun h=>by simpa only[V.int.injEq] using h.2,fun h=>⟨rfl,by simpa only[V.int.injEq] using h⟩⟩
theorem QbF{i j:Str}{H:Hp}{Q:VK}:rNe (.str i) (.str j) H Q=Q (.bl (!decide (i=j))) H:=propext ⟨fun h=>by simpa only[V.str.injEq] using h.2,fun h=>⟨rfl,by simpa only[V.str.injEq] using h⟩⟩
theorem YB{l:Addr}{y:V}{H:Hp}{Q:VK}:CT (.ref l) [y] H Q=∃xs,H l=some (.lst xs)/\xs.length<sizeLine/\Q .non (i8 H l (.lst (xs++[y]))):=by unfold CT;simp only[V.ref.injEq,V.int.injEq,V.str.injEq,V.bl.injEq,List.cons.injEq,and_true,exists_and_left,exists_eq_left',exists_eq_left,and_assoc,true_and,exists_eq',exists_const]
theorem YA{l b:Addr}{H:Hp}{Q:VK}:GU (.ref l) (.ref b) H Q=∃xs,H l=some (.lst xs)/\∃zs,H b=some (.lst zs)/\xs.length+zs.length<=sizeLine/\∀p,H p=none->Q (.ref p) (i8 H p (.lst (xs++zs))):=by unfold GU;simp only[V.ref.injEq,V.int.injEq,V.str.injEq,V.bl.injEq,List.cons.injEq,and_true,exists_and_left,exists_eq_left',exists_eq_left,and_assoc,true_and]
theorem Yz{K:j6}{p:Addr}{i:Int}{H:Hp}{Q:VK}:Qi K (.ref p) (.int i) H Q=∃xs,l7 K H p xs/\∃v,PJ xs i=some v/\Q v H:=by unfold Qi;simp only[V.ref.injEq,V.int.injEq,V.str.injEq,V.bl.injEq,List.cons.injEq,and_true,exists_and_left,exists_eq_left',exists_eq_left,and_assoc,true_and]
theorem Yy{K:j6}{p:Addr}{i:Int}{H:Hp}{Q:VK}:Ll K (.ref p) (.int i) H Q=∃xs,W3 K H p xs/\∃v,PJ xs i=some v/\Q v H:=by unfold Ll;simp only[V.ref.injEq,V.int.injEq,V.str.injEq,V.bl.injEq,List.cons.injEq,and_true,exists_and_left,exists_eq_left',exists_eq_left,and_assoc,true_and]
theorem Um{t:TG}{u:XT}{v:V}{r:List V}{σ:St}{H:Hp}{Q:St->Hp->Prop}:Ar t u (v::r) σ H Q=t v σ H fun σ' H'=>u r σ' H' Q:=by unfold Ar;simp only[V.ref.injEq,V.int.injEq,V.str.injEq,V.bl.injEq,List.cons.injEq,and_true,exists_and_left,exists_eq_left',exists_eq_left,and_assoc,true_and,exists_const]
theorem Zj{σ:St}{H:Hp}{Q:St->Hp->Prop}:Jm [] σ H Q=Q σ H:=by unfold Jm;simp only[true_and]
theorem Sl{sp:Sp}{E:XK}{t:TA}{σ:St}{H:Hp}{Q:VK}:KM sp [] E t σ H Q=t σ H fun vs H1=>sp vs H1 Q E:=by unfold KM;simp only[List.append_nil]
theorem O5{C:Addr}{m:Str}{sp:Sp}{E:XK}{ta:TE}{t:TA}{σ:St}{H:Hp}{Q:VK}:Oz C m sp [] E ta t σ H Q=ta σ H fun x H1=>∃a dx fs,x= .ref a/\H1 a=some (.ins C dx fs)/\fs.lookup m=none/\t σ H1 fun vs H2=>sp (x::vs) H2 Q E:=by unfold Oz;simp only[List.append_nil]
theorem ME{C:Addr}{sp:Sp}{E:XK}{t:TA}{σ:St}{H:Hp}{Q:VK}:Sh C sp [] E t σ H Q=t σ H fun vs H1=>∀x dx,H1 x=none->H1 dx=none->dx≠x->sp (.ref x::vs) (i8 (i8 H1 dx (.own x)) x (.ins C dx [])) (fun v H2=>v= .non/\Q (.ref x) H2) E:=by unfold Sh;simp only[List.append_nil]
end L2
namespace KT
section
variable {κ α β:Type} [DecidableEq κ]
def mod(t:List (κ×α))(k:κ)(f:Option α->α):List (κ×α):=match t with
 |[]=>[(k,f none)]
 |x::r=>if x.1=k then (k,f (some x.2))::r else x::mod r k f
def get(t:List (κ×α))(k:κ):Option α:=match t with
 |[]=>none
 |x::r=>if x.1=k then some x.2 else get r k
theorem x9(t:List (κ×α))(k:κ)(f:Option α->α):get (mod t k f) k=some (f (get t k)):=by
 induction t with
 |nil=>simp [mod,get]
 |cons x r ih=>
  by_cases h:x.1=k
  ·simp [mod,get,h]
  ·simp [mod,get,h,ih]
theorem D5(t:List (κ×α)){k j:κ}(f:Option α->α)(h:j≠k):get (mod t k f) j=get t j:=by
 induction t with
 |nil=>simp [mod,get,D9 h]
 |cons x r ih=>
  by_cases hx:x.1=k
  ·have:¬k=j:=fun e=>h e.symm
   simp [mod,get,hx,this]
  ·by_cases hj:x.1=j
   ·rw[mod,if_neg hx];simp [get,hj]
   ·rw[mod,if_neg hx];simp [get,hj,ih]
theorem M7(t:List (κ×α))(k:κ)(f g:Option α->α):mod (mod t k f) k g=mod t k (fun o=>g (some (f o))):=by
 induction t with
 |nil=>simp [mod]
 |cons x r ih=>
  by_cases h:x.1=k
  ·simp [mod,h]
  ·simp [mod,h,ih]
theorem TJ(t:List (κ×α)){k j:κ}(f g:Option α->α)(h:j≠k)(hk:(get t k).isSome=true):mod (mod t j g) k f=mod (mod t k f) j g:=by
 induction t with
 |nil=>simp [get] at hk
 |cons x r ih=>
  by_cases hx:x.1=k
  ·have h2:¬x.1=j:=fun e=>h (e.symm.trans hx)
   have h3:¬k=j:=fun e=>h e.symm
   simp [mod,hx,h3]
  ·by_cases hj:x.1=j
   ·have h4:¬j=k:=h
    simp [mod,hj,h4,hx]
   ·simp only[get,if_neg hx] at hk
    simp [mod,hx,hj,ih hk]
theorem X3(t:List (κ×α))(k:κ)(f:Option α->α):(mod t k f).map (·.1)=if k∈t.map (·.1) then t.map (·.1) else t.map (·.1)++[k]:=by
 induction t with
 |nil=>simp [mod]
 |cons x r ih=>
  by_cases h:x.1=k
  ·simp [mod,h]
  ·rw[mod,if_neg h,List.map_cons,ih,List.map_cons]
   have h':¬k=x.1:=fun e=>h e.symm
   by_cases hk:k∈r.map (·.1)
   ·rw[if_pos hk,if_pos (B1 _ hk)]
   ·rw[if_neg hk,if_neg (by simp only[C8,not_or];exact⟨h',hk⟩)]
    rfl
theorem Q0{t:List (κ×α)}{k:κ}{f:Option α->α}{x:κ×α}(h:x∈mod t k f):x∈t\/x=(k,f (get t k)):=by
 induction t with
 |nil=>simp [mod] at h;exact .inr (by simp [get,h])
 |cons y r ih=>
  by_cases hy:y.1=k
  ·rw[mod,if_pos hy] at h
   rcases C8.mp h with h|h
   ·exact .inr (by rw[h,get,if_pos hy])
   ·exact .inl (B1 _ h)
  ·rw[mod,if_neg hy] at h
   rcases C8.mp h with h|h
   ·exact .inl (by rw[h];exact A5)
   ·rcases ih h with h|h
    ·exact .inl (B1 _ h)
    ·exact .inr (by rw[h,get,if_neg hy])
theorem D6{t:List (κ×α)}{k:κ}{v:α}(h:get t k=some v):(k,v)∈t:=by
 induction t with
 |nil=>cases h
 |cons y r ih=>
  by_cases hy:y.1=k
  ·rw[get,if_pos hy] at h
   rw[<-R7 h,<-hy]
   exact A5
  ·rw[get,if_neg hy] at h
   exact B1 _ (ih h)
theorem Q2{t:List (κ×α)}{k:κ}:(get t k).isSome=true↔k∈t.map (·.1):=by
 induction t with
 |nil=>simp [get]
 |cons x r ih=>
  by_cases h:x.1=k
  ·simp [get,h]
  ·have h':¬k=x.1:=fun e=>h e.symm
   rw[get,if_neg h,ih,List.map_cons,C8]
   exact⟨.inr,fun e=>e.resolve_left h'⟩
end
section
variable {κ:Type} [DecidableEq κ]
abbrev Pl(κ:Type):=List (κ×List Int)
def R8(p:Pl κ)(w:κ)(i:Int):Pl κ:=mod p w fun o=>o.getD []++[i]
def W9(p:Pl κ)(i:Int):List κ->Pl κ
 |[]=>p
 |w::r=>W9 (R8 p w i) (i+1) r
abbrev Rw:=List (Int×List Int)
abbrev Wt(κ:Type):=List (κ×Rw)
def R0(m:Int)(D:Wt κ)(x:κ×List Int):Wt κ:=mod D x.1 fun o=>o.getD []++[(m,x.2)]
def putAll(m:Int)(D:Wt κ)(p:Pl κ):Wt κ:=p.foldl (R0 m) D
def GY(m:Int)(D:Wt κ)(w:κ)(i:Int):Wt κ:=mod D w fun o=>mod (o.getD []) m fun q=>q.getD []++[i]
def WW(m:Int)(D:Wt κ)(i:Int):List κ->Wt κ
 |[]=>D
 |w::r=>WW m (GY m D w i) (i+1) r
def XV(m:Int)(D:Wt κ):Prop:=∀w r,get D w=some r->get r m=none
theorem J7{κ α:Type}[DecidableEq κ]{r:List (κ×α)}{m:κ}(h:get r m=none)(f:Option α->α):mod r m f=r++[(m,f none)]:=by
 induction r with
 |nil=>simp [mod]
 |cons x r ih=>
  by_cases hx:x.1=m
  ·simp [get,hx] at h
  ·simp only[get,if_neg hx] at h
   simp [mod,hx,ih h]
theorem Ck{κ α:Type}[DecidableEq κ]{t:List (κ×α)}{k:κ}{v:α}(h:get t k=some v):mod t k (fun _=>v)=t:=by
 induction t with
 |nil=>cases h
 |cons x r ih=>
  by_cases hx:x.1=k
  ·rw[get,if_pos hx] at h
   rw[mod,if_pos hx,<-R7 h,<-hx]
  ·rw[get,if_neg hx] at h
   rw[mod,if_neg hx,ih h]
theorem TH{r:Rw}{m:Int}{q:List Int}(h:get r m=none)(f:Option (List Int)->List Int):mod (r++[(m,q)]) m f=r++[(m,f (some q))]:=by
 induction r with
 |nil=>simp [mod]
 |cons x r ih=>
  by_cases hx:x.1=m
  ·simp [get,hx] at h
  ·simp only[get,if_neg hx] at h
   simp [mod,hx,ih h]
theorem B8{α:Type}{t:List (κ×α)}{k:κ}{f g:Option α->α}(h:f (get t k)=g (get t k)):mod t k f=mod t k g:=by
 induction t with
 |nil=>simp only[get] at h;simp [mod,h]
 |cons x r ih=>
  by_cases hx:x.1=k
  ·simp only[get,if_pos hx] at h
   simp [mod,hx,h]
  ·simp only[get,if_neg hx] at h
   simp [mod,hx,ih h]
theorem WX{m:Int}{D:Wt κ}{w:κ}{q:List Int}{i:Int}(hf:∀r,get D w=some r->get r m=none):GY m (R0 m D (w,q)) w i=R0 m D (w,q++[i]):=by
 unfold GY R0
 rw[M7]
 apply B8
 have h0:get ((get D w).getD []) m=none:=by
  cases h:get D w with
  |none=>rfl
  |some r=>exact hf r h
 show mod ((some ((get D w).getD []++[(m,q)])).getD []) m _=_
 rw[V6,TH h0]
 rfl
theorem WY{m:Int}{D:Wt κ}{w:κ}{i:Int}(hf:∀r,get D w=some r->get r m=none):GY m D w i=R0 m D (w,[i]):=by
 unfold GY R0
 apply B8
 have h0:get ((get D w).getD []) m=none:=by
  cases h:get D w with
  |none=>rfl
  |some r=>exact hf r h
 rw[J7 h0]
 rfl
theorem OY{m:Int}{w:κ}{i:Int}:∀(p:Pl κ) (D:Wt κ),w∉p.map (·.1)->(get D w).isSome=true->GY m (putAll m D p) w i=putAll m (GY m D w i) p
 |[],D,_,_=>rfl
 |x::p,D,hn,hd=>by
  have hx:x.1≠w:=fun e=>hn (by rw[List.map_cons,<-e];exact A5)
  show GY m (putAll m (R0 m D x) p) w i=putAll m (R0 m (GY m D w i) x) p
  rw[OY p (R0 m D x) (fun e=>hn (B1 _ e)) (by unfold R0;rw[D5 _ _ (D9 hx)];exact hd)]
  congr 1
  unfold GY R0
  exact TJ D _ _ hx hd
theorem OR{m:Int}{w:κ}{i:Int}:∀(p:Pl κ) (D:Wt κ),(∀r,get D w=some r->get r m=none)->(p.map (·.1)).Nodup->putAll m D (R8 p w i)=GY m (putAll m D p) w i
 |[],D,hf,_=>(WY hf).symm
 |x::p,D,hf,nd=>by
  rw[List.map_cons,O4] at nd
  by_cases hx:x.1=w
  ·have e:R8 (x::p) w i=(w,x.2++[i])::p:=by unfold R8;rw[mod,if_pos hx];rfl
   have ex:x=(w,x.2):=Ej hx rfl
   rw[e]
   show putAll m (R0 m D (w,x.2++[i])) p=GY m (putAll m (R0 m D x) p) w i
   rw[OY p (R0 m D x) (by rw[<-hx];exact nd.1) (by unfold R0;rw[hx,x9];rfl)]
   congr 1
   rw[ex]
   exact(WX hf).symm
  ·have e:R8 (x::p) w i=x::R8 p w i:=by unfold R8;rw[mod,if_neg hx]
   rw[e]
   show putAll m (R0 m D x) (R8 p w i)=GY m (putAll m (R0 m D x) p) w i
   exact OR p (R0 m D x) (fun r hr=>hf r (by unfold R0 at hr;rw[D5 _ _ (D9 hx)] at hr;exact hr)) nd.2
theorem PU{p:Pl κ}{w:κ}{i:Int}{n:Nat}(h:∀x∈p,x.2.length<=n):∀x∈R8 p w i,x.2.length<=n+1:=fun x hx=>by
 rcases Q0 hx with h1|h1
 ·exact Rt (h x h1)
 ·rw[h1]
  show ((get p w).getD []++[i]).length<=n+1
  rw[y9,G3]
  cases hg:get p w with
  |none=>simp
  |some ps=>
   have:=h _ (D6 hg)
   exact Nat.succ_le_succ this
theorem Ip{p:Pl κ}{w:κ}{i:Int}(h:(p.map (·.1)).Nodup):((R8 p w i).map (·.1)).Nodup:=by
 unfold R8
 rw[X3]
 split
 ·exact h
 ·rename_i hn
  rw[AL]
  exact⟨h,by simp,fun a ha b hb=>by rw[x8.mp hb];intro e;rw[e] at ha;exact hn ha⟩
theorem Tc{m:Int}{D:Wt κ}{y:κ×List Int}{n:Nat}(h:∀x∈D,x.2.length<=n):∀x∈R0 m D y,x.2.length<=n+1:=fun x hx=>by
 rcases Q0 hx with h1|h1
 ·exact Rt (h x h1)
 ·rw[h1]
  show ((get D y.1).getD []++[(m,y.2)]).length<=n+1
  rw[y9,G3]
  cases hg:get D y.1 with
  |none=>simp
  |some r=>
   have:=h _ (D6 hg)
   exact Nat.succ_le_succ this
theorem putAll_snoc(m:Int)(D:Wt κ)(p:Pl κ)(x:κ×List Int):putAll m D (p++[x])=R0 m (putAll m D p) x:=by
 unfold putAll
 rw[Gp]
 rfl
theorem Ls{m:Int}{D:Wt κ}(hf:XV m D):∀(ws:List κ) (p:Pl κ) (i:Int),(p.map (·.1)).Nodup->WW m (putAll m D p) i ws=putAll m D (W9 p i ws)
 |[],p,i,_=>rfl
 |w::ws,p,i,nd=>by
  rw[WW,W9,<-OR p D (hf w) nd]
  exact Ls hf ws (R8 p w i) (i+1) (Ip nd)
theorem BO:∀(ws:List κ) (p:Pl κ) (i:Int),(p.map (·.1)).Nodup->((W9 p i ws).map (·.1)).Nodup
 |[],p,i,h=>h
 |w::ws,p,i,h=>BO ws _ _ (Ip h)
end
end KT
namespace KW
def ws(c:Nat):Bool:=decide (97<=c/\c<=122)||decide (65<=c/\c<=90)||decide (48<=c/\c<=57)
def RT(o:Option Nat):Bool:=match o with
 |some c=>ws c
 |none=>false
def sm(c:Nat):Nat:=if 65<=c/\c<=90 then c+32 else c
abbrev Wd:=List Nat×Nat×Nat
abbrev Sc:=List Wd×List Nat
def ZQ(n:Nat)(o:Option Nat)(st:Sc):Sc:=match o with
 |some c=>if ws c=true then (st.1,st.2++[sm c]) else if st.2=[] then st else (st.1++[(st.2,n-st.2.length,n)],[])
 |none=>if st.2=[] then st else (st.1++[(st.2,n-st.2.length,n)],[])
def scan(t:List Nat):Nat->Sc
 |0=>([],[])
 |n+1=>ZQ n t[n]? (scan t n)
def Fj(t:List Nat):List Wd:=(scan t (t.length+1)).1
theorem BW(t:List Nat):∀n,(scan t n).2.length<=n
 |0=>l8 _
 |n+1=>by
  have ih:=BW t n
  rw[scan]
  unfold ZQ
  cases t[n]? with
  |none=>dsimp only;split<;>simp<;>omega
  |some c=>
    dsimp only;split<;>try split
    all_goals simp
    all_goals omega
theorem BK{n:Nat}{o:Option Nat}{st:Sc}(h:RT o=false):ZQ n o st=if st.2=[] then st else (st.1++[(st.2,n-st.2.length,n)],[]):=by
 unfold ZQ
 cases o with
 |none=>rfl
 |some c=>
  have h':ws c=false:=h
  dsimp only
  rw[if_neg (by rw[h'];decide)]
theorem Fu{n:Nat}{c:Nat}{st:Sc}(h:ws c=true):ZQ n (some c) st=(st.1,st.2++[sm c]):=by
 unfold ZQ
 dsimp only
 rw[if_pos h]
theorem Lg(t:List Nat)(b:Nat)(h0:(scan t b).2 =[]):∀k,b+k<=t.length->(∀i,b<=i->i<b+k->RT t[i]? =true)->scan t (b+k)=((scan t b).1,((t.drop b).take k).map sm)
 |0,_,_=>by
  rw[Nat.add_zero,Aj,List.map_nil,<-h0]
 |k+1,hl,h=>by
  have ih:=Lg t b h0 k (by omega) fun i h1 h2=>h i h1 (by omega)
  have hw:=h (b+k) (by omega) (by omega)
  rw[<-Nat.add_assoc,scan,ih]
  cases e:t[b+k]? with
  |none=>rw[e] at hw;cases hw
  |some c=>
   rw[e] at hw
   rw[Fu hw]
   have e2:(t.drop b)[k]? =some c:=by rw[Ak];exact e
   dsimp only
   rw[x6,e2,n6]
   rfl
theorem SJ(t:List Nat)(b k:Nat)(h0:(scan t b).2 =[])(hl:b+k<=t.length)(h:∀i,b<=i->i<b+k->RT t[i]? =true)(he:RT t[b+k]? =false):
  scan t (b+k+1)=(if k=0 then (scan t b).1 else (scan t b).1 ++[(((t.drop b).take k).map sm,b,b+k)],[]):=by
 rw[scan,Lg t b h0 k hl h,BK he]
 have G1:(((t.drop b).take k).map sm).length=k:=by rw[i4,A4,AQ];omega
 dsimp only
 by_cases hk:k=0
 ·subst hk
  rw[Aj,List.map_nil,if_pos rfl,if_pos rfl]
 ·rw[if_neg hk,if_neg (by intro e;rw[e] at G1;simp at G1;omega),G1]
  have e:b+k-k=b:=by omega
  rw[e]
theorem Hy(t:List Nat)(b:Nat)(h0:(scan t b).2 =[])(h:t.length<=b):∀k,scan t (b+k)=scan t b
 |0=>rfl
 |k+1=>by
  rw[<-Nat.add_assoc,scan,Hy t b h0 h k,CC (by omega),BK rfl,if_pos h0]
theorem GJ(t:List Nat)(b:Nat)(h0:(scan t b).2 =[])(h:t.length<=b)(h':b<=t.length+1):Fj t=(scan t b).1 :=by
 unfold Fj
 obtain⟨k,hk⟩:∃k,t.length+1=b+k:=⟨t.length+1-b,by omega⟩
 rw[hk,Hy t b h0 h k]
theorem scan_len(t:List Nat):∀n,(scan t n).1.length<=n
 |0=>l8 _
 |n+1=>by
  have ih:=scan_len t n
  rw[scan]
  by_cases hw:RT t[n]? =true
  ·cases e:t[n]? with
   |none=>rw[e] at hw;cases hw
   |some c=>rw[e] at hw;rw[Fu hw];exact Rt ih
  ·rw[BK (by simpa using hw)]
   split
   ·exact Rt ih
   ·rw[y9,G3];omega
end KW
namespace K16
open PySem L2 KW KT
local macro_rules
 | `(tactic|ac_rfl)=> `(tactic|exact⟨rfl,rfl,rfl,by decide+kernel,rfl,by decide+kernel,by decide+kernel⟩)
theorem Qb1:(["make","document"]:List Str).Nodup:=by decide+kernel
theorem Qb0:(["make","places"]:List Str).Nodup:=by decide+kernel
theorem QbZ:(["_law_k","_law_name","_law_more"]:List Str).Nodup:=by decide+kernel
theorem QbY:(["make","places","kept"]:List Str).Nodup:=by decide+kernel
theorem HK:(["_law_make","_law_document_here"]:List Str).Nodup:=by decide+kernel
theorem YG:(["_law_one","_law_at","_law_k"]:List Str).Nodup:=by decide+kernel
theorem YF:(["_law_one","_law_bit"]:List Str).Nodup:=by decide+kernel
abbrev nx3:List Str:=["_law_cell","_law_signs","_law_digits","_law_words_here"]
abbrev nx5:List Str:=["_law_thing","_law_makes_here","_law_table_here","_law_field","_law_words_here","_law_word","_law_rows","_law_told","_law_make","_law_places","_law_document_here"]
abbrev QB:List Str:=["_law_script","_law_makes_here","_law_many","_law_to","_law_out","_law_dealt","_law_k","_law_gone","_law_left","_law_pieces_here","_law_kept","_law_whole","_law_back","_law_two","_law_field","_law_word","_law_make","_law_places","_law_piece","_law_some","_law_at","_law_common"]
variable {P:Program} {w:World} {K:j6} {mg:Str->Option Value} {bs0:Heap} {f:Addr} {fd:FuncData}
local macro_rules
 | `(tactic|and_intros)=> `(tactic|try simp only[L2.start,List.map_cons,List.map_nil,List.length_cons,List.length_nil,Nat.reduceAdd,Nat.reduceSub,List.replicate_succ,List.replicate_zero,List.cons_append,List.nil_append])
local macro_rules
 | `(tactic|simpa only[$xs,*])=>do
  let a<-("RD QbC Qbz !Qbv !Qbu !gN0 !gNS !Ye !Yd !Yc !Yb !Ya !RO !RN !RL !RK !Yh !Yg !Yf !RS !RQ !RP !XZ !XY !XX !RJ !RI !RH !Qbs !Qbr !Qbq !Yk !Yj !Yi !Yn !Ym !Yo !Qb2 !rI_ !QbH !rU_ !QbJ !QbI !QbG !QbF !YB !YA !Yz !Yy !Um !Zj !Sl !Wj !ZP !tOr !ZN !tB CI !Fo !Rz !tC !tUn !tCB !Fp !GO RA rI rU rNe rEq CT !tBM !Si !Qc !MH O3 !ZL !Oy List.set_cons_zero List.set_cons_succ List.getElem?_cons_zero List.getElem?_cons_succ Option.some.injEq V.int.injEq V.bl.injEq V.ref.injEq V.str.injEq exists_eq_left' exists_eq_left exists_and_left List.cons.injEq and_true true_and and_assoc exists_const L2.start List.map_cons List.map_nil List.length_cons List.length_nil List.replicate_succ List.replicate_zero List.cons_append List.nil_append List.append_nil Nat.reduceAdd Nat.reduceSub !OA !KL !Hs !MG Wl ipI !Qaw !Qav !FA !Tb !QbE GU !Wk !Qcu !Yw !tSl !Sf !IC !WC KM !KH !Wi !TY !Ze !Zd !LD !TZ !LJ Ar Jm Qi Ll !Sd !Sn !ZM !Sg !tIf exists_eq' List.ne_cons_self reduceCtorEq if_true if_false and_false false_and".splitOn " ").tail.toArray.mapM fun s=>if s.startsWith "!" then `(Lean.Parser.Tactic.simpLemma| ↓ $(Lean.mkIdent (s.drop 1).toString.toName):ident) else `(Lean.Parser.Tactic.simpLemma| $(Lean.mkIdent s.toName):ident)
  `(tactic|simp only[$a,*, $xs,*])
def top(i:Nat):Stmt:=PySem.Challenge.pw_findcourt_k16_whole_pouring.main.body.getD i (.Pass ⟨0,0,0,0⟩)
abbrev MP:Stmt:=top 10
abbrev Qao:Stmt:=top 11
abbrev SV:Stmt:=top 12
abbrev OI:Stmt:=top 13
abbrev SW:Stmt:=top 14
abbrev Qap:Stmt:=top 15
abbrev MN:Stmt:=top 16
abbrev OM:Stmt:=top 17
abbrev IK:Stmt:=top 7
abbrev MO:Stmt:=top 19
abbrev MQ:Stmt:=top 20
abbrev Qas:Stmt:=top 21
abbrev MR:Stmt:=top 33
abbrev Li:Stmt:=top 34
abbrev Wz:Stmt:=top 35
abbrev sLW:Stmt:=top 36
abbrev Qah:Stmt:=top 37
abbrev SU:Stmt:=top 38
abbrev Qak:Stmt:=top 39
abbrev OL:Stmt:=AH (top 22) 0
abbrev sPM:Stmt:=AH (top 22) 1
abbrev sPF:Stmt:=AH (top 22) 2
abbrev sPW:Stmt:=AH (top 22) 3
abbrev sPP:Stmt:=AH (top 22) 4
abbrev sPL:Stmt:=AH (top 22) 5
abbrev Qaj:Stmt:=top 23
abbrev sSh:Stmt:=top 25
abbrev WA:Stmt:=top 26
abbrev Qar:Stmt:=top 27
abbrev Qal:Stmt:=top 28
abbrev Qam:Stmt:=top 29
abbrev Qai:Stmt:=top 30
abbrev SX:Stmt:=top 32
abbrev Wy:Stmt:=top 40
abbrev sIs:Stmt:=top 41
abbrev Qaq:Stmt:=top 42
abbrev Cf:Stmt:=top 43
abbrev sXM:Stmt:=AH (top 3) 0
structure Txt(mg:Str->Option Value):Prop where
 len:mg "len"=none
 range:mg "range"=none
 isinstance:mg "isinstance"=none
 int:mg "int"=none
 bool:mg "bool"=none
 list:mg "list"=none
 dict:mg "dict"=none
 abs:mg "abs"=none
 min:mg "min"=none
 sorted:mg "sorted"=none
 all:mg "all"=none
 enumerate:mg "enumerate"=none
 zip:mg "zip"=none
 reversed:mg "reversed"=none
 valueError:mg "ValueError"=none
 most:∃t,mg "MOST_NAME_SIGNS"=some (.int 12 t)
def dvW(x:Wd):DV:= .tup [.str ⟨x.1.toArray⟩, .int x.2.1, .int x.2.2]
def Fi(z:Str):Prop:=∀c∈z.cps.toList,c<128
def CK:Sp:=fun vs H Q _=>∃c:Nat,vs=[.str ⟨#[c]⟩]/\Q (.bl (decide (97<=c/\c<=122))) H
def Sy:Sp:=fun vs H Q _=>∃c:Nat,vs=[.str ⟨#[c]⟩]/\Q (.bl (decide (48<=c/\c<=57))) H
def MJ:Sp:=fun vs H Q _=>∃c:Nat,vs=[.str ⟨#[c]⟩]/\Q (.bl (ws c)) H
def SA:Sp:=fun vs H Q _=>∃(z:Str) (b:Nat),vs=[.str z, .int b]/\z.length<=1000/\b<=z.length/\
 ∀e:Nat,b<=e->e<=z.length->(∀i,b<=i->i<e->RT z.cps.toList[i]? =true)->RT z.cps.toList[e]? =false->Q (.int e) H
def CJ:Sp:=fun vs H Q _=>∃z:Str,vs=[.str z]/\z.length<=1000/\Fi z/\
 ∀(r:Addr) (xs:List V) (H':Hp),i6 H H'->H r=none->H' r=some (.lst xs)->c8 (X6 r H') ((Fj z.cps.toList).map dvW) xs->Q (.ref r) H'
def Sr{v0:Str}{H:Hp}{Q:VK}{E:XK}:=show CJ [.str v0] H Q E=_ by
 simpa only[CJ]
 rfl
theorem lt1(a b:Nat):decide ([a]<[b])=decide (a<b):=by
 by_cases h:a<b
 ·rw[B7 h]
  exact B7 (Vq.mpr (.inl h))
 ·rw[X8 h]
  refine X8 fun q=> ?_
  rcases Vq.mp q with q|⟨_,q⟩
  ·exact h q
  ·cases q
theorem cs1(c:Nat):(⟨#[c]⟩:Str).cps.toList=[c]:=rfl
theorem csa:("a":Str).cps.toList=[97]:=by decide+kernel
theorem csz:("z":Str).cps.toList=[122]:=by decide+kernel
theorem csA:("A":Str).cps.toList=[65]:=by decide+kernel
theorem csZ:("Z":Str).cps.toList=[90]:=by decide+kernel
theorem cs0:("0":Str).cps.toList=[48]:=by decide+kernel
theorem cs9:("9":Str).cps.toList=[57]:=by decide+kernel
theorem AV(z:Str):z.cps.toList.length=z.length:=by simp [Str.length]
theorem Wv:FnScope ["sign"] ["sign"] (i3 MP):=by ac_rfl
theorem Tu(F:Fun K "is_small_letter" "is_small_letter" MP f fd):FnOk P w K mg bs0 D7 1 f fd ["sign"] CK:=by
 refine F.ok Wv (fun vs H Q E h=> ?_) (fun E6 A outer s H vs Q E hr h=> ?_)
 ·obtain⟨c,rfl,_⟩:=h
  rfl
 obtain⟨c,rfl,q⟩:=h
 refine⟨_,(h8 (q9 (CV T9 T9 K0 (pv 0) K0))),?_⟩
 and_intros
 simpa only[V.str.injEq]
 simp only[csa,csz,cs1,lt1]
 refine X4 (fun h1=> ?_) (fun h1=> ?_)
 ·have e:(!decide (122<c))=decide (97<=c/\c<=122):=by
   rw[Do];simp at h1⊢;omega
  rw[e];exact q
 ·have e:false=decide (97<=c/\c<=122):=by
   symm;apply X8;simp at h1;omega
  rw[e];exact q
theorem QbD:FnScope ["sign"] ["sign"] (i3 Qao):=by ac_rfl
theorem QaU(F:Fun K "is_figure" "is_figure" Qao f fd):FnOk P w K mg bs0 D7 1 f fd ["sign"] Sy:=by
 refine F.ok QbD (fun vs H Q E h=> ?_) (fun E6 A outer s H vs Q E hr h=> ?_)
 ·obtain⟨c,rfl,_⟩:=h
  rfl
 obtain⟨c,rfl,q⟩:=h
 refine⟨_,(h8 (q9 (CV T9 T9 K0 (pv 0) K0))),?_⟩
 and_intros
 simpa only[V.str.injEq]
 simp only[cs0,cs9,cs1,lt1]
 have fin:∀k,k=decide (48<=c/\c<=57)->Q (.bl k) H:=fun k e=>by rw[e];exact q
 refine X4 (fun h1=>fin _ ?_) (fun h1=>fin _ ?_)
 ·rw[Do];simp at h1⊢;omega
 ·symm;apply X8;simp at h1;omega
theorem Qae:FnScope ["sign"] ["sign"] (i3 SV):=by ac_rfl
theorem WO{g g':Addr}{gd gd':FuncData}(F:Fun K "is_word_sign" "is_word_sign" SV f fd)(GS:FnOk P w K mg bs0 D7 1 g gd ["sign"] CK)(bS:Binds K gd ["sign"] [])(kS:PySem.W.keepIn K (.ref g)=true)(mS:mg "is_small_letter"=some (.ref g))
  (GFg:FnOk P w K mg bs0 D7 1 g' gd' ["sign"] Sy)(bFg:Binds K gd' ["sign"] [])(kFg:PySem.W.keepIn K (.ref g')=true)(mFg:mg "is_figure"=some (.ref g')):FnOk P w K mg bs0 D7 2 f fd ["sign"] MJ:=by
 refine F.ok Qae (fun vs H Q E h=> ?_) (fun E6 A outer s H vs Q E hr h=> ?_)
 ·obtain⟨c,rfl,_⟩:=h
  rfl
 obtain⟨c,rfl,q⟩:=h
 refine⟨_,(h8 (q9 (YD (j7 GS hr rfl mS kS bS .nil k9 (c5 (pv 0) e6)) (YD (CV T9 T9 K0 (pv 0) K0) (IT (j7 GFg hr rfl mFg kFg bFg .nil k9 (c5 (pv 0) e6))))))),?_⟩
 and_intros
 simpa only[CK,Sy,V.str.injEq]
 refine⟨c,rfl,?_⟩
 simp only[csA,csZ,cs1,lt1]
 have fin:∀k,k=ws c->Q (.bl k) H:=fun k e=>by rw[e];exact q
 refine X4 (fun h1=> ?_) (fun h1=> ?_)
 ·apply fin;unfold ws;simp at h1;simp [h1]
 ·refine X4 (fun h2=> ?_) (fun h2=> ?_)
  ·refine X4 (fun h3=> ?_) (fun h3=>⟨c,rfl,?_⟩)
   ·apply fin;unfold ws;simp at h1 h2 h3;simp;omega
   ·apply fin;unfold ws;rw[Do];simp at h1 h2 h3⊢;omega
  ·refine⟨c,rfl,?_⟩
   apply fin;unfold ws;rw[Do];simp at h1 h2⊢;omega
theorem SO:FnScope ["text","begin","end"] ["text","begin"] (i3 Qap):=by ac_rfl
def Qcn(z:Str)(b:Nat)(H:Hp)(σ:St)(L:Hp):Prop:=∃e:Nat,σ=[some (.str z),some (.int b),some (.int e)]/\L=H/\b<=e/\e<=z.length/\∀i,b<=i->i<e->RT z.cps.toList[i]? =true
def muE(z:Str)(σ:St)(_:Hp):Nat:=match σ with
 |[_,_,some (.int e)]=>z.length-e.toNat
 |_=>0
theorem QaV{g:Addr}{gd:FuncData}(F:Fun K "end_of_word" "end_of_word" Qap f fd)(T:Txt mg)(GS:FnOk P w K mg bs0 D7 2 g gd ["sign"] MJ)(bS:Binds K gd ["sign"] [])(kS:PySem.W.keepIn K (.ref g)=true)(mS:mg "is_word_sign"=some (.ref g)):FnOk P w K mg bs0 D7 3 f fd ["text","begin"] SA:=by
 refine F.ok SO (fun vs H Q E h=> ?_) (fun E6 A outer s H vs Q E hr h=> ?_)
 ·obtain⟨z,b,rfl,_⟩:=h
  rfl
 obtain⟨z,b,rfl,hz,hb,q⟩:=h
 refine⟨_,(e7 (k8 (i:=2) SO.nd rfl (Or.inl rfl) (i9 1))
  (e7 (Lm B3 (PW.pt (IN (B0 Tq (i9 2) (n9 W2 rfl T.len Y0 (c5 (i9 0) e6)) (E1 _)) (OQ (N0 (j7 GS hr rfl mS kS bS .nil k9 (c5 (N1 TV (i9 0) (i9 2) (fun _ _=>rfl)) e6))))))
   (h8 (Qax (i:=2) SO.nd rfl (Or.inl rfl) j5 Qba)))
  (h8 (q9 (i9 2))))),?_⟩
 and_intros
 simpa only[o9]
 refine Ot (Qcn z b H) (muE z) ⟨b,rfl,rfl,l8 _,hb,fun i h1 h2=>absurd h2 (by omega)⟩ ?_
 rintro σ L ⟨e,rfl,rfl,he,hel,hw⟩
 simpa only[MJ,V.str.injEq]
 have hsz:z.length<=sizeLine:=small hz
 refine⟨hsz,X4 (fun c=>⟨hsz,?_⟩) (fun c=> ?_)⟩
 ·have c':e<z.cps.toList.length:=by rw[AV];have:=A2 c;omega
  refine⟨_,PH (E5 c'),_,rfl,?_⟩
  refine X4 (fun hw1=> ?_) (fun hw1=> ?_)
  ·refine⟨fun σ' H'=>∃m',m'<muE z [some (V.str z),some (V.int b),some (V.int e)] L/\m'=muE z σ' H'/\Qcn z b L σ' H',fun _ _ h=>h,?_⟩
   rw[AV] at c'
   refine⟨_,?_,rfl,e+1,by simp,rfl,by omega,by omega,fun i h1 h2=> ?_⟩
   ·show z.length-((e:Int)+1).toNat<z.length-((e:Int)).toNat
    omega
   ·by_cases hi:i=e
    ·subst hi
     rw[E5 (by rw[AV];exact c')]
     exact hw1
    ·exact hw i h1 (by omega)
  ·refine q e he hel hw ?_
   rw[E5 c']
   simpa [RT] using hw1
 ·have c':e=z.length:=by have:=Bt (CA.mpr c);omega
  refine q e he hel hw ?_
  rw[CC (by rw[AV];omega)]
  rfl
theorem CN:FnScope ["text","found","begin","end"] ["text"] (i3 MN):=by ac_rfl
def Qb3(z:Str)(r:Addr)(H:Hp)(σ:St)(L:Hp):Prop:=∃(b:Nat) (v3:Option V) (xs:List V),σ=[some (.str z),some (.ref r),some (.int b),v3]/\i6 H L/\L r=some (.lst xs)/\b<=z.length+1/\(scan z.cps.toList b).2 =[]/\xs.length<=b/\
 c8 (X6 r L) ((scan z.cps.toList b).1.map dvW) xs
def muW(z:Str)(σ:St)(_:Hp):Nat:=match σ with
 |[_,_,some (.int b),_]=>z.length+1-b.toNat
 |_=>0
theorem YI:PyProof.Rows.lo1=sm:=by funext c;rfl
theorem Ts{g:Addr}{gd:FuncData}(F:Fun K "words_of" "words_of" MN f fd)(T:Txt mg)(GE:FnOk P w K mg bs0 D7 3 g gd ["text","begin"] SA)(bE:Binds K gd ["text","begin"] [])(kE:PySem.W.keepIn K (.ref g)=true)(mE:mg "end_of_word"=some (.ref g)):FnOk P w K mg bs0 D7 4 f fd ["text"] CJ:=by
 refine F.ok CN (fun vs H Q E h=> ?_) (fun E6 A outer s H vs Q E hr h=> ?_)
 ·obtain⟨z,rfl,_⟩:=h
  rfl
 obtain⟨z,rfl,hz,hA,q⟩:=h
 refine⟨_,(e7 (k8 (i:=1) CN.nd rfl (Or.inl rfl) (u6 e6))
  (e7 (k8 (i:=2) CN.nd rfl (Or.inl rfl) j5)
  (e7 (Lm B3 (B0 Tq (i9 2) (n9 W2 rfl T.len Y0 (c5 (i9 0) e6)) (E1 _))
   (e7 (k8 (i:=3) CN.nd rfl (Or.inl rfl) (j7 GE hr rfl mE kE bE .nil k9 (c5 (i9 0) (c5 (i9 2) e6))))
  (e7 (G9 (B0 QbM (i9 3) (i9 2) (E1 _)) (h8 (D4 (Ms K T4 V5 V4 G4 (i9 1) (c5 (X0 (c5 (LZ K JN Vp Vo Lx (P4 Qad (i9 0) (M5 (i9 2)) (M5 (i9 3)))) (c5 (i9 2) (c5 (i9 3) e6)))) e6)))) A3)
  (h8 (k8 (i:=2) CN.nd rfl (Or.inl rfl) (u5 X2 (i9 3) j5))))))
  (h8 (q9 (i9 1)))))),?_⟩
 have hsz:z.length<=sizeLine:=small hz
 and_intros
 simpa only[o9]
 refine⟨by decide,fun r hn=> ?_⟩
 refine Ot (Qb3 z r H) (muW z) ⟨0,none,[],rfl,c7 hn _,c6,o8 _,rfl,l8 _,c8.nil⟩ ?_
 rintro σ L ⟨b,v3,xs,rfl,sL,hR,hb,h0,Fa,hD⟩
 simpa only[SA]
 refine⟨hsz,X4 (fun c=> ?_) (fun c=> ?_)⟩
 ·have c':b<z.length:=by have:=A2 c;omega
  refine⟨fun σ' H'=>∃m',m'<muW z [some (V.str z),some (V.ref r),some (V.int b),v3] L/\m'=muW z σ' H'/\Qb3 z r H σ' H',fun _ _ h=>h,?_⟩
  refine⟨b,rfl,hz,by omega,fun e he hel hw Nq=> ?_⟩
  obtain⟨k,rfl⟩:∃k,e=b+k:=⟨e-b,by omega⟩
  have Zh:=SJ z.cps.toList b k h0 (by rw[AV];exact hel) hw Nq
  have mu:muW z [some (V.str z),some (V.ref r),some (V.int (((b+k:Nat):Int)+1)),some (V.int ((b+k:Nat):Int))] L<muW z [some (V.str z),some (V.ref r),some (V.int b),v3] L:=by
   show z.length+1-(((b+k:Nat):Int)+1).toNat<z.length+1-((b:Int)).toNat
   omega
  have ei:(((b+k:Nat):Int)+1)=((b+k+1:Nat):Int):=by omega
  refine X4 (fun d=> ?_) (fun d=> ?_)
  ·have hk:k≠0:=by have:=A2 d;omega
   have ec:At z.cps.toList (some ((b:Nat):Int)) (some ((b+k:Nat):Int))=(z.cps.toList.drop b).take k:=by
    rw[UF _ (by omega)]
    congr 1
    omega
   rw[ec]
   refine⟨.inl ⟨rfl,_,l7.of hR⟩,hsz,rfl,?_,?_,by decide,fun p hp=>⟨xs,w9 hR hp,N9 (by omega),_,mu,rfl,b+k+1,some (.int ((b+k:Nat):Int)),xs++[.ref p],by rw[ei],?_,c6,by omega,?_,?_,?_⟩⟩
   ·show ((z.cps.toList.drop b).take k).toArray.size<=1000000
    rw[C6,A4,AQ,AV]
    omega
   ·intro c hc
    exact hA c (Ef (Y1 hc))
   ·exact(sL.trans (c7 hp _)).newer hn _
   ·rw[Zh]
   ·rw[y9,G3]
    omega
   ·have npr:p≠r:=fun z=>by subst z;rw[hR] at hp;cases hp
    rw[LH,Zh]
    dsimp only
    rw[if_neg hk,n6]
    refine(c8.same (HQ (c7 hp _)) _ _ hD).app (c8.one ?_)
    show k7 _ (dvW _) _
    rw[dvW,k7]
    refine⟨p,_,rfl,by rw[BQ npr];exact c6,?_⟩
    have el:(⟨Array.map PyProof.Rows.lo1 ((z.cps.toList.drop b).take k).toArray⟩:Str)=⟨(((z.cps.toList.drop b).take k).map sm).toArray⟩:=by
     rw[YI,List.map_toArray]
    rw[el]
    rw[c8]
    exact⟨_,_,rfl,by rw[k7],c8.ints [_,_]⟩
  ·have hk:k=0:=by have:=Bt (CA.mpr d);omega
   subst hk
   refine⟨_,mu,rfl,b+0+1,some (.int ((b+0:Nat):Int)),xs,by rw[ei],sL,hR,by omega,?_,by omega,?_⟩
   ·rw[Zh]
   ·rw[Zh]
    exact hD
 ·have c':z.length<=b:=by have:=Bt (CA.mpr c);omega
  rw[<-GJ z.cps.toList b h0 (by rw[AV];exact c') (by rw[AV];exact hb)] at hD
  exact q r xs L sL hn hR hD
abbrev Az:=Str×Str
def QX(x:Az):DV:= .tup [.str x.1, .str x.2]
def Nc(c:Nat):Bool:=decide (97<=c/\c<=122)
def GX(z:Str):Bool:=decide (1<=z.length/\z.length<=12)&&z.cps.toList.all Nc
def Hj(prev f:Str):Bool:= !GX f|| !decide (prev.cps.toList<f.cps.toList)
def dw(prev:Str)(j:Nat):List Az->Option Nat
 |[]=>none
 |x::r=>if Hj prev x.1=true then some j else dw x.1 (j+1) r
def Dy:Sp:=fun vs H Q _=>∃z:Str,vs=[.str z]/\z.length<=1000/\∀H',i6 H H'->Q (.bl (GX z)) H'
def OD{v0:Str}{H:Hp}{Q:VK}{E:XK}:=show Dy [.str v0] H Q E=_ by
 simpa only[Dy]
 rfl
def KJ:TS:=fun _ _ _=>False
theorem OT{X:Cx}{st:Stmt}:PS X st KJ:=fun _ _ _ _ _ _ h=>h.elim
def Dz:Sp:=fun vs H Q _=>∃(a:Addr) (d:List Az) (xs:List V),vs=[.ref a]/\H a=some (.lst xs)/\c8 H (d.map QX) xs/\d.length<=1000/\(∀x∈d,x.1.length<=1000)/\dw "" 0 d=none/\∀H',i6 H H'->Q .non H'
def OE{v0:Addr}{H:Hp}{Q:VK}{E:XK}:=show Dz [.ref v0] H Q E=_ by
 simpa only[Dz]
 rfl
theorem FV{H:Hp}{x:Az}{v:V}(h:k7 H (QX x) v):∃a,v= .ref a/\H a=some (.tup [.str x.1, .str x.2]):=by
 rw[QX,k7] at h
 obtain⟨a,us,rfl,ha,Am⟩:=h
 refine⟨a,rfl,?_⟩
 rw[ha]
 rw[c8] at Am
 obtain⟨y,ys,rfl,hy,Am⟩:=Am
 rw[c8] at Am
 obtain⟨y2,ys2,rfl,hy2,Am⟩:=Am
 rw[c8] at Am
 rw[k7] at hy
 rw[k7] at hy2
 rw[hy,hy2,Am]
theorem Qaf:FnScope ["text"] ["text"] (i3 OI):=by ac_rfl
def QcK(z:Str)(H:Hp)(i:Nat)(ys:List V)(σ:St)(L:Hp):Prop:=∃v0:Option V,ys=((z.cps.toList.take i).map Nc).map V.bl/\L=H/\σ=[v0]
theorem WQ{g:Addr}{gd:FuncData}(F:Fun K "is_name" "is_name" OI f fd)(T:Txt mg)(GS:FnOk P w K mg bs0 D7 1 g gd ["sign"] CK)(bS:Binds K gd ["sign"] [])(kS:PySem.W.keepIn K (.ref g)=true)(mS:mg "is_small_letter"=some (.ref g)):FnOk P w K mg bs0 D7 2 f fd ["text"] Dy:=by
 refine F.ok Qaf (fun vs H Q E h=> ?_) (fun E6 A outer s H vs Q E hr h=> ?_)
 ·obtain⟨z,rfl,_⟩:=h
  rfl
 obtain⟨z,rfl,hz,q⟩:=h
 obtain⟨tM,hM⟩:=T.most
 refine⟨_,(h8 (q9 (MV (CV Tr Tr j5 (n9 W2 rfl T.len Y0 (c5 (i9 0) e6)) (WJ rfl hM)) (IT (n9 (UH K rfl) rfl T.all (by decide+kernel) (c5 (J5 (N:=["sign"]) (pick:=[none]) (NX:=["text"]) (sX:=i3 OI) (by decide+kernel) rfl rfl rfl (Tk (i9 0))
    (fun _ _ _ _=>(i5 (i:=0) (by decide+kernel:(["sign"]:List Str).Nodup) rfl (Or.inl rfl))) (fun _ _ _ _=>G6) (fun _ _ _ _=>(j7 GS hr rfl mS kS bS .nil k9 (c5 (i9 0) e6)))) e6)))))),?_⟩
 and_intros
 simpa only[↓Xp]
 have hsz:z.length<=sizeLine:=small hz
 have bad:¬(1<=z.length/\z.length<=12)->Q (.bl false) H:=fun n=>by
  have e:GX z=false:=by unfold GX;rw[X8 n,Bool.false_and]
  have:=q H (i6.refl _)
  rw[e] at this
  exact this
 refine⟨hsz,X4 (fun c1=>X4 (fun c2=> ?_) fun c2=>bad ?_) fun c1=>bad ?_⟩
 ·have d1:=A2 c1
  have d2:=A2 c2
  refine Rj (QcK z H) ⟨none,rfl,rfl,rfl⟩ ?_ ?_ ?_
  ·rintro i ys σ L hi ⟨v0,rfl,rfl,rfl⟩
   rw[i4,i4,A4]
   exact small (by omega)
  ·rintro i c ys σ L hc ⟨v0,rfl,rfl,rfl⟩
   simpa only[CK]
   refine⟨c,rfl,_,?_,rfl,rfl⟩
   rw[x6,hc,n6,n6]
   rfl
  ·rintro ys σ L ⟨v0,rfl,rfl,rfl⟩ p hp
   rw[<-AV,y8]
   refine⟨p,rfl,_,l7.of c6,?_⟩
   have e:GX z=((z.cps.toList.map Nc).all id):=by
    unfold GX
    rw[B7 (by omega),Bool.true_and,List.all_map]
    rfl
   rw[<-e]
   exact q _ (c7 hp _)
 ·have:=Bt (CA.mpr c2);omega
 ·have:=Bt (CA.mpr c1);omega
theorem DB:FnScope ["document","ahead","place","pair","field"] ["document"] (i3 SW):=by ac_rfl
def QcL(a:Addr)(d:List Az)(H:Hp)(i:Nat)(σ:St)(L:Hp):Prop:=∃(prev:Str) (v2 v3 v4:Option V),σ=[some (.ref a),some (.str prev),v2,v3,v4]/\i6 H L/\dw "" 0 d=dw prev i (d.drop i)
theorem WR{gn:Addr}{dn:FuncData}(F:Fun K "look_at_document" "look_at_document" SW f fd)(T:Txt mg)(GN:FnOk P w K mg bs0 D7 2 gn dn ["text"] Dy)(bN:Binds K dn ["text"] [])(kN:PySem.W.keepIn K (.ref gn)=true)(mN:mg "is_name"=some (.ref gn)):FnOk P w K mg bs0 D7 3 f fd ["document"] Dz:=by
 refine F.ok DB (fun vs H Q E h=> ?_) (fun E6 A outer s H vs Q E hr h=> ?_)
 ·obtain⟨a,d,xs,rfl,_⟩:=h
  rfl
 obtain⟨a,d,xs,rfl,ha,hd,hl,CG,hnn,q⟩:=h
 refine⟨_,(e7 (k8 (i:=1) DB.nd rfl (Or.inl rfl) K0)
  (h8 (y7 B3 rfl (CU rfl T.enumerate (c5 (i9 0) e6)) (GV K (n:=2) rfl (j9 (i5 (i:=2) DB.nd rfl (Or.inl rfl)) (j9 (i5 (i:=3) DB.nd rfl (Or.inl rfl)) C4)))
   (e7 (k8 (i:=4) DB.nd rfl (Or.inl rfl) (N1 (YK K) (i9 3) j5 (fun _ _=>rfl)))
  (e7 (G9 (PW.pt (BY (W8 (N0 (j7 GN hr rfl mN kN bN .nil k9 (c5 (i9 4) e6)))) (DE (B0 T9 (i9 4) (i9 1) (E1 _))))) (h8 OT) A3)
  (h8 (k8 (i:=1) DB.nd rfl (Or.inl rfl) (i9 4)))))))),?_⟩
 and_intros
 simpa only[o9]
 refine⟨⟨_,l7.of ha⟩,BR xs (QcL a d H) ⟨"",none,none,none,rfl,i6.refl _,by rw[JM]⟩ ?_ ?_ ?_⟩
 ·rintro i σ L hi ⟨prev,v2,v3,v4,rfl,sL,hw⟩
  exact l7.of (sL _ _ ha)
 ·rintro i y T σ L hy ⟨prev,v2,v3,v4,rfl,sL,hw⟩ hT
  obtain⟨dv,h1,h2⟩:=hd.get hy
  rw[u8] at h1
  obtain⟨x,hx,rfl⟩:=o7.mp h1
  obtain⟨b,rfl,hb⟩:=FV h2
  have hb':(i8 L T (.tup [.int i, .ref b])) b=some (.tup [.str x.1, .str x.2]):=w9 (sL _ _ hb) hT
  have sT:i6 H (i8 L T (.tup [.int i, .ref b])):=sL.trans (c7 hT _)
  have EB:i<d.length:=(u4.mp hx).1
  have XA:d.drop i=x::d.drop (i+1):=by
   rw[U2 EB]
   congr 1
   exact(u4.mp hx).2
  have QL:x∈d:=E8 hx
  simpa only[↓OD,Dy,↓KJ]
  refine⟨_,W3.of c6,rfl,?_⟩
  simpa only[↓OD,Dy,↓KJ]
  refine⟨_,W3.of hb',_,rfl,_,rfl,CG x QL,fun H2 s2=> ?_⟩
  have s02:i6 H H2:=sT.trans s2
  have wr:Hj prev x.1≠true:=fun hbad=>by
   rw[XA,dw,if_pos hbad,hnn] at hw
   cases hw
  refine X4 (fun c1=>wr ?_) fun c1=>⟨_,rfl,X4 (fun c2=>wr ?_) fun c2=>⟨x.1,_,_,_,rfl,s02,?_⟩⟩
  ·unfold Hj;rw[c1,Og]
  ·unfold Hj;rw[c2,Bool.or_true]
  ·rw[hw,XA,dw,if_neg wr]
 ·rintro σ L ⟨prev,v2,v3,v4,rfl,sL,hw⟩
  exact q L sL
theorem Wu:FnScope ["value"] ["value"] (i3 MO):=by ac_rfl
def BL:Sp:=fun vs H Q _=>∃i:Int,vs=[.int i]/\Q (.bl true) H
def KO{v0:Int}{H:Hp}{Q:VK}{E:XK}:=show BL [.int v0] H Q E=_ by
 simpa only[BL]
 rfl
theorem Tt(F:Fun K "is_whole_number" "is_whole_number" MO f fd)(T:Txt mg):FnOk P w K mg bs0 D7 1 f fd ["value"] BL:=by
 refine F.ok Wu (fun vs H Q E h=> ?_) (fun E6 A outer s H vs Q E hr h=> ?_)
 ·obtain⟨i,rfl,_⟩:=h
  rfl
 obtain⟨i,rfl,q⟩:=h
 refine⟨_,(h8 (q9 (MV (n9 (Gb K) rfl T.isinstance (by decide+kernel) (c5 (pv 0) (c5 (EV (v:= .ty "int") rfl T.int (by decide+kernel) rfl) e6))) (IT (QaC (n9 (Gb K) rfl T.isinstance (by decide+kernel) (c5 (pv 0) (c5 (EV (v:= .ty "bool") rfl T.bool (by decide+kernel) rfl) e6)))))))),?_⟩
 and_intros
 simpa only[V.ty.injEq]
 exact⟨_, .int i,true,rfl,Xm ⟨_, .int i,false,rfl,q⟩⟩
abbrev Mk:=Int×List Az
def EL(x:Mk):DV:= .tup [.int x.1, .lst (x.2.map QX)]
def mw(ahead:Int):List Mk->Prop
 |[]=>True
 |x::r=>ahead<x.1/\dw "" 0 x.2=none/\mw x.1 r
theorem Lw:∀{ms:List Mk} {p:Int} {i:Nat} {x:Mk},mw p ms->ms[i]? =some x->p<x.1/\dw "" 0 x.2=none/\mw x.1 (ms.drop (i+1))
 |y::r,p,0,x,h,e=>by simp at e;subst e;simpa [mw] using h
 |y::r,p,i+1,x,h,e=>by
  obtain⟨h1,h2,h3⟩:=Lw (i:=i) h.2.2 (by simpa using e)
  exact⟨by have:=h.1;omega,h2,by simpa using h3⟩
 |[],p,i,x,h,e=>by simp at e
def CL:Sp:=fun vs H Q _=>∃(a:Addr) (ms:List Mk) (xs:List V),vs=[.ref a]/\H a=some (.lst xs)/\c8 H (ms.map EL) xs/\ms.length<=1000/\(∀m∈ms,m.2.length<=1000/\∀x∈m.2,x.1.length<=1000)/\mw (-1) ms/\∀H',i6 H H'->Q .non H'
def Sx{v0:Addr}{H:Hp}{Q:VK}{E:XK}:=show CL [.ref v0] H Q E=_ by
 simpa only[CL]
 rfl
theorem Ad{H:Hp}{x:Mk}{v:V}(h:k7 H (EL x) v):∃a b xs,v= .ref a/\H a=some (.tup [.int x.1, .ref b])/\H b=some (.lst xs)/\c8 H (x.2.map QX) xs:=by
 rw[EL,k7] at h
 obtain⟨a,us,rfl,ha,Am⟩:=h
 rw[c8] at Am
 obtain⟨y,ys,rfl,hy,Am⟩:=Am
 rw[c8] at Am
 obtain⟨y2,ys2,rfl,hy2,Am⟩:=Am
 rw[c8] at Am
 rw[k7] at hy
 rw[k7] at hy2
 obtain⟨b,xs,rfl,hb,VU⟩:=hy2
 exact⟨a,b,xs,rfl,by rw[ha,hy,Am],hb,VU⟩
theorem BM:FnScope ["makes","ahead","place","pair","make"] ["makes"] (i3 MQ):=by ac_rfl
def Qcg(a:Addr)(ms:List Mk)(H:Hp)(i:Nat)(σ:St)(L:Hp):Prop:=∃(prev:Int) (v2 v3 v4:Option V),σ=[some (.ref a),some (.int prev),v2,v3,v4]/\i6 H L/\mw prev (ms.drop i)
theorem Tv{gh gd:Addr}{dh dd:FuncData}(F:Fun K "look_at_makes" "look_at_makes" MQ f fd)(T:Txt mg)(GH:FnOk P w K mg bs0 D7 1 gh dh ["value"] BL)(bH:Binds K dh ["value"] [])(kH:PySem.W.keepIn K (.ref gh)=true)(mH:mg "is_whole_number"=some (.ref gh))
  (GLk:FnOk P w K mg bs0 D7 3 gd dd ["document"] Dz)(bLk:Binds K dd ["document"] [])(kLk:PySem.W.keepIn K (.ref gd)=true)(mLk:mg "look_at_document"=some (.ref gd)):FnOk P w K mg bs0 D7 4 f fd ["makes"] CL:=by
 refine F.ok BM (fun vs H Q E h=> ?_) (fun E6 A outer s H vs Q E hr h=> ?_)
 ·obtain⟨a,d,xs,rfl,_⟩:=h
  rfl
 obtain⟨a,ms,xs,rfl,ha,hd,hl,CG,V0,q⟩:=h
 have hr1:Room 1 _:=hr.mono (by decide)
 refine⟨_,(e7 (k8 (i:=1) BM.nd rfl (Or.inl rfl) (To IA j5))
  (h8 (y7 B3 rfl (CU rfl T.enumerate (c5 (i9 0) e6)) (GV K (n:=2) rfl (j9 (i5 (i:=2) BM.nd rfl (Or.inl rfl)) (j9 (i5 (i:=3) BM.nd rfl (Or.inl rfl)) C4)))
   (e7 (k8 (i:=4) BM.nd rfl (Or.inl rfl) (N1 (YK K) (i9 3) j5 (fun _ _=>rfl)))
  (e7 (G9 (PW.pt (BY (W8 (N0 (j7 GH hr1 rfl mH kH bH .nil k9 (c5 (i9 4) e6)))) (DE (B0 Tr (i9 4) (i9 1) (E1 _))))) (h8 OT) A3)
  (e7 (D4 (j7 GLk hr rfl mLk kLk bLk .nil k9 (c5 (N1 (YK K) (i9 3) j5 (fun _ _=>rfl)) e6)))
  (h8 (k8 (i:=1) BM.nd rfl (Or.inl rfl) (i9 4))))))))),?_⟩
 and_intros
 simpa only[o9]
 refine⟨⟨_,l7.of ha⟩,BR xs (Qcg a ms H) ⟨-1,none,none,none,rfl,i6.refl _,by rw[JM];exact V0⟩ ?_ ?_ ?_⟩
 ·rintro i σ L hi ⟨prev,v2,v3,v4,rfl,sL,hw⟩
  exact l7.of (sL _ _ ha)
 ·rintro i y T σ L hy ⟨prev,v2,v3,v4,rfl,sL,hw⟩ hT
  obtain⟨dv,h1,h2⟩:=hd.get hy
  rw[u8] at h1
  obtain⟨x,hx,rfl⟩:=o7.mp h1
  obtain⟨b,c,zs,rfl,hb,hc,hz⟩:=Ad h2
  have sT:i6 H (i8 L T (.tup [.int i, .ref b])):=sL.trans (c7 hT _)
  have hb':=sT _ _ hb
  have EB:i<ms.length:=(u4.mp hx).1
  have XA:ms.drop i=x::ms.drop (i+1):=by
   rw[U2 EB]
   congr 1
   exact(u4.mp hx).2
  have QL:x∈ms:=E8 hx
  rw[XA] at hw
  simpa only[↓KO,BL,↓OE,Dz,↓KJ]
  refine⟨_,W3.of c6,rfl,?_⟩
  simpa only[↓KO,BL,↓OE,Dz,↓KJ]
  refine⟨_,W3.of hb',_,rfl,_,rfl,Ni ⟨_,rfl,X4 (fun c1=> ?_) fun c1=> ?_⟩⟩
  ·have c1':x.1<=prev:=A2 c1
   have:=hw.1
   omega
  ·exact⟨_,W3.of hb',_,rfl,c,rfl,x.2,zs,sT _ _ hc,c8.same sT _ _ hz,(CG x QL).1,(CG x QL).2,hw.2.1,fun H' s'=>⟨x.1,_,_,_,rfl,sT.trans s',hw.2.2⟩⟩
 ·rintro σ L ⟨prev,v2,v3,v4,rfl,sL,hw⟩
  exact q L sL
theorem Qbg{H:Hp}{wd:Wd}{x:V}(h:k7 H (dvW wd) x):∃a,x= .ref a/\H a=some (.tup [.str ⟨wd.1.toArray⟩, .int wd.2.1, .int wd.2.2]):=by
 rw[dvW,k7] at h
 obtain⟨a',us,rfl,ha',Am⟩:=h
 refine⟨a',rfl,?_⟩
 rw[ha']
 rw[c8] at Am
 obtain⟨y,ys',rfl,hy,Am⟩:=Am
 rw[c8] at Am
 obtain⟨y2,ys2,rfl,hy2,Am⟩:=Am
 rw[c8] at Am
 obtain⟨y3,ys3,rfl,hy3,Am⟩:=Am
 rw[c8] at Am
 rw[k7] at hy
 rw[k7] at hy2
 rw[k7] at hy3
 rw[hy,hy2,hy3,Am]
def A6(z:Str):List Str:=(Fj z.cps.toList).map fun x=>⟨x.1.toArray⟩
theorem T7{z:Str}(h:z.length<=500):(A6 z).length<=1000:=by
 have:=scan_len z.cps.toList (z.cps.toList.length+1)
 have e:z.cps.toList.length=z.length:=AV z
 unfold A6 Fj
 rw[i4]
 omega
def Q3:Sp:=fun vs H Q _=>∃z:Str,vs=[.str z]/\z.length<=500/\Fi z/\∀(r:Addr) (H':Hp),i6 H H'->H r=none->H' r=some (.lst ((A6 z).map V.str))->Q (.ref r) H'
def Z2{v0:Str}{H:Hp}{Q:VK}{E:XK}:=show Q3 [.str v0] H Q E=_ by
 simpa only[Q3]
 rfl
theorem Qag:FnScope ["text"] ["text"] (i3 OM):=by ac_rfl
def Qcp(z:Str)(L0:Hp)(i:Nat)(ys:List V)(σ:St)(L:Hp):Prop:=∃v0:Option V,σ=[v0]/\L=L0/\ys=((A6 z).take i).map V.str
theorem WU{g:Addr}{gd:FuncData}(F:Fun K "bare_words" "bare_words" OM f fd)(T:Txt mg)(GW:FnOk P w K mg bs0 D7 4 g gd ["text"] CJ)(bW:Binds K gd ["text"] [])(kW:PySem.W.keepIn K (.ref g)=true)(mW:mg "words_of"=some (.ref g)):FnOk P w K mg bs0 D7 5 f fd ["text"] Q3:=by
 refine F.ok Qag (fun vs H Q E h=> ?_) (fun E6 A outer s H vs Q E hr h=> ?_)
 ·obtain⟨z,rfl,_⟩:=h
  rfl
 obtain⟨z,rfl,hz,hA,q⟩:=h
 refine⟨_,(h8 (q9 (J5 (N:=["entry"]) (pick:=[none]) (NX:=["text"]) (sX:=i3 OM) (by decide+kernel) rfl rfl rfl (l6 K (j7 GW hr rfl mW kW bW .nil k9 (c5 (i9 0) e6)))
    (fun _ _ _ _=>(i5 (i:=0) (by decide+kernel:(["entry"]:List Str).Nodup) rfl (Or.inl rfl))) (fun _ _ _ _=>G6) (fun _ _ _ _=>(N1 (YK K) (i9 0) j5 (fun _ _=>rfl)))))),?_⟩
 and_intros
 simpa only[↓Sr,CJ]
 refine⟨by omega,hA,fun r xs H1 s1 hr1 e1 hD=>⟨⟨xs,l7.of e1⟩,?_⟩⟩
 have hDs:=c8.same (Q8 r H1) _ _ hD
 have Nk:=T7 hz
 have hwe:(A6 z).length=(Fj z.cps.toList).length:=i4 _
 have Fa:xs.length=(Fj z.cps.toList).length:=by have:=hD.length;rwa [i4] at this
 refine C0 xs (Qcp z H1) ⟨none,rfl,rfl,rfl⟩ ?_ ?_ ?_
 ·rintro i ys σ L hi ⟨v0,rfl,rfl,rfl⟩
  exact⟨l7.of e1,small (by rw[i4,A4];omega)⟩
 ·rintro i y ys σ L hy ⟨v0,rfl,rfl,rfl⟩
  obtain⟨dv,h1,h2⟩:=hDs.get hy
  rw[u8] at h1
  obtain⟨wd,Ua,rfl⟩:=o7.mp h1
  obtain⟨b,rfl,hb⟩:=Qbg h2
  simpa only[o9]
  refine⟨_,W3.of hb,_,rfl,_,rfl,rfl,?_⟩
  have e3:(A6 z)[i]? =some ⟨wd.1.toArray⟩:=by unfold A6;rw[u8,Ua];rfl
  rw[x6,e3,n6]
  rfl
 ·rintro ys σ L ⟨v0,rfl,rfl,rfl⟩ p hp
  refine q p _ (s1.trans (c7 hp _)) (s1.free hp) ?_
  rw[c6,Fa,<-hwe,y8]
theorem RX{kvs:List (A0×V)}{k:A0}{v:V}(h:A9 kvs k=some v):∃p∈kvs,p.2=v:=by
 unfold A9 at h
 cases e:kvs.find? (fun kv=>decide (kv.1=k)) with
 |none=>rw[e] at h;cases h
 |some p=>rw[e] at h;exact⟨p,NS e,R7 h⟩
def R9(G H:Hp):List (A0×V)->Pl Str->Prop
 |[],[]=>True
 |kv::r,x::p=>(∃l,kv=(.inr x.1, .ref l)/\G l=none/\H l=some (.lst (x.2.map V.int))/\∀y∈r,y.2≠ .ref l)/\R9 G H r p
 |_,_=>False
theorem R9.keys{G H:Hp}:∀{kvs:List (A0×V)} {p:Pl Str},R9 G H kvs p->kvs.map (·.1)=(p.map (·.1)).map Sum.inr
 |[],[],_=>rfl
 |kv::r,x::p,⟨⟨l,e,_⟩,h⟩=>by rw[List.map_cons,List.map_cons,List.map_cons,R9.keys h,e]
 |[],_::_,h=>h.elim
 |_::_,[],h=>h.elim
theorem R9.congr{G H H':Hp}:∀{kvs:List (A0×V)} {p:Pl Str},R9 G H kvs p->(∀y∈kvs,∀l u,y.2= .ref l->H l=some u->H' l=some u)->R9 G H' kvs p
 |[],[],_,_=>trivial
 |kv::r,x::p,⟨⟨l,e,g,hl,hn⟩,h⟩,hk=>⟨⟨l,e,g,hk kv A5 l _ (by rw[e]) hl,hn⟩,R9.congr h fun y hy=>hk y (B1 _ hy)⟩
 |[],_::_,h,_=>h.elim
 |_::_,[],h,_=>h.elim
theorem R9.same{G H H':Hp}{kvs:List (A0×V)}{p:Pl Str}(h:R9 G H kvs p)(s:i6 H H'):R9 G H' kvs p:=h.congr fun _ _ l u _ hl=>s l u hl
theorem R9.get{G H:Hp}{w:Str}:∀{kvs:List (A0×V)} {p:Pl Str} {v:V},R9 G H kvs p->A9 kvs (.inr w)=some v->∃l ps,v= .ref l/\get p w=some ps/\G l=none/\H l=some (.lst (ps.map V.int))
 |[],[],v,_,hv=>by cases hv
 |kv::r,x::p,v,⟨⟨l,e,g,hl,hn⟩,h⟩,hv=>by
  subst e
  by_cases hx:x.1=w
  ·rw[hx,B4 rfl] at hv
   cases hv
   exact⟨l,x.2,rfl,by rw[KT.get,if_pos hx],g,hl⟩
  ·rw[B5 (fun y=>hx (JC y))] at hv
   obtain⟨l',ps,h1,h2,h3,h4⟩:=R9.get h hv
   exact⟨l',ps,h1,by rw[KT.get,if_neg hx];exact h2,h3,h4⟩
 |[],_::_,_,h,_=>h.elim
 |_::_,[],_,h,_=>h.elim
theorem R9.grow{G H:Hp}{w:Str}{i:Int}{l:Addr}{ps:List Int}:∀{kvs:List (A0×V)} {p:Pl Str},R9 G H kvs p->A9 kvs (.inr w)=some (.ref l)->H l=some (.lst (ps.map V.int))->R9 G (i8 H l (.lst (ps.map V.int++[.int i]))) kvs (R8 p w i)
 |[],[],_,hv,_=>by cases hv
 |kv::r,x::p,⟨⟨l',e,g,hl,hn⟩,h⟩,hv,hp=>by
  subst e
  by_cases hx:x.1=w
  ·rw[hx,B4 rfl] at hv
   cases hv
   rw[hl] at hp
   have ep:x.2.map V.int=ps.map V.int:=HO.lst.inj (R7 hp)
   have e2:R8 (x::p) w i=(w,x.2++[i])::p:=by unfold R8;rw[KT.mod,if_pos hx];rfl
   rw[e2]
   refine⟨⟨l,by rw[hx],g,by rw[c6,n6,ep];rfl,hn⟩,h.congr fun y hy m u em hu=> ?_⟩
   rw[g9 (fun z=>hn y hy (by rw[em,z]))]
   exact hu
  ·rw[B5 (fun y=>hx (JC y))] at hv
   have e2:R8 (x::p) w i=x::R8 p w i:=by unfold R8;rw[KT.mod,if_neg hx]
   rw[e2]
   obtain⟨y,hy,ey⟩:=RX hv
   refine⟨⟨l',rfl,g,?_,hn⟩,R9.grow h hv hp⟩
   rw[g9 (fun z=>hn y hy (by rw[ey,z]))]
   exact hl
 |[],_::_,h,_,_=>h.elim
 |_::_,[],h,_,_=>h.elim
theorem R9.add{G H:Hp}{w:Str}{i:Int}{l:Addr}(hl:H l=some (.lst [.int i]))(hg:G l=none):∀{kvs:List (A0×V)} {p:Pl Str},R9 G H kvs p->A9 kvs (.inr w)=none->(∀y∈kvs,y.2≠ .ref l)->R9 G H (kvs++[(.inr w, .ref l)]) (R8 p w i)
 |[],[],_,_,_=>⟨⟨l,rfl,hg,hl,fun y hy=>by cases hy⟩,trivial⟩
 |kv::r,x::p,⟨⟨l',e,g,hl',hn⟩,h⟩,hv,hk=>by
  subst e
  by_cases hx:x.1=w
  ·rw[hx,B4 rfl] at hv
   cases hv
  ·rw[B5 (fun y=>hx (JC y))] at hv
   have e2:R8 (x::p) w i=x::R8 p w i:=by unfold R8;rw[KT.mod,if_neg hx]
   rw[e2]
   refine⟨⟨l',rfl,g,hl',fun y hy=> ?_⟩,R9.add hl hg h hv fun y hy=>hk y (B1 _ hy)⟩
   rcases D8.mp hy with h1|h1
   ·exact hn y h1
   ·rw[x8.mp h1]
    exact fun z=>hk _ A5 z.symm
 |[],_::_,h,_,_=>h.elim
 |_::_,[],h,_,_=>h.elim
theorem Ln{κ:Type}[DecidableEq κ]:∀(ws:List κ) (p:Pl κ) (i:Int) (w:κ),W9 p i (ws++[w])=R8 (W9 p i ws) w (i+ws.length)
 |[],p,i,w=>by simp [W9]
 |x::ws,p,i,w=>by
  rw[List.cons_append,W9,W9,Ln ws,List.length_cons]
  congr 1
  omega
def Bd:Sp:=fun vs H Q _=>∃(a:Addr) (ws:List Str),vs=[.ref a]/\H a=some (.lst (ws.map V.str))/\ws.length<=1000/\
 ∀(d:Addr) (kvs:List (A0×V)) (H':Hp),i6 H H'->H d=none->H' d=some (.dK kvs)->R9 H H' kvs (W9 [] 0 ws)->Q (.ref d) H'
def Qd{v0:Addr}{H:Hp}{Q:VK}{E:XK}:=show Bd [.ref v0] H Q E=_ by
 simpa only[Bd]
 rfl
theorem CO:FnScope ["words","places","place","word"] ["words"] (i3 IK):=by ac_rfl
def QcM(a d:Addr)(ws:List Str)(H:Hp)(i:Nat)(σ:St)(L:Hp):Prop:=∃(kvs:List (A0×V)) (v2 v3:Option V),σ=[some (.ref a),some (.ref d),v2,v3]/\i6 H L/\L d=some (.dK kvs)/\kvs.length<=i/\R9 H L kvs (W9 [] 0 (ws.take i))/\∀ps∈(W9 [] 0 (ws.take i)),ps.2.length<=i
theorem Qz(F:Fun K "places_by_word" "places_by_word" IK f fd)(T:Txt mg):FnOk P w K mg bs0 D7 1 f fd ["words"] Bd:=by
 refine F.ok CO (fun vs H Q E h=> ?_) (fun E6 A outer s H vs Q E hr h=> ?_)
 ·obtain⟨a,ws,rfl,_⟩:=h
  rfl
 obtain⟨a,ws,rfl,ha,hl,q⟩:=h
 refine⟨_,(e7 (k8 (i:=1) CO.nd rfl (Or.inl rfl) C5)
  (e7 (y7 B3 rfl (CU rfl T.enumerate (c5 (i9 0) e6)) (GV K (n:=2) rfl (j9 (i5 (i:=2) CO.nd rfl (Or.inl rfl)) (j9 (i5 (i:=3) CO.nd rfl (Or.inl rfl)) C4)))
   (h8 (D4 (Ms K T4 V5 V4 G4 (Bh (i9 1) (i9 3) (u6 e6) ⟨rfl,rfl,rfl,rfl⟩) (c5 (i9 2) e6)))))
  (h8 (q9 (i9 1))))),?_⟩
 and_intros
 simpa only[↓K9]
 intro d hd
 have had:a≠d:=j4 ha hd
 have Fa:(ws.map V.str).length=ws.length:=i4 _
 refine⟨⟨_,l7.of (w9 ha hd)⟩,BR (ws.map V.str) (QcM a d ws H) ⟨[],none,none,rfl,c7 hd _,c6,l8 _,trivial,fun p hp=>(by cases hp)⟩ ?_ ?_ ?_⟩
 ·rintro i σ L hi ⟨kvs,v2,v3,rfl,sL,hk,hkl,hv,hz⟩
  exact l7.of (sL _ _ ha)
 ·rintro i y T σ L hy ⟨kvs,v2,v3,rfl,sL,hk,hkl,hv,hz⟩ hT
  rw[u8] at hy
  obtain⟨wd,Ua,rfl⟩:=o7.mp hy
  have EB:i<ws.length:=(u4.mp Ua).1
  have sT:i6 H (i8 L T (.tup [.int i, .str wd])):=sL.trans (c7 hT _)
  have hk':(i8 L T (.tup [.int i, .str wd])) d=some (.dK kvs):=w9 hk hT
  have hv':=hv.same (c7 hT (.tup [.int i, .str wd]))
  have ep:W9 [] 0 (ws.take (i+1))=R8 (W9 [] 0 (ws.take i)) wd (i:Int):=by
   rw[x6,Ua]
   show W9 [] 0 (ws.take i++[wd])=_
   rw[Ln,A4,Eg (by omega),NR]
  have hz':∀x∈W9 [] 0 (ws.take (i+1)),x.2.length<=i+1:=by rw[ep];exact PU hz
  simpa only[o9]
  refine⟨_,W3.of c6,rfl,?_⟩
  simpa only[↓Dv]
  generalize i8 L T (.tup [.int i, .str wd])=M at sT hk' hv'⊢
  refine⟨.inl ⟨kvs, .inl hk'⟩,by decide,fun p hp=> ?_⟩
  have hk2:(i8 M p (.lst [])) d=some (.dK kvs):=w9 hk' hp
  have s3:i6 H (i8 M p (.lst [])):=sT.trans (c7 hp _)
  have v3':=hv'.same (c7 hp (.lst []))
  have hpd:p≠d:=fun z=>by rw[z,hk'] at hp;cases hp
  refine⟨kvs,hk2, .inr _,rfl,N9 (by omega),fun v hvv=> ?_,fun Zg=> ?_⟩
  ·obtain⟨c,ps,rfl,g1,g2,g3⟩:=v3'.get hvv
   have hps:=hz _ (D6 g1)
   refine⟨.inl ⟨rfl,_,l7.of g3⟩,c,rfl,_,g3,N9 (by rw[i4];have hps':ps.length<=i:=hps;omega),kvs,_,_,rfl,s3.newer g2 _,?_,by omega,by rw[ep];exact v3'.grow hvv g3,hz'⟩
   rw[g9 (Ex hk2 g3 (by intro z;cases z))]
   exact hk2
  ·have pn:H p=none:=sT.free hp
   have el:=P2 (V.ref p) Zg
   have epp:(i8 (i8 M p (.lst [])) d (.dK (D3 kvs (.inr wd) (.ref p)))) p=some (.lst []):=by rw[g9 hpd];exact c6
   have nk:∀y∈kvs,y.2≠ .ref p:=fun y hy z=>by
    have key:∀{kvs:List (A0×V)} {q:Pl Str},R9 H M kvs q->y∈kvs->∃l u,y.2= .ref l/\M l=some u:=by
     intro kvs
     induction kvs with
     |nil=>intro q _ h;cases h
     |cons kv r ih=>
      intro q h hm
      cases q with
      |nil=>exact h.elim
      |cons x q=>
       rcases C8.mp hm with e|hm
       ·obtain⟨⟨l,e1,_,e3,_⟩,_⟩:=h
        exact⟨l,_,by rw[e,e1],e3⟩
       ·exact ih h.2 hm
    obtain⟨l,u,e1,e2⟩:=key hv' hy
    rw[z] at e1
    cases e1
    rw[hp] at e2
    cases e2
   refine⟨.inl ⟨rfl,_,l7.of epp⟩,[],epp,by decide,_,_,_,rfl,(s3.newer hd _).newer pn _,by rw[g9 hpd.symm];exact c6,?_,?_,hz'⟩
   ·rw[el,y9,G3]
    omega
   ·rw[el,ep]
    refine R9.add c6 pn (v3'.congr fun y hy l u e1 e2=> ?_) Zg nk
    rw[g9 (fun z=>nk y hy (by rw[e1,z])),g9 (fun z=> ?_)]
    ·exact e2
    ·subst z
     rw[hk2] at e2
     have key:∀{kvs:List (A0×V)} {q:Pl Str},R9 H (i8 M p (.lst [])) kvs q->y∈kvs->∃l ps,y.2= .ref l/\(i8 M p (.lst [])) l=some (.lst ps):=by
      intro kvs
      induction kvs with
      |nil=>intro q _ h;cases h
      |cons kv r ih=>
       intro q h hm
       cases q with
       |nil=>exact h.elim
       |cons x q=>
        rcases C8.mp hm with e|hm
        ·obtain⟨⟨l,e1,_,e3,_⟩,_⟩:=h
         exact⟨l,_,by rw[e,e1],e3⟩
        ·exact ih h.2 hm
     obtain⟨l',ps,e3,e4⟩:=key v3' hy
     rw[e1] at e3
     cases e3
     rw[hk2] at e4
     cases e4
 ·rintro σ L ⟨kvs,v2,v3,rfl,sL,hk,hkl,hv,hz⟩
  simpa only[o9]
  rw[Fa,y8] at hv
  exact q d kvs L sL hd hk hv
abbrev Ay:=Addr->Option (List Str)
abbrev Fl:=List (Str×Wt Str)
def W6{κ α:Type}[DecidableEq κ](f:κ->α)(k:κ)(v:α):κ->α:=fun x=>if x=k then v else f x
theorem E4{κ α:Type}[DecidableEq κ]{f:κ->α}{k:κ}{v:α}:W6 f k v k=v:=if_pos rfl
theorem B2{κ α:Type}[DecidableEq κ]{f:κ->α}{k j:κ}{v:α}(h:j≠k):W6 f k v j=f j:=if_neg h
def CF(G:Hp)(pa:Ay)(H:Hp):Hp:=fun a=>if G a=none/\pa a=none then H a else none
theorem Ab{G H:Hp}{pa:Ay}{a:Addr}{u:HO}(h:H a=some u)(g:G a=none)(p:pa a=none):CF G pa H a=some u:=by unfold CF;rw[if_pos ⟨g,p⟩];exact h
theorem Bo{G H:Hp}{pa:Ay}{a:Addr}{u:HO}(h:CF G pa H a=some u):H a=some u/\G a=none/\pa a=none:=by
 unfold CF at h
 by_cases ha:G a=none/\pa a=none
 ·rw[if_pos ha] at h;exact⟨h,ha⟩
 ·rw[if_neg ha] at h;cases h
theorem Dc{G H H':Hp}{pa:Ay}(s:i6 H H'):i6 (CF G pa H) (CF G pa H'):=fun a u h=>by
 obtain⟨h1,h2,h3⟩:=Bo h
 exact Ab (s _ _ h1) h2 h3
theorem Dd{G H:Hp}{pa:Ay}{a:Addr}{o:HO}(h:pa a≠none):CF G pa (i8 H a o)=CF G pa H:=by
 funext x
 unfold CF
 by_cases hx:G x=none/\pa x=none
 ·rw[if_pos hx,if_pos hx,g9 (fun e=>h (by rw[<-e];exact hx.2))]
 ·rw[if_neg hx,if_neg hx]
theorem Jg{G H:Hp}{pa:Ay}{p:Addr}{o:HO}{q:List Str}(hp:H p=none):i6 (CF G pa H) (CF G (W6 pa p (some q)) (i8 H p o)):=fun a u h=>by
 obtain⟨h1,h2,h3⟩:=Bo h
 exact Ab (w9 h1 hp) h2 (by rw[B2 (j4 h1 hp)];exact h3)
def O0{α:Type}(da:Str->Addr)(F:List (Str×α)):List (A0×V):=F.map fun x=>(.inr x.1, .ref (da x.1))
theorem B6{α:Type}{da:Str->Addr}{f:Str}:∀{F:List (Str×α)},A9 (O0 da F) (.inr f)=(get F f).map fun _=>V.ref (da f)
 |[]=>rfl
 |x::F=>by
  show A9 ((.inr x.1, .ref (da x.1))::O0 da F) _=_
  by_cases h:x.1=f
  ·rw[B4 (by rw[h]),KT.get,if_pos h,h];rfl
  ·rw[B5 (fun e=>h (JC e)),KT.get,if_neg h];exact B6
theorem Nf{α:Type}{da:Str->Addr}{F:List (Str×α)}{f:Str}{g:Option α->α}(h:(get F f).isSome=true):O0 da (KT.mod F f g)=O0 da F:=by
 have e:∀F:List (Str×α),O0 da F=(F.map (·.1)).map fun x=>(.inr x, .ref (da x)):=fun F=>by unfold O0;rw[N7];rfl
 rw[e,e,X3,if_pos (Q2.mp h)]
theorem TR{α:Type}{da:Str->Addr}{F:List (Str×α)}{f:Str}{p:Addr}{v:α}(h:get F f=none):O0 (W6 da f p) (F++[(f,v)])=O0 da F++[(.inr f, .ref p)]:=by
 unfold O0
 rw[n6]
 congr 1
 ·refine JO fun x hx=> ?_
  rw[B2 (fun e=> ?_)]
  have:=Q2.mpr (n8.mpr ⟨x,hx,e⟩)
  rw[h] at this
  cases this
 ·show [((.inr f:A0),V.ref (W6 da f p f))]=_
  rw[E4]
theorem Q4{α:Type}{da:Str->Addr}{F:List (Str×α)}:(O0 da F).length=F.length:=i4 _
structure TAt(R:Hp->HO->Rw->Prop)(G H:Hp)(b:Addr)(da:Str->Addr)(ra:Str->Str->Addr)(pa:Ay)(F:Fl):Prop where
 base:i6 G H
 own:∀a,pa a≠none->G a=none/\H a≠none
 top:H b=some (.dK (O0 da F))/\pa b=some []
 fld:∀f D,get F f=some D->H (da f)=some (.dK (O0 (ra f) D))/\pa (da f)=some [f]
 row:∀f D w r,get F f=some D->get D w=some r->(∃o,H (ra f w)=some o/\R (CF G pa H) o r)/\pa (ra f w)=some [f,w]
def RM(R:Hp->HO->Rw->Prop):Prop:=∀h h' o r,i6 h h'->R h o r->R h' o r
section
variable {R:Hp->HO->Rw->Prop} {G H:Hp} {b:Addr} {da:Str->Addr} {ra:Str->Str->Addr} {pa:Ay} {F:Fl}
theorem O6{a c:Addr}{p q:List Str}(h:pa a=some p)(h':pa c=some q)(n:p≠q):a≠c:=fun e=>n (by rw[e,h'] at h;exact(R7 h).symm)
theorem TAt.same{H':Hp}(M:RM R)(t:TAt R G H b da ra pa F)(s:i6 H H'):TAt R G H' b da ra pa F:=
 ⟨t.base.trans s,fun a ha=>⟨(t.own a ha).1,fun e=>(t.own a ha).2 (s.free e)⟩,⟨s _ _ t.top.1,t.top.2⟩,fun f D h=>⟨s _ _ (t.fld f D h).1,(t.fld f D h).2⟩,fun f D w r h h'=>by
  obtain⟨⟨o,h1,h2⟩,h3⟩:=t.row f D w r h h'
  exact⟨⟨o,s _ _ h1,M _ _ _ _ (Dc s) h2⟩,h3⟩⟩
theorem TAt.out{N:Addr}{q:List Str}{o:HO}(t:TAt R G H b da ra pa F)(hN:pa N=some q)(hq:2<q.length):TAt R G (i8 H N o) b da ra pa F:=by
 have hn:pa N≠none:=by rw[hN];intro z;cases z
 have ne:∀{a p},pa a=some p->p.length<3->a≠N:=fun h h'=>O6 h hN (fun e=>by rw[e] at h';omega)
 refine⟨t.base.newer (t.own N hn).1 _,fun a ha=>⟨(t.own a ha).1,fun e=> ?_⟩,⟨by rw[g9 (ne t.top.2 (by decide))];exact t.top.1,t.top.2⟩,fun f D h=> ?_,fun f D w r h h'=> ?_⟩
 ·by_cases he:a=N
  ·rw[he,c6] at e;cases e
  ·rw[g9 he] at e;exact(t.own a ha).2 e
 ·obtain⟨h1,h2⟩:=t.fld f D h
  exact⟨by rw[g9 (ne h2 (by show 1<3;decide))];exact h1,h2⟩
 ·obtain⟨⟨o',h1,h2⟩,h3⟩:=t.row f D w r h h'
  exact⟨⟨o',by rw[g9 (ne h3 (by show 2<3;decide))];exact h1,by rw[Dd hn];exact h2⟩,h3⟩
theorem TAt.chg{f w:Str}{D:Wt Str}{r r':Rw}{o:HO}(t:TAt R G H b da ra pa F)(hf:get F f=some D)(hw:get D w=some r)(hR:R (CF G pa H) o r'):TAt R G (i8 H (ra f w) o) b da ra pa (KT.mod F f fun _=>KT.mod D w fun _=>r'):=by
 obtain⟨_,h3⟩:=t.row f D w r hf hw
 have hn:pa (ra f w)≠none:=by rw[h3];intro z;cases z
 refine⟨t.base.newer (t.own _ hn).1 _,fun a ha=>⟨(t.own a ha).1,fun e=> ?_⟩,⟨by rw[g9 (O6 t.top.2 h3 (by intro z;cases z)),Nf (by rw[hf];rfl)];exact t.top.1,t.top.2⟩,fun f' D' h=> ?_,fun f' D' w' s h h'=> ?_⟩
 ·by_cases he:a=ra f w
  ·rw[he,c6] at e;cases e
  ·rw[g9 he] at e;exact(t.own a ha).2 e
 ·by_cases e:f'=f
  ·subst e
   rw[x9] at h
   cases h
   obtain⟨h1,h2⟩:=t.fld f' D hf
   exact⟨by rw[g9 (O6 h2 h3 (by intro z;cases z)),Nf (by rw[hw];rfl)];exact h1,h2⟩
  ·rw[D5 _ _ e] at h
   obtain⟨h1,h2⟩:=t.fld f' D' h
   exact⟨by rw[g9 (O6 h2 h3 (by intro z;cases z))];exact h1,h2⟩
 ·rw[Dd hn]
  by_cases e:f'=f
  ·subst e
   rw[x9] at h
   cases h
   by_cases e:w'=w
   ·subst e
    rw[x9] at h'
    cases h'
    exact⟨⟨o,c6,hR⟩,h3⟩
   ·rw[D5 _ _ e] at h'
    obtain⟨⟨o',h1,h2⟩,h4⟩:=t.row f' D w' s hf h'
    exact⟨⟨o',by rw[g9 (O6 h4 h3 (by intro z;cases z;exact e rfl))];exact h1,h2⟩,h4⟩
  ·rw[D5 _ _ e] at h
   obtain⟨⟨o',h1,h2⟩,h4⟩:=t.row f' D' w' s h h'
   exact⟨⟨o',by rw[g9 (O6 h4 h3 (by intro z;cases z;exact e rfl))];exact h1,h2⟩,h4⟩
theorem TAt.old{a p:Addr}(t:TAt R G H b da ra pa F)(h:pa a≠none)(hp:H p=none):a≠p:=fun e=>(t.own a h).2 (by rw[e];exact hp)
theorem TAt.addW{f w:Str}{D:Wt Str}{r:Rw}{o:HO}{p:Addr}(M:RM R)(t:TAt R G H b da ra pa F)(hf:get F f=some D)(hw:get D w=none)(hp:H p=none)(hR:R (CF G pa H) o r):TAt R G (i8 (i8 H p o) (da f) (.dK (O0 (ra f) D++[(.inr w, .ref p)]))) b da (W6 ra f (W6 (ra f) w p)) (W6 pa p (some [f,w])) (KT.mod F f fun _=>D++[(w,r)]):=by
 obtain⟨hd,h3⟩:=t.fld f D hf
 have hn:pa (da f)≠none:=by rw[h3];intro z;cases z
 have np:da f≠p:=t.old hn hp
 have so:∀{a q},pa a=some q->a≠p:=fun h=>t.old (by rw[h];intro z;cases z) hp
 have ph:∀{a q},pa a=some q->W6 pa p (some [f,w]) a=some q:=fun h=>by rw[B2 (so h)];exact h
 have hn':W6 pa p (some [f,w]) (da f)≠none:=by rw[ph h3];intro z;cases z
 have sR:i6 (CF G pa H) (CF G (W6 pa p (some [f,w])) (i8 (i8 H p o) (da f) (.dK (O0 (ra f) D++[(.inr w, .ref p)])))):=by rw[Dd hn'];exact Jg hp
 have gp:G p=none:=t.base.free hp
 refine⟨(t.base.newer gp _).newer (t.own _ hn).1 _,fun a ha=> ?_,⟨by rw[g9 (O6 t.top.2 h3 (by intro z;cases z)),g9 (so t.top.2),Nf (by rw[hf];rfl)];exact t.top.1,ph t.top.2⟩,fun f' D' h=> ?_,fun f' D' w' s h h'=> ?_⟩
 ·by_cases ep:a=p
  ·exact⟨by rw[ep];exact gp,by rw[ep,g9 np.symm,c6];intro z;cases z⟩
  ·rw[B2 ep] at ha
   refine⟨(t.own a ha).1,fun e=> ?_⟩
   by_cases ed:a=da f
   ·rw[ed,c6] at e;cases e
   ·rw[g9 ed,g9 ep] at e;exact(t.own a ha).2 e
 ·by_cases e:f'=f
  ·subst e
   rw[x9] at h
   cases h
   exact⟨by rw[c6,E4,TR hw],ph h3⟩
  ·rw[D5 _ _ e] at h
   obtain⟨h1,h2⟩:=t.fld f' D' h
   exact⟨by rw[g9 (O6 h2 h3 (by intro z;cases z;exact e rfl)),g9 (so h2),B2 e];exact h1,ph h2⟩
 ·by_cases e:f'=f
  ·subst e
   rw[x9] at h
   cases h
   rw[E4]
   by_cases e:w'=w
   ·subst e
    rw[E4]
    have e2:s=r:=by
     rw[<-J7 hw (fun _=>r),x9] at h'
     exact(R7 h').symm
    subst e2
    exact⟨⟨o,by rw[g9 np.symm,c6],M _ _ _ _ sR hR⟩,E4⟩
   ·rw[B2 e]
    rw[<-J7 hw (fun _=>r),D5 _ _ e] at h'
    obtain⟨⟨o',h1,h2⟩,h4⟩:=t.row f' D w' s hf h'
    exact⟨⟨o',by rw[g9 (O6 h4 h3 (by intro z;cases z)),g9 (so h4)];exact h1,M _ _ _ _ sR h2⟩,ph h4⟩
  ·rw[D5 _ _ e] at h
   rw[B2 e]
   obtain⟨⟨o',h1,h2⟩,h4⟩:=t.row f' D' w' s h h'
   exact⟨⟨o',by rw[g9 (O6 h4 h3 (by intro z;cases z)),g9 (so h4)];exact h1,M _ _ _ _ sR h2⟩,ph h4⟩
theorem TAt.addF{f:Str}{p:Addr}(M:RM R)(t:TAt R G H b da ra pa F)(hf:get F f=none)(hp:H p=none):TAt R G (i8 (i8 H p (.dK [])) b (.dK (O0 da F++[(.inr f, .ref p)]))) b (W6 da f p) ra (W6 pa p (some [f])) (F++[(f,[])]):=by
 obtain⟨hd,h3⟩:=t.top
 have hn:pa b≠none:=by rw[h3];intro z;cases z
 have np:b≠p:=t.old hn hp
 have so:∀{a q},pa a=some q->a≠p:=fun h=>t.old (by rw[h];intro z;cases z) hp
 have ph:∀{a q},pa a=some q->W6 pa p (some [f]) a=some q:=fun h=>by rw[B2 (so h)];exact h
 have hn':W6 pa p (some [f]) b≠none:=by rw[ph h3];intro z;cases z
 have sR:i6 (CF G pa H) (CF G (W6 pa p (some [f])) (i8 (i8 H p (.dK [])) b (.dK (O0 da F++[(.inr f, .ref p)])))):=by rw[Dd hn'];exact Jg hp
 have gp:G p=none:=t.base.free hp
 have ge:∀{f'},f'≠f->get (F++[(f,[])]) f'=get F f':=fun e=>by rw[<-J7 hf (fun _=>[]),D5 _ _ e]
 have gf:get (F++[(f,([]:Wt Str))]) f=some []:=by rw[<-J7 hf (fun _=>[]),x9]
 refine⟨(t.base.newer gp _).newer (t.own _ hn).1 _,fun a ha=> ?_,⟨by rw[c6,TR hf],ph h3⟩,fun f' D' h=> ?_,fun f' D' w' s h h'=> ?_⟩
 ·by_cases ep:a=p
  ·exact⟨by rw[ep];exact gp,by rw[ep,g9 np.symm,c6];intro z;cases z⟩
  ·rw[B2 ep] at ha
   refine⟨(t.own a ha).1,fun e=> ?_⟩
   by_cases ed:a=b
   ·rw[ed,c6] at e;cases e
   ·rw[g9 ed,g9 ep] at e;exact(t.own a ha).2 e
 ·by_cases e:f'=f
  ·subst e
   rw[gf] at h
   cases h
   exact⟨by rw[E4,g9 np.symm,c6];rfl,by rw[E4,E4]⟩
  ·rw[ge e] at h
   obtain⟨h1,h2⟩:=t.fld f' D' h
   exact⟨by rw[B2 e,g9 (O6 h2 h3 (by intro z;cases z)),g9 (so h2)];exact h1,by rw[B2 e];exact ph h2⟩
 ·by_cases e:f'=f
  ·subst e
   rw[gf] at h
   cases h
   cases h'
  ·rw[ge e] at h
   obtain⟨⟨o',h1,h2⟩,h4⟩:=t.row f' D' w' s h h'
   exact⟨⟨o',by rw[g9 (O6 h4 h3 (by intro z;cases z)),g9 (so h4)];exact h1,M _ _ _ _ sR h2⟩,ph h4⟩
end
structure Fr(G:Hp)(pa:Ay)(H:Hp)(G8:Ay)(H':Hp):Prop where
 free:i6 (CF G pa H) (CF G G8 H')
 far:∀a q,pa a=some q->2<q.length->H' a=H a/\G8 a=some q
theorem Fr.refl{G H:Hp}{pa:Ay}:Fr G pa H pa H:=⟨i6.refl _,fun _ _ h _=>⟨rfl,h⟩⟩
theorem Fr.trans{G H H1 H2:Hp}{pa p1 p2:Ay}(h:Fr G pa H p1 H1)(h':Fr G p1 H1 p2 H2):Fr G pa H p2 H2:=
 ⟨h.free.trans h'.free,fun a q e n=>by
  obtain⟨e1,e2⟩:=h.far a q e n
  obtain⟨e3,e4⟩:=h'.far a q e2 n
  exact⟨e3.trans e1,e4⟩⟩
theorem Fr.own{G H:Hp}{pa:Ay}{a:Addr}{o:HO}{q:List Str}(h:pa a=some q)(n:q.length<3):Fr G pa H pa (i8 H a o):=
 ⟨by rw[Dd (by rw[h];intro z;cases z)];exact i6.refl _,fun c q' e n'=>⟨g9 (O6 e h (fun z=>by rw[z] at n';omega)),e⟩⟩
theorem Fr.new{G H:Hp}{pa:Ay}{p:Addr}{o:HO}{q:List Str}(hp:H p=none)(hn:∀a,pa a≠none->H a≠none):Fr G pa H (W6 pa p (some q)) (i8 H p o):=
 ⟨Jg hp,fun c q' e n'=>by
  have:c≠p:=fun z=>hn c (by rw[e];intro z;cases z) (by rw[z];exact hp)
  exact⟨g9 this,by rw[B2 this];exact e⟩⟩
theorem Fr.same{G H H':Hp}{pa:Ay}(s:i6 H H')(hn:∀a,pa a≠none->H a≠none):Fr G pa H pa H':=
 ⟨Dc s,fun c q' e n'=>by
  cases h:H c with
  |none=>exact absurd h (hn c (by rw[e];intro z;cases z))
  |some u=>exact⟨s _ _ h,e⟩⟩
theorem Fr.at_{G H H':Hp}{pa G8:Ay}{a:Addr}{u:HO}(h:Fr G pa H G8 H')(e:H a=some u)(g:G a=none)(p:pa a=none):H' a=some u/\G8 a=none:=by
 obtain⟨h1,_,h2⟩:=Bo (h.free _ _ (Ab e g p))
 exact⟨h1,h2⟩
def Fe(x:Int×List Int):DV:= .tup [.int x.1, .lst (x.2.map DV.int)]
def Rp(h:Hp)(o:HO)(r:Rw):Prop:=∃xs,o= .lst xs/\c8 h (r.map Fe) xs
theorem Aw:RM Rp:=fun h h' o r s ⟨xs,e,d⟩=>⟨xs,e,c8.same s _ _ d⟩
theorem R9.at_{G H:Hp}:∀{kvs:List (A0×V)} {p:Pl Str} {i:Nat} {k:A0} {v:V},R9 G H kvs p->kvs[i]? =some (k,v)->∃l x,p[i]? =some x/\k= .inr x.1/\v= .ref l/\G l=none/\H l=some (.lst (x.2.map V.int))
 |kv::r,x::p,0,k,v,⟨⟨l,e,g,hl,_⟩,_⟩,hk=>by
  simp at hk
  rw[e] at hk
  cases hk
  exact⟨l,x,rfl,rfl,rfl,g,hl⟩
 |kv::r,x::p,i+1,k,v,⟨_,h⟩,hk=>by
  obtain⟨l,y,h1,h2⟩:=R9.at_ (i:=i) h (by simpa using hk)
  exact⟨l,y,by simpa using h1,h2⟩
 |[],[],i,k,v,_,hk=>by simp at hk
 |[],_::_,_,_,_,h,_=>h.elim
 |_::_,[],_,_,_,h,_=>h.elim
theorem RW:∀{kvs:List (A0×V)} {i:Nat} {k:A0} {v:V},(kvs.map (·.1)).Nodup->kvs[i]? =some (k,v)->A9 kvs k=some v
 |kv::r,0,k,v,nd,hk=>by
  simp at hk
  rw[hk,B4 rfl]
 |kv::r,i+1,k,v,nd,hk=>by
  rw[List.map_cons,O4] at nd
  have hk':r[i]? =some (k,v):=by simpa using hk
  obtain⟨k0,v0⟩:=kv
  have Xv:k∈r.map (·.1):=n8.mpr ⟨_,E8 hk',rfl⟩
  rw[B5 (fun e=>nd.1 (by have e':k0=k:=e;rw[e'];exact Xv))]
  exact RW nd.2 hk'
 |[],i,k,v,_,hk=>by simp at hk
theorem Ch{m:Int}{n:Nat}:∀{p:Pl Str} {D:Wt Str},D.length<=n->(∀x∈D,x.2.length<=n)->(putAll m D p).length<=n+p.length/\∀x∈putAll m D p,x.2.length<=n+p.length
 |[],D,h,h'=>⟨h,h'⟩
 |y::p,D,h,h'=>by
  have e1:(R0 m D y).length<=n+1:=by
   have:=congrArg List.length (X3 D y.1 fun o=>o.getD []++[(m,y.2)])
   rw[i4] at this
   unfold R0
   rw[this]
   split<;>simp<;>omega
  have:=Ch (m:=m) (n:=n+1) (p:=p) e1 (Tc (h:=fun x hx=>h' x hx))
  rw[List.length_cons]
  have e:n+1+p.length=n+(p.length+1):=by omega
  rw[e] at this
  exact this
theorem IR:∀(ws:List Str) (p:Pl Str) (i:Int),(W9 p i ws).length<=p.length+ws.length
 |[],p,i=>l8 _
 |w::ws,p,i=>by
  have:=IR ws (R8 p w i) (i+1)
  have e:(R8 p w i).length<=p.length+1:=by
   have:=congrArg List.length (X3 p w fun o=>o.getD []++[i])
   rw[i4] at this
   unfold R8
   rw[this]
   split<;>simp
  rw[W9,List.length_cons]
  omega
def Yr:Sp:=fun vs H Q _=>∃(G:Hp) (b:Addr) (da:Str->Addr) (ra:Str->Str->Addr) (pa:Ay) (F:Fl) (fl:Str) (D:Wt Str) (n:Nat) (m:Int) (a:Addr) (ws:List Str),vs=[.ref (da fl), .int m, .ref a]/\TAt Rp G H b da ra pa F/\get F fl=some D/\D.length<=n/\(∀x∈D,x.2.length<=n)/\n<=1000000/\
 H a=some (.lst (ws.map V.str))/\ws.length<=1000/\∀V3 G8 H',TAt Rp G H' b da V3 G8 (KT.mod F fl fun _=>putAll m D (W9 [] 0 ws))->Fr G pa H G8 H'->Q .non H'
theorem SR:FnScope ["by_word","make","words","places","word"] ["by_word","make","words"] (i3 Qas):=by ac_rfl
def Zb(G H1:Hp)(b a d:Addr)(da:Str->Addr)(pa:Ay)(m:Int)(F:Fl)(fl:Str)(D:Wt Str)(p:Pl Str)(i:Nat)(σ:St)(L:Hp):Prop:=∃(V3:Str->Str->Addr) (G8:Ay) (v4:Option V),σ=[some (.ref (da fl)),some (.int m),some (.ref a),some (.ref d),v4]/\TAt Rp G L b da V3 G8 (KT.mod F fl fun _=>putAll m D (p.take i))/\Fr G pa H1 G8 L
theorem Qa0{g:Addr}{gd:FuncData}(F:Fun K "add_postings" "add_postings" Qas f fd)(T:Txt mg)(GB:FnOk P w K mg bs0 D7 1 g gd ["words"] Bd)(bB:Binds K gd ["words"] [])(kB:PySem.W.keepIn K (.ref g)=true)(mB:mg "places_by_word"=some (.ref g)):FnOk P w K mg bs0 D7 2 f fd ["by_word","make","words"] Yr:=by
 refine F.ok SR (fun vs H Q E h=> ?_) (fun E6 A outer s H vs Q E hr h=> ?_)
 ·obtain⟨G,b,da,ra,pa,F,fl,D,n,m,a,ws,rfl,_⟩:=h
  rfl
 obtain⟨G,b,da,ra,pa,F,fl,D,n,m,a,ws,rfl,hT,hF,hkl,hrl,hn,ha,hl,q⟩:=h
 refine⟨_,(e7 (k8 (i:=3) SR.nd rfl (Or.inl rfl) (j7 GB hr rfl mB kB bB .nil k9 (c5 (i9 2) e6)))
  (h8 (y7 B3 rfl (IS (i9 3)) (i5 (i:=4) SR.nd rfl (Or.inl rfl))
   (h8 (D4 (Ms K T4 V5 V4 G4 (Bh (i9 0) (i9 4) (u6 e6) ⟨rfl,rfl,rfl,rfl⟩) (c5 (X0 (c5 (i9 1) (c5 (Z4 (E3 hr) (i9 3) (i9 4) (fun _ _=>rfl)) e6))) e6))))))),?_⟩
 and_intros
 simpa only[↓Qd,Bd,↓Ph]
 refine⟨ws,ha,hl,fun d pk H1 s1 hd hd1 Fb=>⟨pk,hd1,fun o=> ?_⟩⟩
 have fd:∀{l},H l=none->G l=none/\pa l=none:=fun{l} h=>⟨hT.base.free h,G2 fun e=>(hT.own l e).2 h⟩
 have s2:i6 H (i8 H1 d (.frz o (.dK pk))):=s1.newer hd _
 have t2:=hT.same Aw s2
 have hpd:∀{l u},H1 l=some u->u≠ .dK pk->(i8 H1 d (.frz o (.dK pk))) l=some u:=fun h h'=>by rw[g9 (Ex h hd1 h')];exact h
 have hd2:(i8 H1 d (.frz o (.dK pk))) d=some (.frz o (.dK pk)):=c6
 have Xs:(pk.map (·.1)).Nodup:=by
  rw[Fb.keys]
  have:=BO ws ([]:Pl Str) 0 Ai
  exact this.map Sum.inr (fun a b e c=>e (JC c))
 have hpe:=Fb.keys
 have hplen:pk.length=(W9 [] 0 ws).length:=by have:=congrArg List.length hpe;simpa using this
 have hp1:=IR ws [] 0
 have Kv:=Fr.same (G:=G) s2 (fun a ha=>(hT.own a ha).2)
 generalize i8 H1 d (.frz o (.dK pk))=M at s2 t2 hpd hd2 Kv⊢
 refine DM (Zb G M b a d da pa m F fl D (W9 [] 0 ws)) ⟨ra,pa,none,rfl,by rw[Aj];show TAt Rp G M b da ra pa (KT.mod F fl fun _=>D);rw[Ck hF];exact t2,Fr.refl⟩ ?_ ?_ ?_
 ·rintro i σ L ⟨V3,G8,v4,rfl,t,fr⟩
  exact(fr.at_ hd2 (fd hd).1 (fd hd).2).1
 ·rintro i k v0 σ L hk ⟨V3,G8,v4,rfl,t,fr⟩
  have EB:i<pk.length:=(u4.mp hk).1
  obtain⟨l,x,hx,rfl,rfl,hl1,hl2⟩:=Fb.at_ hk
  have hvv:=RW Xs hk
  have hdL:=(fr.at_ hd2 (fd hd).1 (fd hd).2).1
  obtain⟨hlL,hlp⟩:=fr.at_ (hpd hl2 (by intro z;cases z)) (fd hl1).1 (fd hl1).2
  have hgl:=(fd hl1).1
  have eT:putAll m D ((W9 [] 0 ws).take (i+1))=R0 m (putAll m D ((W9 [] 0 ws).take i)) x:=by rw[x6,hx];exact putAll_snoc _ _ _ _
  have hsz:=Ch (m:=m) (p:=(W9 [] 0 ws).take i) hkl hrl
  have Xq:((W9 [] 0 ws).take i).length<=1000:=by rw[A4];simp at hp1;omega
  have hg:=x9 F fl fun _=>putAll m D ((W9 [] 0 ws).take i)
  generalize hF1:(KT.mod F fl fun _=>putAll m D ((W9 [] 0 ws).take i))=F1 at t hg
  have eF:∀D',(KT.mod F fl fun _=>D')=KT.mod F1 fl fun _=>D':=fun D'=>by rw[<-hF1,M7]
  unfold Zb
  rw[eT,eF]
  generalize putAll m D ((W9 [] 0 ws).take i)=D1 at hsz hg⊢
  obtain⟨hfd,hfp⟩:=t.fld fl D1 hg
  simpa only[↓Dv,↓Es]
  have szl:=B9
  refine⟨.inl ⟨_, .inl hfd⟩,by decide,fun p hp=> ?_⟩
  have sp:=c7 hp (.lst [])
  have hnp:da fl≠p:=j4 hfd hp
  refine⟨_,sp _ _ hfd, .inr x.1,rfl,by rw[Q4];omega,fun v hv=> ?_,fun Zg=> ?_⟩
  ·rw[B6] at hv
   obtain⟨r,hr1,rfl⟩:=o7.mp hv
   obtain⟨⟨ob,ho1,xs,rfl,ho2⟩,ho3⟩:=t.row fl D1 x.1 r hg hr1
   have hrl2:=hsz.2 _ (D6 hr1)
   have Fa:xs.length=r.length:=by have:=ho2.length;rwa [i4] at this
   refine⟨.inl ⟨rfl,_,l7.of (sp _ _ ho1)⟩, .ref l, .inl ⟨pk, .inr x.1, .inr ⟨o,sp _ _ hdL⟩,rfl,hvv.symm⟩,by decide,fun p1 hp1=> ?_⟩
   have sp1:=c7 hp1 (.tup [.int m, .ref l])
   have s12:=sp.trans sp1
   have t3:=t.same Aw s12
   refine⟨_,rfl,xs,s12 _ _ ho1,by simp only at hrl2;omega,V3,G8,?_,fr.trans ((Fr.same s12 fun a ha=>(t.own a ha).2).trans (Fr.own ho3 (by show 2<3;decide)))⟩
   have hR:Rp (CF G G8 (i8 (i8 L p (.lst [])) p1 (.tup [.int m, .ref l]))) (.lst (xs++[.ref p1])) (r++[(m,x.2)]):=by
    refine⟨_,rfl,?_⟩
    rw[n6]
    refine(c8.same (Dc s12) _ _ ho2).app (c8.one ?_)
    have hpG:G p1=none:=(t.base.trans sp).free hp1
    have hpP:G8 p1=none:=G2 fun e=>(t.own p1 e).2 (sp.free hp1)
    unfold Fe
    rw[k7]
    refine⟨p1,_,rfl,Ab c6 hpG hpP,?_⟩
    rw[c8]
    refine⟨_,_,rfl,by rw[k7],c8.one ?_⟩
    rw[k7]
    exact⟨l,_,rfl,Ab (s12 _ _ hlL) hgl hlp,c8.ints _⟩
   have:=t3.chg hg hr1 hR
   have eD:R0 m D1 x=KT.mod D1 x.1 fun _=>r++[(m,x.2)]:=by
    unfold R0
    exact B8 (by rw[hr1];rfl)
   rw[eD]
   exact this
  ·rw[B6] at Zg
   have FL:get D1 x.1=none:=JL.mp Zg
   have el:=P2 (kvs:=O0 (V3 fl) D1) (k:=(.inr x.1:A0)) (V.ref p) (by rw[B6,FL];rfl)
   have hR0:Rp (CF G G8 L) (.lst []) []:=⟨[],rfl,c8.nil⟩
   have ta:=t.addW (p:=p) Aw hg FL hp hR0
   have fa:Fr G G8 L (W6 G8 p (some [fl,x.1])) (i8 (i8 L p (.lst [])) (da fl) (.dK (O0 (V3 fl) D1++[(.inr x.1, .ref p)]))):=(Fr.new hp fun a ha=>(t.own a ha).2).trans (Fr.own (q:=[fl]) (by rw[B2 hnp];exact hfp) (by show 1<3;decide))
   rw[el]
   generalize i8 (i8 L p (.lst [])) (da fl) (.dK (O0 (V3 fl) D1++[(.inr x.1, .ref p)]))=M1 at ta fa⊢
   have fra:=fr.trans fa
   have hdM:=(fra.at_ hd2 (fd hd).1 (fd hd).2).1
   obtain⟨hlM,hlP⟩:=fra.at_ (hpd hl2 (by intro z;cases z)) (fd hl1).1 (fd hl1).2
   have hg2:=x9 F1 fl fun _=>D1++[(x.1,([]:Rw))]
   have hw2:get (D1++[(x.1,([]:Rw))]) x.1=some []:=by rw[<-J7 FL (fun _=>[]),x9]
   obtain⟨⟨ob,ho1,xs,rfl,ho2⟩,ho3⟩:=ta.row fl _ x.1 [] hg2 hw2
   have VU:xs=[]:=by have:=ho2.length;exact Cs this
   subst VU
   have era:W6 V3 fl (W6 (V3 fl) x.1 p) fl x.1=p:=by rw[E4,E4]
   refine⟨.inl ⟨rfl,_,l7.of (by rw[<-era];exact ho1)⟩, .ref l, .inl ⟨pk, .inr x.1, .inr ⟨o,hdM⟩,rfl,hvv.symm⟩,by decide,fun p1 hp1=> ?_⟩
   have sp1:=c7 hp1 (.tup [.int m, .ref l])
   have t3:=ta.same Aw sp1
   rw[era] at ho1
   refine⟨[],sp1 _ _ ho1,by show 0<sizeLine;omega,W6 V3 fl (W6 (V3 fl) x.1 p),_,?_,fra.trans ((Fr.same sp1 fun a ha=>(ta.own a ha).2).trans (Fr.own (q:=[fl,x.1]) E4 (by show 2<3;decide)))⟩
   have hR:Rp (CF G (W6 G8 p (some [fl,x.1])) (i8 M1 p1 (.tup [.int m, .ref l]))) (.lst ([]++[.ref p1])) ([(m,x.2)]):=by
    refine⟨_,rfl,c8.one ?_⟩
    have hpG:G p1=none:=ta.base.free hp1
    have hpP:(W6 G8 p (some [fl,x.1])) p1=none:=G2 fun e=>(ta.own p1 e).2 hp1
    unfold Fe
    rw[k7]
    refine⟨p1,_,rfl,Ab c6 hpG hpP,?_⟩
    rw[c8]
    refine⟨_,_,rfl,by rw[k7],c8.one ?_⟩
    rw[k7]
    exact⟨l,_,rfl,Ab (sp1 _ _ hlM) hgl hlP,c8.ints _⟩
   have:=t3.chg hg2 hw2 hR
   rw[era,M7,<-J7 FL (fun _=>[]),M7] at this
   have eD:R0 m D1 x=KT.mod D1 x.1 fun _=>[(m,x.2)]:=by
    unfold R0
    exact B8 (by rw[FL];rfl)
   rw[eD]
   exact this
 ·rintro σ L ⟨V3,G8,v4,rfl,t,fr⟩
  rw[hplen,y8] at t
  exact q V3 G8 L t (Kv.trans fr)
def Y9(m:Int)(F:Fl)(f:Str)(ws:List Str):Fl:=if ws=[] then F else KT.mod F f fun o=>putAll m (o.getD []) (W9 [] 0 ws)
def Y7(m:Int)(F:Fl)(d:List Az):Fl:=d.foldl (fun F y=>Y9 m F y.1 (A6 y.2)) F
def J8(F:Fl)(ms:List Mk):Fl:=ms.foldl (fun F x=>Y7 x.1 F x.2) F
theorem Jq{m:Int}{F:Fl}{d:List Az}{j:Nat}{y:Az}(h:d[j]? =some y):Y7 m F (d.take (j+1))=Y9 m (Y7 m F (d.take j)) y.1 (A6 y.2):=by
 rw[x6,h]
 exact Gp ..
theorem Ox{F:Fl}{ms:List Mk}{i:Nat}{x:Mk}(h:ms[i]? =some x):J8 F (ms.take (i+1))=Y7 x.1 (J8 F (ms.take i)) x.2:=by
 rw[x6,h]
 exact Gp ..
def Sz(n:Nat)(F:Fl):Prop:=F.length<=n/\∀x∈F,x.2.length<=n/\∀y∈x.2,y.2.length<=n
theorem Sz.mono{n m:Nat}{F:Fl}(h:Sz n F)(e:n<=m):Sz m F:=⟨E7 h.1 e,fun x hx=>⟨E7 (h.2 x hx).1 e,fun y hy=>E7 ((h.2 x hx).2 y hy) e⟩⟩
theorem Sz.at_{n:Nat}{F:Fl}{f:Str}(h:Sz n F):((get F f).getD []).length<=n/\∀y∈(get F f).getD [],y.2.length<=n:=by
 cases e:get F f with
 |none=>exact⟨o8 _,fun y hy=>by cases hy⟩
 |some D=>exact h.2 _ (D6 e)
theorem Jb{κ α:Type}[DecidableEq κ]{F:List (κ×α)}{f:κ}{g:Option α->α}:(KT.mod F f g).length<=F.length+1:=by
 have:=congrArg List.length (X3 F f g)
 rw[i4] at this
 rw[this]
 split<;>simp
theorem Fh{n:Nat}{m:Int}{F:Fl}{f:Str}{ws:List Str}(h:Sz n F)(hw:ws.length<=1000):Sz (n+1000) (Y9 m F f ws):=by
 unfold Y9
 split
 ·exact h.mono (by omega)
 ·refine⟨E7 Jb (by have:=h.1;omega),fun x hx=> ?_⟩
  rcases Q0 hx with e|e
  ·have:=h.2 x e
   exact⟨by omega,fun y hy=>by have:=this.2 y hy;omega⟩
  ·subst e
   have a:=h.at_ (f:=f)
   have b:=Ch (m:=m) (p:=W9 [] 0 ws) a.1 a.2
   have c:=IR ws [] 0
   have d:(W9 [] 0 ws).length<=1000:=by simp at c;omega
   exact⟨by have:=b.1;simp only;omega,fun y hy=>by have:=b.2 y hy;omega⟩
abbrev LT:=List (List A0×V)
def Cn(m:Int)(T:LT)(y:Az):LT:=if A6 y.2=[] then T else D3 T [.inl m, .inr y.1] (.int (A6 y.2).length)
def Cm(m:Int)(T:LT)(d:List Az):LT:=d.foldl (Cn m) T
def AD(T:LT)(ms:List Mk):LT:=ms.foldl (fun T x=>Cm x.1 T x.2) T
theorem Xg{m:Int}{T:LT}{d:List Az}{j:Nat}{y:Az}(h:d[j]? =some y):Cm m T (d.take (j+1))=Cn m (Cm m T (d.take j)) y:=by
 rw[x6,h]
 exact Gp ..
theorem Xf{T:LT}{ms:List Mk}{i:Nat}{x:Mk}(h:ms[i]? =some x):AD T (ms.take (i+1))=Cm x.1 (AD T (ms.take i)) x.2:=by
 rw[x6,h]
 exact Gp ..
def LV(T:LT)(m:Int)(f:Str):V:=(A9 T [.inl m, .inr f]).getD (.int 0)
def EM(d:List Az)(f:Str):Nat:=(A6 ((get d f).getD "")).length
theorem Dt:A6 ""=[]:=by decide+kernel
theorem Pb{m k:Int}{T:LT}{y:Az}{f:Str}(h:¬(k=m/\f=y.1)):LV (Cn m T y) k f=LV T k f:=by
 unfold Cn LV
 split
 ·rfl
 ·rw[Bb,if_neg (fun e=>h (by cases e;exact⟨rfl,rfl⟩))]
theorem Xh{m:Int}{T:LT}{y:Az}(h:LV T m y.1= .int 0):LV (Cn m T y) m y.1= .int (A6 y.2).length:=by
 unfold Cn
 split
 ·rename_i e;rw[h,e];rfl
 ·unfold LV;rw[Bb,if_pos rfl];rfl
theorem EX{m k:Int}{f:Str}:∀{d:List Az} {T:LT},(k=m->f∉d.map (·.1))->LV (Cm m T d) k f=LV T k f
 |[],T,_=>rfl
 |y::d,T,h=>by
  show LV (Cm m (Cn m T y) d) k f=_
  rw[EX (d:=d) fun e z=>h e (B1 _ z),Pb fun e=>h e.1 (by rw[e.2];exact A5)]
theorem Pa{m:Int}{f:Str}:∀{d:List Az} {T:LT},(d.map (·.1)).Nodup->LV T m f= .int 0->LV (Cm m T d) m f= .int (EM d f)
 |[],T,_,h=>by rw[show Cm m T []=T from rfl,h];unfold EM;rw[show (get ([]:List Az) f).getD ""="" from rfl,Dt];rfl
 |y::d,T,nd,h=>by
  rw[List.map_cons,O4] at nd
  show LV (Cm m (Cn m T y) d) m f=_
  by_cases e:y.1=f
  ·subst e
   rw[EX (d:=d) fun _=>nd.1,Xh h]
   unfold EM
   rw[KT.get,if_pos rfl]
   rfl
  ·rw[Pa nd.2 (by rw[Pb fun z=>e z.2.symm];exact h)]
   unfold EM
   rw[KT.get,if_neg e]
theorem Je{k:Int}{f:Str}:∀{ms:List Mk} {T:LT},k∉ms.map (·.1)->LV (AD T ms) k f=LV T k f
 |[],T,_=>rfl
 |x::ms,T,h=>by
  show LV (AD (Cm x.1 T x.2) ms) k f=_
  rw[Je (ms:=ms) fun z=>h (B1 _ z),EX fun e=>absurd (by rw[e];exact A5) h]
theorem EW{x:Mk}{f:Str}:∀{ms:List Mk} {T:LT},(ms.map (·.1)).Nodup->(x.2.map (·.1)).Nodup->x∈ms->LV T x.1 f= .int 0->LV (AD T ms) x.1 f= .int (EM x.2 f)
 |y::ms,T,nd,nx,hx,h=>by
  rw[List.map_cons,O4] at nd
  show LV (AD (Cm y.1 T y.2) ms) x.1 f=_
  rcases C8.mp hx with e|hx
  ·subst e
   rw[Je nd.1,Pa nx h]
  ·have:x.1≠y.1:=fun e=>nd.1 (by rw[<-e];exact n8.mpr ⟨x,hx,rfl⟩)
   exact EW nd.2 nx hx (by rw[EX fun e=>absurd e this];exact h)
theorem TN{m:Int}{T:LT}{y:Az}:(Cn m T y).length<=T.length+1:=by
 unfold Cn
 split
 ·omega
 ·exact K4 _ _ _
theorem U8:∀{d:List Az} {p:Str} {j:Nat},dw p j d=none->(∀y∈d,p.cps.toList<y.1.cps.toList)/\(d.map (·.1)).Nodup
 |[],p,j,_=>⟨fun y hy=>(by cases hy),Ai⟩
 |x::r,p,j,h=>by
  rw[dw] at h
  by_cases c:Hj p x.1=true
  ·rw[if_pos c] at h;cases h
  ·rw[if_neg c] at h
   obtain⟨h1,h2⟩:=U8 h
   have hp:p.cps.toList<x.1.cps.toList:=by
    unfold Hj at c
    rw[Bool.not_eq_true,Bool.or_eq_false_iff] at c
    have:=c.2
    rw[Bool.not_eq_false'] at this
    exact A2 this
   refine⟨fun y hy=> ?_,?_⟩
   ·rcases C8.mp hy with e|hy
    ·rw[e];exact hp
    ·exact List.lt_trans hp (h1 y hy)
   ·rw[List.map_cons,O4]
    refine⟨fun z=> ?_,h2⟩
    obtain⟨y,hy,e⟩:=n8.mp z
    have:=h1 y hy
    rw[e] at this
    exact List.lt_irrefl _ this
theorem P6:∀{ms:List Mk} {p:Int},mw p ms->(∀x∈ms,p<x.1)/\(ms.map (·.1)).Nodup
 |[],p,_=>⟨fun y hy=>(by cases hy),Ai⟩
 |x::r,p,h=>by
  obtain⟨h1,h2⟩:=P6 h.2.2
  refine⟨fun y hy=> ?_,?_⟩
  ·rcases C8.mp hy with e|hy
   ·rw[e];exact h.1
   ·have:=h1 y hy;have:=h.1;omega
  ·rw[List.map_cons,O4]
   refine⟨fun z=> ?_,h2⟩
   obtain⟨y,hy,e⟩:=n8.mp z
   have:=h1 y hy
   omega
def Mm(m:Int)(D:Wt Str):Prop:=∀y∈D,(y.2.map (·.1)).Pairwise (· < ·)/\∀q∈y.2,q.1<m
theorem Mm.mono{m n:Int}{D:Wt Str}(h:Mm m D)(e:m<=n):Mm n D:=fun y hy=>⟨(h y hy).1,fun q hq=>by have:=(h y hy).2 q hq;omega⟩
theorem Mm.free{m:Int}{D:Wt Str}(h:Mm m D):XV m D:=fun w r hr=>by
 cases e:get r m with
 |none=>rfl
 |some v=>
  have:=(h _ (D6 hr)).2 _ (D6 e)
  simp only at this
  omega
theorem HF{m:Int}:∀{p:Pl Str} {D:Wt Str},(p.map (·.1)).Nodup->Mm (m+1) D->(∀y∈D,y.1∈p.map (·.1)->∀q∈y.2,q.1<m)->Mm (m+1) (putAll m D p)
 |[],D,_,h,_=>h
 |x::p,D,nd,h,h'=>by
  rw[List.map_cons,O4] at nd
  refine HF (p:=p) (D:=R0 m D x) nd.2 (fun y hy=> ?_) (fun y hy hp=> ?_)
  ·rcases Q0 hy with e|e
   ·exact h y e
   ·subst e
    have key:((get D x.1).getD []).map (·.1) |>.Pairwise (· < ·):=by
     cases e:get D x.1 with
     |none=>exact List.Pairwise.nil
     |some r=>exact(h _ (D6 e)).1
    have key2:∀q∈(get D x.1).getD [],q.1<m:=by
     cases e:get D x.1 with
     |none=>intro q hq;cases hq
     |some r=>exact h' _ (D6 e) A5
    refine⟨?_,fun q hq=> ?_⟩
    ·show (((get D x.1).getD []++[(m,x.2)]).map (·.1)).Pairwise (· < ·)
     rw[n6,Af]
     refine⟨key,JX _ _,fun a ha b hb=> ?_⟩
     obtain⟨q,hq,rfl⟩:=n8.mp ha
     rw[x8.mp hb]
     exact key2 q hq
    ·rcases D8.mp hq with hq|hq
     ·have:=key2 q hq;omega
     ·rw[x8.mp hq];show m<m+1;omega
  ·rcases Q0 hy with e|e
   ·exact h' y e (B1 _ hp)
   ·subst e
    exact absurd hp nd.1
def DOk(m:Int)(d:List Az)(F:Fl):Prop:=∀x∈F,Mm (m+1) x.2/\(x.1∈d.map (·.1)->Mm m x.2)
theorem DOk.at_{m:Int}{d:List Az}{F:Fl}{y:Az}(h:DOk m (y::d) F):Mm m ((get F y.1).getD []):=by
 cases e:get F y.1 with
 |none=>intro y hy;cases hy
 |some D=>exact(h _ (D6 e)).2 A5
theorem DOk.step{m:Int}{d:List Az}{F:Fl}{y:Az}{ws:List Str}(h:DOk m (y::d) F)(nd:((y::d).map (·.1)).Nodup):DOk m d (Y9 m F y.1 ws):=by
 have hm:∀x∈F,Mm (m+1) x.2/\(x.1∈d.map (·.1)->Mm m x.2):=fun x hx=>⟨(h x hx).1,fun z=>(h x hx).2 (B1 _ z)⟩
 rw[List.map_cons,O4] at nd
 unfold Y9
 split
 ·exact hm
 ·intro x hx
  rcases Q0 hx with e|e
  ·exact hm x e
  ·subst e
   exact⟨HF (BO ws [] 0 Ai) (h.at_.mono (by omega)) fun y hy _=>(h.at_ y hy).2,fun z=>absurd z nd.1⟩
theorem Ff{m:Int}{d:List Az}{F:Fl}(h:∀x∈F,Mm m x.2)(nd:(d.map (·.1)).Nodup):∀j,j<=d.length->DOk m (d.drop j) (Y7 m F (d.take j))
 |0,_=>fun x hx=>⟨(h x hx).mono (by omega),fun _=>h x hx⟩
 |j+1,hj=>by
  have e:d[j]? =some d[j]:=E5 hj
  have ih:=Ff h nd j (by omega)
  rw[U2 hj] at ih
  rw[Jq e]
  refine ih.step ?_
  rw[<-U2 hj,JK]
  exact nd.sublist (Bs _ _)
theorem Ow:∀{ms:List Mk} {p:Int} {F:Fl} {i:Nat} {x:Mk},mw p ms->(∀y∈F,Mm (p+1) y.2)->ms[i]? =some x->∀y∈J8 F (ms.take i),Mm x.1 y.2
 |z::ms,p,F,0,x,h,hF,e=>by
  simp at e
  subst e
  exact fun y hy=>(hF y hy).mono (by have:=h.1;omega)
 |z::ms,p,F,i+1,x,h,hF,e=>by
  have nd:=(U8 h.2.1).2
  have:=Ff (m:=z.1) (d:=z.2) (F:=F) (fun y hy=>(hF y hy).mono (by have:=h.1;omega)) nd z.2.length (l8 _)
  rw[y8] at this
  exact Ow (ms:=ms) (F:=Y7 z.1 F z.2) (i:=i) h.2.2 (fun y hy=>(this y hy).1) (by simpa using e)
 |[],p,F,i,x,h,hF,e=>by simp at e
theorem Fn:∀{ms:List Mk} {p:Int} {F:Fl},mw p ms->(∀y∈F,Mm (p+1) y.2)->∃M,∀y∈J8 F ms,Mm M y.2
 |[],p,F,_,h=>⟨_,h⟩
 |z::ms,p,F,h,hF=>by
  have nd:=(U8 h.2.1).2
  have:=Ff (m:=z.1) (d:=z.2) (F:=F) (fun y hy=>(hF y hy).mono (by have:=h.1;omega)) nd z.2.length (l8 _)
  rw[y8] at this
  exact Fn (ms:=ms) (F:=Y7 z.1 F z.2) h.2.2 (fun y hy=>(this y hy).1)
def Bi(m:Int)(f:Str)(F:Fl)(i:Int):List Str->Fl
 |[]=>F
 |w::r=>Bi m f (KT.mod F f fun o=>GY m (o.getD []) w i) (i+1) r
theorem Lu{m:Int}{f:Str}:∀{ws:List Str} {i:Int} {F:Fl} {g:Option (Wt Str)->Wt Str},Bi m f (KT.mod F f g) i ws=KT.mod F f fun o=>WW m (g o) i ws
 |[],i,F,g=>rfl
 |w::r,i,F,g=>by rw[Bi,M7,Lu (ws:=r)];rfl
theorem HI{m:Int}{f:Str}{F:Fl}(hf:XV m ((get F f).getD []))(ws:List Str):Bi m f F 0 ws=Y9 m F f ws:=by
 unfold Y9
 cases ws with
 |nil=>rfl
 |cons w r=>
  rw[if_neg (by intro z;cases z),Bi,Lu]
  apply B8
  exact Ls hf (w::r) [] 0 Ai
theorem HH{m:Int}{f:Str}{w:Str}:∀{ws:List Str} {i:Int} {F:Fl},Bi m f F i (ws++[w])=KT.mod (Bi m f F i ws) f fun o=>GY m (o.getD []) w (i+ws.length)
 |[],i,F=>by simp [Bi]
 |x::ws,i,F=>by
  rw[List.cons_append,Bi,Bi,HH (ws:=ws),List.length_cons]
  congr 1
  funext o
  congr 1
  omega
def nw(G H:Hp):Hp:=fun a=>if G a=none then H a else none
theorem Z7{G H:Hp}{a:Addr}{u:HO}(h:H a=some u)(g:G a=none):nw G H a=some u:=by unfold nw;rw[if_pos g];exact h
theorem Z6{G H:Hp}:i6 (nw G H) H:=fun a u h=>by
 unfold nw at h
 by_cases g:G a=none
 ·rw[if_pos g] at h;exact h
 ·rw[if_neg g] at h;cases h
theorem IZ{G H:Hp}{a:Addr}(g:G a≠none):nw G H a=none:=by unfold nw;rw[if_neg g]
theorem TAt.away{R:Hp->HO->Rw->Prop}{G H:Hp}{b:Addr}{da:Str->Addr}{ra:Str->Str->Addr}{pa:Ay}{F:Fl}(t:TAt R G H b da ra pa F):TAt R (fun _=>none) (nw G H) b da ra pa F:=by
 have on:∀{a q},pa a=some q->G a=none:=fun h=>(t.own _ (by rw[h];intro z;cases z)).1
 have eh:CF (fun _=>none) pa (nw G H)=CF G pa H:=by
  funext a
  unfold CF nw
  by_cases h1:G a=none<;>by_cases h2:pa a=none<;>simp [h1,h2]
 refine⟨fun a u h=>(by cases h),fun a ha=>⟨rfl,fun e=> ?_⟩,⟨Z7 t.top.1 (on t.top.2),t.top.2⟩,fun f D h=>⟨Z7 (t.fld f D h).1 (on (t.fld f D h).2),(t.fld f D h).2⟩,fun f D w r h h'=> ?_⟩
 ·cases hh:H a with
  |none=>exact(t.own a ha).2 hh
  |some u=>rw[Z7 hh (t.own a ha).1] at e;cases e
 ·obtain⟨⟨o,h1,h2⟩,h3⟩:=t.row f D w r h h'
  exact⟨⟨o,Z7 h1 (on h3),by rw[eh];exact h2⟩,h3⟩
structure FE(F F':Fl):Prop where
 kf:(F.map (·.1)).Perm (F'.map (·.1))
 kw:∀f,(((get F f).getD []).map (·.1)).Perm (((get F' f).getD []).map (·.1))
 row:∀f w,(get ((get F f).getD []) w).getD []=(get ((get F' f).getD []) w).getD []
theorem FE.refl(F:Fl):FE F F:=⟨.refl _,fun _=> .refl _,fun _ _=>rfl⟩
def BU:List Str:=["","",""]
def YE(N B om:Addr):List (Str×V):=G0 "lengths" (.ref N) (G0 "by_field" (.ref B) (G0 "own_makes" (.ref om) []))
def W4(C:Addr)(M:Hp)(x:Addr)(ms:List Mk):Prop:=∃(dx om B N:Addr) (da:Str->Addr) (ra:Str->Str->Addr) (pa:Ay) (F:Fl) (T:LT),M x=some (.ins C dx (YE N B om))/\M om=some (.lst (ms.map fun m=> .int m.1))/\TAt Rp (fun _=>none) M B da ra pa F/\M N=some (.dT T)/\FE F (J8 [] ms)/\∀m f,LV T m f=LV (AD [] ms) m f
theorem W4.same{C x:Addr}{M L:Hp}{ms:List Mk}(h:W4 C M x ms)(s:i6 M L):W4 C L x ms:=by
 obtain⟨dx,om,B,N,da,ra,pa,F,T,h1,h2,h3,h4,h5⟩:=h
 exact⟨dx,om,B,N,da,ra,pa,F,T,s _ _ h1,s _ _ h2,h3.same Aw s,s _ _ h4,h5⟩
def Z8(ms:List Mk):Prop:=ms.length<=20/\∀m∈ms,m.2.length<=20/\∀y∈m.2,y.1.length<=1000/\y.2.length<=500/\Fi y.2
def AB(C:Addr):Sp:=fun vs H Q _=>∃(G:Hp) (x dx a:Addr) (ms:List Mk) (xs:List V),vs=[.ref x, .ref a]/\i6 G H/\G x=none/\H x=some (.ins C dx [])/\G a=some (.lst xs)/\c8 G (ms.map EL) xs/\Z8 ms/\mw (-1) ms/\∀M H',W4 C M x ms->i6 M H'->(∀a,G a≠none->M a=none)->i6 G H'->Q .non H'
def II{C:Addr}{v0:Addr}{v1:Addr}{H:Hp}{Q:VK}{E:XK}:=show AB C [.ref v0, .ref v1] H Q E=_ by
 simpa only[AB]
 rfl
def PI(G:Hp)(x om B N C dx:Addr)(ms:List Mk)(F:Fl)(T:LT)(L:Hp):Prop:=∃(da:Str->Addr) (ra:Str->Str->Addr) (pa:Ay),TAt Rp G L B da ra pa F/\pa N=some BU/\L N=some (.dT T)/\L x=some (.ins C dx (YE N B om))/\pa x=none/\L om=some (.lst (ms.map fun m=> .int m.1))/\pa om=none
theorem PI.same{G:Hp}{x om B N C dx:Addr}{ms:List Mk}{F:Fl}{T:LT}{L M:Hp}(h:PI G x om B N C dx ms F T L)(s:i6 L M):PI G x om B N C dx ms F T M:=by
 obtain⟨da,ra,pa,h1,h2,h3,h4,h5,h6,h7⟩:=h
 exact⟨da,ra,pa,h1.same Aw s,h2,s _ _ h3,s _ _ h4,h5,s _ _ h6,h7⟩
theorem PI.base{G:Hp}{x om B N C dx:Addr}{ms:List Mk}{F:Fl}{T:LT}{L:Hp}(h:PI G x om B N C dx ms F T L):i6 G L:=by
 obtain⟨da,ra,pa,h1,_⟩:=h
 exact h1.base
theorem DC:FnScope ["self","makes","make","document","field","text","words"] ["self","makes"] (i3 OL):=by ac_rfl
def Qbb(ms:List Mk)(L0:Hp)(i:Nat)(ys:List V)(σ:St)(L:Hp):Prop:=∃v0 v1:Option V,σ=[v0,v1]/\L=L0/\ys=(ms.take i).map fun m=> .int m.1
def QcJ(G:Hp)(x om B N C dx a:Addr)(ms:List Mk)(i:Nat)(σ:St)(L:Hp):Prop:=∃v2 v3 v4 v5 v6:Option V,σ=[some (.ref x),some (.ref a),v2,v3,v4,v5,v6]/\PI G x om B N C dx ms (J8 [] (ms.take i)) (AD [] (ms.take i)) L/\Sz (20*i*1000) (J8 [] (ms.take i))/\(AD [] (ms.take i)).length<=20*i
def Qcj(G:Hp)(x om B N C dx a:Addr)(ms:List Mk)(m:Mk)(d:V)(i j:Nat)(σ:St)(L:Hp):Prop:=∃v4 v5 v6:Option V,σ=[some (.ref x),some (.ref a),some (.int m.1),some d,v4,v5,v6]/\PI G x om B N C dx ms (Y7 m.1 (J8 [] (ms.take i)) (m.2.take j)) (Cm m.1 (AD [] (ms.take i)) (m.2.take j)) L/\Sz ((20*i+j)*1000) (Y7 m.1 (J8 [] (ms.take i)) (m.2.take j))/\(Cm m.1 (AD [] (ms.take i)) (m.2.take j)).length<=20*i+j
theorem WS{C gm gw ga:Addr}{dm dw da:FuncData}(F:Fun K "__init__" "Piece.__init__" OL f fd)(T:Txt mg)(cl:Cls K C)(n1:N8 K C "own_makes")(n2:N8 K C "by_field")(n3:N8 K C "lengths")
  (GM:FnOk P w K mg bs0 D7 4 gm dm ["makes"] CL)(bM:Binds K dm ["makes"] [])(kM:PySem.W.keepIn K (.ref gm)=true)(mM:mg "look_at_makes"=some (.ref gm))
  (GW:FnOk P w K mg bs0 D7 5 gw dw ["text"] Q3)(bW:Binds K dw ["text"] [])(kW:PySem.W.keepIn K (.ref gw)=true)(mW:mg "bare_words"=some (.ref gw))
  (GA:FnOk P w K mg bs0 D7 2 ga da ["by_word","make","words"] Yr)(bA:Binds K da ["by_word","make","words"] [])(kA:PySem.W.keepIn K (.ref ga)=true)(mA:mg "add_postings"=some (.ref ga)):FnOk P w K mg bs0 D7 6 f fd ["self","makes"] (AB C):=by
 refine F.ok DC (fun vs H Q E h=> ?_) (fun E6 A outer s H vs Q E hr h=> ?_)
 ·obtain⟨G,x,dx,a,ms,xs,rfl,_⟩:=h
  rfl
 obtain⟨G,x,dx,a,ms,xs,rfl,sG,gx,hx,ga',hD,⟨hl,CG⟩,V0,q⟩:=h
 have hr2:Room 2 _:=hr.mono (by decide)
 have hr4:Room 4 _:=hr.mono (by decide)
 refine⟨_,(e7 (D4 (j7 GM hr4 rfl mM kM bM .nil k9 (c5 (i9 1) e6)))
  (e7 (DF (i9 0) (J5 (N:=["make","document"]) (pick:=[none,none]) (NX:=["self","makes","make","document","field","text","words"]) (sX:=i3 OL) (by decide+kernel) rfl rfl rfl (l6 K (i9 1))
    (fun _ _ _ _=>(GV K (n:=2) rfl (j9 (i5 (i:=0) Qb1 rfl (Or.inl rfl)) (j9 (i5 (i:=1) Qb1 rfl (Or.inl rfl)) C4)))) (fun _ _ _ _=>G6) (fun _ _ _ _=>(i9 0))) rfl)
  (e7 (DF (i9 0) C5 rfl)
  (e7 (DF (i9 0) Lq rfl)
  (h8 (y7 B3 rfl (l6 K (i9 1)) (GV K (n:=2) rfl (j9 (i5 (i:=2) DC.nd rfl (Or.inl rfl)) (j9 (i5 (i:=3) DC.nd rfl (Or.inl rfl)) C4)))
   (h8 (y7 B3 rfl (l6 K (i9 3)) (GV K (n:=2) rfl (j9 (i5 (i:=4) DC.nd rfl (Or.inl rfl)) (j9 (i5 (i:=5) DC.nd rfl (Or.inl rfl)) C4)))
   (e7 (k8 (i:=6) DC.nd rfl (Or.inl rfl) (j7 GW hr rfl mW kW bW .nil k9 (c5 (i9 5) e6)))
  (h8 (G9 (FC (i9 6) (fun _=>rfl)) (e7 (U4 (E3 hr) (Ci (i9 0) rfl) (X0 (c5 (i9 2) (c5 (i9 4) e6))) (n9 (Nd K) rfl T.len Y0 (c5 (i9 6) e6)) rfl)
  (h8 (D4 (j7 GA hr2 rfl mA kA bA .nil k9 (c5 (Bh (Ci (i9 0) rfl) (i9 4) C5 ⟨rfl,rfl,rfl,rfl⟩) (c5 (i9 2) (c5 (i9 6) e6))))))) A3))))))))))),?_⟩
 and_intros
 simpa only[↓Sx,CL,↓KI,↓Qan,↓AN,↓MF,↓K9,↓Dv]
 refine⟨ms,xs,sG _ _ ga',c8.same sG _ _ hD,by omega,fun m hm=>⟨by have:=(CG m hm).1;omega,fun y hy=>((CG m hm).2 y hy).1⟩,V0,?_⟩
 intro H1 s1
 have sG1:=sG.trans s1
 have ha1:=sG1 _ _ ga'
 have hx1:=s1 _ _ hx
 have hD1:=c8.same sG1 _ _ hD
 have Fa:xs.length=ms.length:=by have:=hD.length;rwa [i4] at this
 refine⟨⟨xs,l7.of ha1⟩,C0 xs (Qbb ms H1) ⟨none,none,rfl,rfl,rfl⟩ ?_ ?_ ?_⟩
 ·rintro i ys σ L hi ⟨v0,v1,rfl,rfl,rfl⟩
  exact⟨l7.of ha1,EI (N9 (by rw[i4,A4];omega))⟩
 ·rintro i y ys σ L hy ⟨v0,v1,rfl,rfl,rfl⟩
  obtain⟨dv,h1,h2⟩:=hD1.get hy
  rw[u8] at h1
  obtain⟨m,hm,rfl⟩:=o7.mp h1
  obtain⟨b,c,zs,rfl,hb,hc,hz⟩:=Ad h2
  simpa only[o9]
  refine⟨_,W3.of hb,rfl,?_⟩
  simpa only[o9]
  exact⟨_,_,rfl,rfl,by rw[x6,hm,n6];rfl⟩
 ·rintro ys σ L ⟨v0,v1,rfl,rfl,rfl⟩ om VV
  rw[Fa,y8]
  have hx2:=w9 (o:= .lst (ms.map fun m=> .int m.1)) hx1 VV
  refine⟨C,dx,[],hx2,cl,n1,by decide,fun B hB=> ?_⟩
  have gom:G om=none:=sG1.free VV
  have nom:om≠x:=fun z=>by rw[z,hx1] at VV;cases VV
  have s3:i6 G (i8 (i8 L om (.lst (ms.map fun m=> .int m.1))) x (.ins C dx (G0 "own_makes" (.ref om) []))):=(sG1.trans (c7 VV _)).newer gx _
  have hom3:(i8 (i8 L om (.lst (ms.map fun m=> .int m.1))) x (.ins C dx (G0 "own_makes" (.ref om) []))) om=some (.lst (ms.map fun m=> .int m.1)):=by rw[g9 nom];exact c6
  have hx3:(i8 (i8 L om (.lst (ms.map fun m=> .int m.1))) x (.ins C dx (G0 "own_makes" (.ref om) []))) x=_:=c6
  generalize i8 (i8 L om (.lst (ms.map fun m=> .int m.1))) x (.ins C dx (G0 "own_makes" (.ref om) []))=M1 at hB s3 hom3 hx3⊢
  have gB:G B=none:=s3.free hB
  have nB:B≠x:=fun z=>by rw[z,hx3] at hB;cases hB
  have nBo:B≠om:=fun z=>by rw[z,hom3] at hB;cases hB
  refine⟨C,dx,_,w9 hx3 hB,cl,n2,(by show 1<1000;decide),fun N hN=> ?_⟩
  have s5:=(s3.trans (c7 hB (.dK []))).newer gx (.ins C dx (G0 "by_field" (.ref B) (G0 "own_makes" (.ref om) [])))
  have hB5:(i8 (i8 M1 B (.dK [])) x (.ins C dx (G0 "by_field" (.ref B) (G0 "own_makes" (.ref om) [])))) B=some (.dK []):=by rw[g9 nB];exact c6
  have hx5:(i8 (i8 M1 B (.dK [])) x (.ins C dx (G0 "by_field" (.ref B) (G0 "own_makes" (.ref om) [])))) x=_:=c6
  have hom5:(i8 (i8 M1 B (.dK [])) x (.ins C dx (G0 "by_field" (.ref B) (G0 "own_makes" (.ref om) [])))) om=_:=(g9 nom).trans (w9 hom3 hB)
  generalize i8 (i8 M1 B (.dK [])) x (.ins C dx (G0 "by_field" (.ref B) (G0 "own_makes" (.ref om) [])))=M2 at hN s5 hB5 hx5 hom5⊢
  have gN:G N=none:=s5.free hN
  have nN:N≠x:=fun z=>by rw[z,hx5] at hN;cases hN
  have nBN:B≠N:=fun z=>by rw[<-z,hB5] at hN;cases hN
  have nNo:N≠om:=fun z=>by rw[z,hom5] at hN;cases hN
  refine⟨C,dx,_,w9 hx5 hN,cl,n3,(by show 2<1000;decide),?_⟩
  have p0:PI G x om B N C dx ms [] [] (i8 (i8 M2 N (.dT [])) x (.ins C dx (G0 "lengths" (.ref N) (G0 "by_field" (.ref B) (G0 "own_makes" (.ref om) []))))):=by
   have z1:(i8 (i8 M2 N (.dT [])) x (.ins C dx (G0 "lengths" (.ref N) (G0 "by_field" (.ref B) (G0 "own_makes" (.ref om) []))))) B=some (.dK []):=by rw[g9 nB];exact w9 hB5 hN
   have z2:(i8 (i8 M2 N (.dT [])) x (.ins C dx (G0 "lengths" (.ref N) (G0 "by_field" (.ref B) (G0 "own_makes" (.ref om) []))))) N=some (.dT []):=by rw[g9 nN];exact c6
   refine⟨fun _=>0,fun _ _=>0,W6 (W6 (fun _=>none) B (some [])) N (some BU),⟨(s5.trans (c7 hN (.dT []))).newer gx _,fun a ha=> ?_,⟨z1,by rw[B2 nBN,E4]⟩,fun f D h=>(by cases h),fun f D w r h=>(by cases h)⟩,E4,z2,c6,by rw[B2 nN.symm,B2 nB.symm],by rw[g9 nom];exact w9 hom5 hN,by rw[B2 nNo.symm,B2 nBo.symm]⟩
   by_cases e1:a=N
   ·exact⟨by rw[e1];exact gN,by rw[e1,z2];intro z;cases z⟩
   ·rw[B2 e1] at ha
    by_cases e2:a=B
    ·exact⟨by rw[e2];exact gB,by rw[e2,z1];intro z;cases z⟩
    ·rw[B2 e2] at ha
     exact absurd rfl ha
  have lB:(YE N B om).lookup ("by_field":Str)=some (V.ref B):=rfl
  have lN:(YE N B om).lookup ("lengths":Str)=some (V.ref N):=rfl
  generalize i8 (i8 M2 N (.dT [])) x (.ins C dx (G0 "lengths" (.ref N) (G0 "by_field" (.ref B) (G0 "own_makes" (.ref om) []))))=M0 at p0⊢
  refine⟨⟨xs,l7.of (p0.base _ _ ga')⟩,w4 xs (QcJ G x om B N C dx a ms) ⟨_,_,_,_,_,rfl,p0,⟨o8 _,fun x hx=>(by cases hx)⟩,o8 _⟩ ?_ ?_ ?_⟩
  ·rintro i σ L hi ⟨v2,v3,v4,v5,v6,rfl,pi,_⟩
   exact l7.of (pi.base _ _ ga')
  ·rintro i y σ L hy ⟨v2,v3,v4,v5,v6,rfl,pi,hsz,hts⟩
   obtain⟨dv,h1,h2⟩:=hD.get hy
   rw[u8] at h1
   obtain⟨m,hm,rfl⟩:=o7.mp h1
   obtain⟨b,c,zs,rfl,hb,hc,hz⟩:=Ad h2
   have EK:m∈ms:=E8 hm
   have EB:i<ms.length:=(u4.mp hm).1
   simpa only[↓Z2,Q3]
   refine⟨_,W3.of (pi.base _ _ hb),rfl,?_⟩
   simpa only[↓Z2,Q3]
   refine⟨⟨zs,l7.of (pi.base _ _ hc)⟩,w4 zs (Qcj G x om B N C dx a ms m (.ref c) i) ⟨_,_,_,rfl,pi,hsz,hts⟩ ?_ ?_ ?_⟩
   ·rintro j σ L hj ⟨v4,v5,v6,rfl,pj,_⟩
    exact l7.of (pj.base _ _ hc)
   ·rintro j y σ L hyj ⟨v4,v5,v6,rfl,pj,Db,htj⟩
    obtain⟨dv,h1,h2⟩:=hz.get hyj
    rw[u8] at h1
    obtain⟨fl,Xy,rfl⟩:=o7.mp h1
    obtain⟨t,rfl,ht⟩:=FV h2
    have hfm:fl∈m.2:=E8 Xy
    have VW:j<m.2.length:=(u4.mp Xy).1
    obtain⟨b1,b2,b3⟩:=(CG m EK).2 fl hfm
    simpa only[↓Z2,Q3]
    refine⟨_,W3.of (pj.base _ _ ht),rfl,?_⟩
    simpa only[↓Z2,Q3]
    refine⟨by omega,b3,fun r H' s' hr' hH'=> ?_⟩
    have hm20:=(CG m EK).1
    have Nk:=T7 b2
    have eF:=Jq (m:=m.1) (F:=J8 [] (ms.take i)) Xy
    have eT:=Xg (m:=m.1) (T:=AD [] (ms.take i)) Xy
    have Nm:=Fh (m:=m.1) (f:=fl.1) Db Nk
    have Nl:(Cn m.1 (Cm m.1 (AD [] (ms.take i)) (m.2.take j)) fl).length<=20*i+(j+1):=E7 TN (by omega)
    unfold Qcj
    rw[eF,eT]
    have e20:(20*i+j)*1000+1000=(20*i+(j+1))*1000:=by omega
    rw[e20] at Nm
    generalize Y7 m.1 (J8 [] (ms.take i)) (m.2.take j)=F0 at pj Db Nm⊢
    generalize Cm m.1 (AD [] (ms.take i)) (m.2.take j)=T0 at pj htj Nl⊢
    generalize hws:A6 fl.2=ws at hH' Nk Nm
    refine⟨!(ws.map V.str).isEmpty, .inl ⟨_,l7.of hH',rfl⟩,?_⟩
    cases hwe:(!(ws.map V.str).isEmpty) with
    |false=>
     have w0:ws=[]:=by
      cases ws with
      |nil=>rfl
      |cons _ _=>cases hwe
     have e1:Y9 m.1 F0 fl.1 ws=F0:=by unfold Y9;rw[if_pos w0]
     have e2:Cn m.1 T0 fl=T0:=by unfold Cn;rw[hws,if_pos w0]
     rw[e1] at Nm⊢
     rw[e2] at Nl⊢
     exact⟨_,_,_,rfl,pj.same s',Nm,Nl⟩
    |true=>
     have w0:ws≠[]:=by
      intro z
      rw[z] at hwe
      cases hwe
     rw[if_pos rfl]
     simpa only[↓AN,↓KI,↓Dv,↓K9]
     have szl:=B9
     have gr:G r=none:=pj.base.free hr'
     obtain⟨da,ra,pa,hT0,hNp,hN0,hx0,hxp,ho0,hop⟩:=pj
     have hrp:pa r=none:=G2 fun e=>(hT0.own r e).2 hr'
     have hT:=hT0.same Aw s'
     have hN2:=s' _ _ hN0
     have hx2:=s' _ _ hx0
     have ho2:=s' _ _ ho0
     refine⟨ws.map V.str, .inl (l7.of hH'),C,dx,YE N B om,hx2,cl,n3, .ref N,lN,by decide,fun T hT'=> ?_⟩
     have sT:=c7 hT' (.tup [.int m.1, .str fl.1])
     have hpt:=K4 T0 [.inl m.1, .inr fl.1] (V.int (ws.map V.str).length)
     refine⟨N,rfl,_,BG.t (k:=[.inl m.1, .inr fl.1]) (sT _ _ hN2) c6 (by omega),?_⟩
     have nxN:x≠N:=Ex hx2 hN2 (by intro z;cases z)
     have noN:om≠N:=Ex ho2 hN2 (by intro z;cases z)
     have nrN:r≠N:=Ex hH' hN2 (by intro z;cases z)
     have t1:=(hT.same Aw sT).out (o:= .dT (D3 T0 [.inl m.1, .inr fl.1] (V.int (ws.map V.str).length))) hNp (by show 2<3;decide)
     have hxM:(i8 (i8 H' T (.tup [.int m.1, .str fl.1])) N (.dT (D3 T0 [.inl m.1, .inr fl.1] (V.int (ws.map V.str).length)))) x=_:=(g9 nxN).trans (sT _ _ hx2)
     have hoM:(i8 (i8 H' T (.tup [.int m.1, .str fl.1])) N (.dT (D3 T0 [.inl m.1, .inr fl.1] (V.int (ws.map V.str).length)))) om=_:=(g9 noN).trans (sT _ _ ho2)
     have hrM:(i8 (i8 H' T (.tup [.int m.1, .str fl.1])) N (.dT (D3 T0 [.inl m.1, .inr fl.1] (V.int (ws.map V.str).length)))) r=_:=(g9 nrN).trans (sT _ _ hH')
     have hNM:(i8 (i8 H' T (.tup [.int m.1, .str fl.1])) N (.dT (D3 T0 [.inl m.1, .inr fl.1] (V.int (ws.map V.str).length)))) N=_:=c6
     have e2:Cn m.1 T0 fl=D3 T0 [.inl m.1, .inr fl.1] (V.int (ws.map V.str).length):=by unfold Cn;rw[hws,if_neg w0,i4]
     rw[e2] at Nl⊢
     generalize i8 (i8 H' T (.tup [.int m.1, .str fl.1])) N (.dT (D3 T0 [.inl m.1, .inr fl.1] (V.int (ws.map V.str).length)))=M at t1 hxM hoM hrM hNM⊢
     generalize D3 T0 [.inl m.1, .inr fl.1] (V.int (ws.map V.str).length)=T1 at hNM Nl⊢
     have hsF:=Db.at_ (f:=fl.1)
     refine⟨C,dx,YE N B om,hxM,cl,n2, .ref B,lB,B,rfl, .inl ⟨_, .inl t1.top.1⟩,fun p hp=> ?_⟩
     have sp:=c7 hp (.dK [])
     refine⟨_,sp _ _ t1.top.1, .inr fl.1,rfl,by rw[Q4];have:=Db.1;omega,fun v hv=> ?_,fun Zg=> ?_⟩
     ·rw[B6] at hv
      obtain⟨D,hD1,rfl⟩:=o7.mp hv
      rw[hD1] at hsF
      refine⟨G,B,da,ra,pa,F0,fl.1,D,(20*i+j)*1000,m.1,r,ws,rfl,t1.same Aw sp,hD1,hsF.1,hsF.2,by omega,sp _ _ hrM,Nk,fun V3 G8 L' t' fr=> ?_⟩
      obtain⟨y1,y2⟩:=fr.at_ (sp _ _ hxM) gx hxp
      obtain⟨y3,y4⟩:=fr.at_ (sp _ _ hoM) gom hop
      obtain⟨y5,y6⟩:=fr.far N _ hNp (by show 2<3;decide)
      have e3:Y9 m.1 F0 fl.1 ws=KT.mod F0 fl.1 fun _=>putAll m.1 D (W9 [] 0 ws):=by unfold Y9;rw[if_neg w0];exact B8 (by rw[hD1];rfl)
      exact⟨⟨da,V3,G8,by rw[e3];exact t',y6,y5.trans (sp _ _ hNM),y1,y2,y3,y4⟩,Nm,Nl⟩
     ·rw[B6] at Zg
      have FL:get F0 fl.1=none:=JL.mp Zg
      have el:=P2 (kvs:=O0 da F0) (k:=(.inr fl.1:A0)) (V.ref p) (by rw[B6,FL];rfl)
      have ta:=t1.addF (p:=p) Aw FL hp
      have nBp:B≠p:=j4 t1.top.1 hp
      have fa:Fr G pa M (W6 pa p (some [fl.1])) (i8 (i8 M p (.dK [])) B (.dK (O0 da F0++[(.inr fl.1, .ref p)]))):=(Fr.new hp fun a ha=>(t1.own a ha).2).trans (Fr.own (q:=[]) (by rw[B2 nBp];exact t1.top.2) (by decide))
      rw[el]
      generalize i8 (i8 M p (.dK [])) B (.dK (O0 da F0++[(.inr fl.1, .ref p)]))=M2 at ta fa⊢
      have hg2:get (F0++[(fl.1,([]:Wt Str))]) fl.1=some []:=by rw[<-J7 FL (fun _=>[]),x9]
      obtain⟨z1,z2⟩:=fa.at_ hxM gx hxp
      obtain⟨z3,z4⟩:=fa.at_ hoM gom hop
      obtain⟨z5,z6⟩:=fa.far N _ hNp (by show 2<3;decide)
      refine⟨G,B,W6 da fl.1 p,ra,W6 pa p (some [fl.1]),F0++[(fl.1,[])],fl.1,[],0,m.1,r,ws,by rw[E4],ta,hg2,l8 _,fun x hx=>(by cases hx),by omega,(fa.at_ hrM gr hrp).1,Nk,fun V3 G8 L' t' fr=> ?_⟩
      obtain⟨y1,y2⟩:=fr.at_ z1 gx z2
      obtain⟨y3,y4⟩:=fr.at_ z3 gom z4
      obtain⟨y5,y6⟩:=fr.far N _ z6 (by show 2<3;decide)
      have e3:Y9 m.1 F0 fl.1 ws=KT.mod (F0++[(fl.1,[])]) fl.1 fun _=>putAll m.1 [] (W9 [] 0 ws):=by
       unfold Y9
       rw[if_neg w0,<-J7 FL (fun _=>[]),M7]
       exact B8 (by rw[FL];rfl)
      exact⟨⟨W6 da fl.1 p,V3,G8,by rw[e3];exact t',y6,y5.trans (z5.trans hNM),y1,y2,y3,y4⟩,Nm,Nl⟩
   ·rintro σ L ⟨v4,v5,v6,rfl,pj,Db,htj⟩
    have Pk:zs.length=m.2.length:=by have:=hz.length;rwa [i4] at this
    rw[Pk,y8] at pj Db htj
    have:=(CG m EK).1
    have e1:=Ox (F:=[]) hm
    have e2:=Xf (T:=[]) hm
    exact⟨_,_,_,_,_,rfl,by rw[e1,e2];exact pj,by rw[e1];exact Db.mono (by omega),by rw[e2];omega⟩
  ·rintro σ L ⟨v2,v3,v4,v5,v6,rfl,pi,_⟩
   rw[Fa,y8] at pi
   have sb:=pi.base
   obtain⟨da,ra,pa,h1,h2,h3,h4,h5,h6,h7⟩:=pi
   exact q (nw G L) L ⟨dx,om,B,N,da,ra,pa,_,_,Z7 h4 gx,Z7 h6 gom,h1.away,Z7 h3 gN,FE.refl _,fun _ _=>rfl⟩ Z6 (fun a ha=>IZ ha) sb
def Z0(ms:List Mk)(fl:Str):Wt Str:=(get (J8 [] ms) fl).getD []
def u0(ms:List Mk)(fl wd:Str):Rw:=(get (Z0 ms fl) wd).getD []
def Dx(C:Addr):Sp:=fun vs H Q _=>∃(x:Addr) (ms:List Mk),vs=[.ref x]/\W4 C H x ms/\∀r H',i6 H H'->H r=none->H' r=some (.lst (ms.map fun m=> .int m.1))->Q (.ref r) H'
def KS{C:Addr}{v0:Addr}{H:Hp}{Q:VK}{E:XK}:=show Dx C [.ref v0] H Q E=_ by
 simpa only[Dx]
 rfl
def IG(C:Addr):Sp:=fun vs H Q _=>∃(x:Addr) (ms:List Mk),vs=[.ref x]/\W4 C H x ms/\(J8 [] ms).length<=1000000/\∀r ys H',i6 H H'->H r=none->ys.Perm ((J8 [] ms).map (·.1))->PyProof.Rows.sortedS ys=true->H' r=some (.lst (ys.map V.str))->Q (.ref r) H'
def Sw{C:Addr}{v0:Addr}{H:Hp}{Q:VK}{E:XK}:=show IG C [.ref v0] H Q E=_ by
 simpa only[IG]
 rfl
def IE(C:Addr):Sp:=fun vs H Q _=>∃(x:Addr) (fl:Str) (ms:List Mk),vs=[.ref x, .str fl]/\W4 C H x ms/\(Z0 ms fl).length<=1000000/\∀r ys H',i6 H H'->H r=none->ys.Perm ((Z0 ms fl).map (·.1))->PyProof.Rows.sortedS ys=true->H' r=some (.lst (ys.map V.str))->Q (.ref r) H'
def Su{C:Addr}{v0:Addr}{v1:Str}{H:Hp}{Q:VK}{E:XK}:=show IE C [.ref v0, .str v1] H Q E=_ by
 simpa only[IE]
 rfl
def IF(C:Addr):Sp:=fun vs H Q _=>∃(x:Addr) (fl wd:Str) (ms:List Mk),vs=[.ref x, .str fl, .str wd]/\W4 C H x ms/\(u0 ms fl wd).length<=1000000/\∀r xs H',i6 H H'->H r=none->H' r=some (.lst xs)->c8 (X6 r (nw H H')) ((u0 ms fl wd).map Fe) xs->Q (.ref r) H'
def Sv{C:Addr}{v0:Addr}{v1:Str}{v2:Str}{H:Hp}{Q:VK}{E:XK}:=show IF C [.ref v0, .str v1, .str v2] H Q E=_ by
 simpa only[IF]
 rfl
def MK(C:Addr):Sp:=fun vs H Q _=>∃(x:Addr) (m:Int) (fl:Str) (ms:List Mk),vs=[.ref x, .int m, .str fl]/\W4 C H x ms/\∀H',i6 H H'->Q (LV (AD [] ms) m fl) H'
def Yq{C:Addr}{v0:Addr}{v1:Int}{v2:Str}{H:Hp}{Q:VK}{E:XK}:=show MK C [.ref v0, .int v1, .str v2] H Q E=_ by
 simpa only[MK]
 rfl
theorem Aq{α:Type}{da:Str->Addr}{F:List (Str×α)}:(O0 da F).map (·.1)=(F.map (·.1)).map Sum.inr:=by
 unfold O0
 rw[N7,N7]
 rfl
theorem DN{H:Hp}{x:Int×List Int}{v:V}(h:k7 H (Fe x) v):∃a b,v= .ref a/\H a=some (.tup [.int x.1, .ref b])/\H b=some (.lst (x.2.map V.int)):=by
 rw[Fe,k7] at h
 obtain⟨a,us,rfl,ha,Am⟩:=h
 rw[c8] at Am
 obtain⟨y,ys,rfl,hy,Am⟩:=Am
 rw[c8] at Am
 obtain⟨y2,ys2,rfl,hy2,Am⟩:=Am
 rw[c8] at Am
 rw[k7] at hy
 rw[k7] at hy2
 obtain⟨b,xs,rfl,hb,VU⟩:=hy2
 have key:∀{ns:List Int} {xs:List V},c8 H (ns.map DV.int) xs->xs=ns.map V.int:=by
  intro ns
  induction ns with
  |nil=>intro xs h;rw[List.map_nil,c8] at h;exact h
  |cons n ns ih=>
   intro xs h
   rw[List.map_cons,c8] at h
   obtain⟨z,zs,rfl,hz,Pj⟩:=h
   rw[k7] at hz
   rw[hz,ih Pj,List.map_cons]
 exact⟨a,b,rfl,by rw[ha,hy,Am],by rw[hb,key VU]⟩
theorem Nv{H:Hp}{p l:Addr}{m:Int}{ps:List Int}(hp:H p=some (.tup [.int m, .ref l]))(hl:H l=some (.lst (ps.map V.int))):k7 H (Fe (m,ps)) (.ref p):=by
 unfold Fe
 rw[k7]
 refine⟨p,_,rfl,hp,?_⟩
 rw[c8]
 refine⟨_,_,rfl,by rw[k7],c8.one ?_⟩
 rw[k7]
 exact⟨l,_,rfl,hl,c8.ints _⟩
theorem CY{G H H':Hp}(s:i6 H H'):i6 (nw G H) (nw G H'):=fun a u h=>by
 unfold nw at h
 by_cases g:G a=none
 ·rw[if_pos g] at h;exact Z7 (s _ _ h) g
 ·rw[if_neg g] at h;cases h
theorem QcC:FnScope ["self"] ["self"] (i3 sPM):=by ac_rfl
theorem QbS{C:Addr}(F:Fun K "makes" "Piece.makes" sPM f fd)(T:Txt mg)(cl:Cls K C)(n1:N8 K C "own_makes"):FnOk P w K mg bs0 D7 1 f fd ["self"] (Dx C):=by
 refine F.ok QcC (fun vs H Q E h=> ?_) (fun E6 A outer s H vs Q E hr h=> ?_)
 ·obtain⟨x,ms,rfl,_⟩:=h
  rfl
 obtain⟨x,ms,rfl,⟨dx,om,B,N,da,ra,pa,F0,T0,h1,h2,h3,h4,fe,le⟩,q⟩:=h
 refine⟨_,(h8 (q9 (W5 (lstK K) rfl T.list JJ (c5 (Ci (i9 0) rfl) e6)))),?_⟩
 and_intros
 simpa only[↓KI]
 exact⟨C,dx,_,h1,cl,n1, .ref om,rfl,om,rfl,_, .inl (l7.of h2),fun l hl=>q l _ (c7 hl _) hl c6⟩
theorem QcE:FnScope ["self"] ["self"] (i3 sPF):=by ac_rfl
theorem QbU{C:Addr}(F:Fun K "fields" "Piece.fields" sPF f fd)(T:Txt mg)(cl:Cls K C)(n2:N8 K C "by_field"):FnOk P w K mg bs0 D7 1 f fd ["self"] (IG C):=by
 refine F.ok QcE (fun vs H Q E h=> ?_) (fun E6 A outer s H vs Q E hr h=> ?_)
 ·obtain⟨x,ms,rfl,_⟩:=h
  rfl
 obtain⟨x,ms,rfl,⟨dx,om,B,N,da,ra,pa,F0,T0,h1,h2,h3,h4,fe,le⟩,hl,q⟩:=h
 refine⟨_,(h8 (q9 (n9 (Cb) rfl T.sorted (by decide+kernel) (c5 (Ci (i9 0) rfl) e6)))),?_⟩
 and_intros
 simpa only[↓KI]
 exact⟨C,dx,_,h1,cl,n2, .ref B,rfl,B,rfl,_,h3.top.1,_,Aq,(by rw[fe.kf.length_eq,i4];exact hl),fun l ys hl h5 h6=>q l ys _ (c7 hl _) hl (h5.trans fe.kf) h6 c6⟩
theorem QcB:FnScope ["self","field"] ["self","field"] (i3 sPW):=by ac_rfl
theorem QbQ{C:Addr}(F:Fun K "words" "Piece.words" sPW f fd)(T:Txt mg)(cl:Cls K C)(n2:N8 K C "by_field"):FnOk P w K mg bs0 D7 1 f fd ["self","field"] (IE C):=by
 refine F.ok QcB (fun vs H Q E h=> ?_) (fun E6 A outer s H vs Q E hr h=> ?_)
 ·obtain⟨x,fl,ms,rfl,_⟩:=h
  rfl
 obtain⟨x,fl,ms,rfl,⟨dx,om,B,N,da,ra,pa,F0,T0,h1,h2,h3,h4,fe,le⟩,hl,q⟩:=h
 refine⟨_,(h8 (q9 (n9 (Cb) rfl T.sorted (by decide+kernel) (c5 (P5 (E3 hr) (Ci (i9 0) rfl) (i9 1) C5 ⟨rfl,rfl,rfl,rfl⟩) e6)))),?_⟩
 and_intros
 simpa only[↓KI,↓Z9,↓K9]
 refine⟨C,dx,_,h1,cl,n2, .ref B,rfl,B,rfl, .inl ⟨_, .inl h3.top.1⟩,fun p hp=> ?_⟩
 have sp:=c7 hp (.dK [])
 refine⟨_,V7.k (k:= .inr fl) (sp _ _ h3.top.1),?_⟩
 rw[B6]
 have fk:=fe.kw fl
 unfold Z0 at hl q
 rw[<-i4 (f:=(·.1)),<-fk.length_eq] at hl
 cases e:get F0 fl with
 |none=>
  rw[e] at fk
  exact⟨p,rfl,[],c6,[],rfl,by decide,fun l ys hl h5 h6=>q l ys _ (sp.trans (c7 hl _)) (sp.free hl) (h5.trans fk) h6 c6⟩
 |some D=>
  rw[e] at fk hl
  exact⟨_,rfl,_,sp _ _ (h3.fld fl D e).1,_,Aq,hl,fun l ys hl h5 h6=>q l ys _ (sp.trans (c7 hl _)) (sp.free hl) (h5.trans fk) h6 c6⟩
theorem QcD:FnScope ["self","make","field"] ["self","make","field"] (i3 sPL):=by ac_rfl
theorem QbT{C:Addr}(F:Fun K "length" "Piece.length" sPL f fd)(T:Txt mg)(cl:Cls K C)(n3:N8 K C "lengths"):FnOk P w K mg bs0 D7 1 f fd ["self","make","field"] (MK C):=by
 refine F.ok QcD (fun vs H Q E h=> ?_) (fun E6 A outer s H vs Q E hr h=> ?_)
 ·obtain⟨x,m,fl,ms,rfl,_⟩:=h
  rfl
 obtain⟨x,m,fl,ms,rfl,⟨dx,om,B,N,da,ra,pa,F0,T0,h1,h2,h3,h4,fe,le⟩,q⟩:=h
 refine⟨_,(h8 (q9 (P5 (E3 hr) (Ci (i9 0) rfl) (X0 (c5 (i9 1) (c5 (i9 2) e6))) j5 ⟨rfl,rfl,rfl,rfl⟩))),?_⟩
 and_intros
 simpa only[↓KI,↓Z9]
 refine⟨C,dx,_,h1,cl,n3, .ref N,rfl,N,rfl, .inr ⟨_, .inl h4⟩,by decide,fun p hp=> ?_⟩
 have sp:=c7 hp (.tup [.int m, .str fl])
 refine⟨_, .inr ⟨_,[.inl m, .inr fl],p, .inl (sp _ _ h4),rfl,c6,rfl⟩,?_⟩
 have:=q _ sp
 rw[<-le] at this
 exact this
theorem QbA:FnScope ["self","field","word","kept"] ["self","field","word"] (i3 sPP):=by ac_rfl
def Qcd(H L0:Hp)(k:Addr)(xs:List V)(r:Rw)(i:Nat)(ys:List V)(σ:St)(L:Hp):Prop:=∃v0 v1:Option V,σ=[v0,v1]/\i6 L0 L/\c8 (nw H L) ((r.take i).map Fe) ys
theorem QbR{C:Addr}(F:Fun K "postings" "Piece.postings" sPP f fd)(T:Txt mg)(cl:Cls K C)(n2:N8 K C "by_field"):FnOk P w K mg bs0 D7 1 f fd ["self","field","word"] (IF C):=by
 refine F.ok QbA (fun vs H Q E h=> ?_) (fun E6 A outer s H vs Q E hr h=> ?_)
 ·obtain⟨x,fl,wd,ms,rfl,_⟩:=h
  rfl
 obtain⟨x,fl,wd,ms,rfl,⟨dx,om,B,N,da,ra,pa,F0,T0,h1,h2,h3,h4,fe,le⟩,hl,q⟩:=h
 refine⟨_,(e7 (k8 (i:=3) QbA.nd rfl (Or.inl rfl) (P5 (E3 hr) (P5 (E3 hr) (Ci (i9 0) rfl) (i9 1) C5 ⟨rfl,rfl,rfl,rfl⟩) (i9 2) (u6 e6) ⟨rfl,rfl,rfl,rfl⟩))
  (h8 (q9 (J5 (N:=["make","places"]) (pick:=[none,none]) (NX:=["self","field","word","kept"]) (sX:=i3 sPP) (by decide+kernel) rfl rfl rfl (l6 K (i9 3))
    (fun _ _ _ _=>(GV K (n:=2) rfl (j9 (i5 (i:=0) Qb0 rfl (Or.inl rfl)) (j9 (i5 (i:=1) Qb0 rfl (Or.inl rfl)) C4)))) (fun _ _ _ _=>G6) (fun _ _ _ _=>(X0 (c5 (i9 0) (c5 (W5 (lstK K) rfl T.list JJ (c5 (i9 1) e6)) e6)))))))),?_⟩
 and_intros
 simpa only[↓KI,↓Z9,↓K9]
 refine⟨C,dx,_,h1,cl,n2, .ref B,rfl,B,rfl, .inl ⟨_, .inl h3.top.1⟩,fun p hp=> ?_⟩
 have sp:=c7 hp (.dK [])
 refine⟨_,V7.k (k:= .inr fl) (sp _ _ h3.top.1),?_⟩
 rw[B6]
 suffices key:∀(L0:Hp) (k:Addr) (xs:List V),i6 H L0->L0 k=some (.lst xs)->c8 L0 ((u0 ms fl wd).map Fe) xs->∀σ0,BH [none,none] (LJ K 2 (Ar (O3 0) (Ar (O3 1) Jm))) Sd (Wi (Fp (Mp 0) (Fp (tCB (fun xs H Q=>∃p,xs=[V.ref p]/\∃x,(l7 K H p x\/W3 K H p x)/\∀(l:Addr),H l=none->Q (V.ref l) (i8 H l (HO.lst x))) (Fp (Mp 1) GO)) GO))) Q σ0 (Rv K k) L0 by
  have fr:=fe.row fl wd
  have er:u0 ms fl wd=(get ((get F0 fl).getD []) wd).getD []:=fr.symm
  cases e:get F0 fl with
  |none=>
   refine⟨p,rfl, .inl ⟨_, .inl c6⟩,o8 _,fun p1 hp1=>⟨_,V7.k (k:= .inr wd) (w9 c6 hp1),p1,rfl,⟨_,l7.of c6⟩,key _ p1 [] (sp.trans (c7 hp1 _)) c6 ?_ _⟩⟩
   rw[er,e]
   exact c8.nil
  |some D=>
   have hd:=(h3.fld fl D e).1
   refine⟨da fl,rfl, .inl ⟨_, .inl (sp _ _ hd)⟩,o8 _,fun p1 hp1=> ?_⟩
   have s2:=sp.trans (c7 hp1 (.lst []))
   refine⟨_,V7.k (k:= .inr wd) (s2 _ _ hd),?_⟩
   rw[B6]
   cases e2:get D wd with
   |none=>
    refine⟨p1,rfl,⟨_,l7.of c6⟩,key _ p1 [] s2 c6 ?_ _⟩
    rw[er,e]
    show c8 _ (((get D wd).getD []).map Fe) _
    rw[e2]
    exact c8.nil
   |some r=>
    obtain⟨⟨o,g1,xs,rfl,g2⟩,g3⟩:=h3.row fl D wd r e e2
    refine⟨_,rfl,⟨_,l7.of (s2 _ _ g1)⟩,key _ _ xs s2 (s2 _ _ g1) ?_ _⟩
    rw[er,e]
    show c8 _ (((get D wd).getD []).map Fe) _
    rw[e2]
    exact c8.same (fun a u h=>s2 _ _ (Bo h).1) _ _ g2
 intro L0 k xs s0 hk hD σ0
 have Fa:xs.length=(u0 ms fl wd).length:=by have:=hD.length;rwa [i4] at this
 have szl:=B9
 refine C0 xs (Qcd H L0 k xs (u0 ms fl wd)) ⟨none,none,rfl,i6.refl _,c8.nil⟩ ?_ ?_ ?_
 ·rintro i ys σ L hi ⟨v0,v1,rfl,sL,hy⟩
  refine⟨l7.of (sL _ _ hk),?_⟩
  have:=hy.length
  rw[i4,A4] at this
  omega
 ·rintro i y ys σ L hy ⟨v0,v1,rfl,sL,Mq⟩
  obtain⟨dv,g1,g2⟩:=hD.get hy
  rw[u8] at g1
  obtain⟨x,hx,rfl⟩:=o7.mp g1
  obtain⟨a,b,rfl,ha,hb⟩:=DN g2
  simpa only[o9]
  refine⟨_,W3.of (sL _ _ ha),rfl,?_⟩
  simpa only[o9]
  refine⟨_, .inl (l7.of (sL _ _ hb)),fun l hl'=>⟨by decide,fun p2 hp2=> ?_⟩⟩
  have s1:=c7 hl' (.lst (x.2.map V.int))
  have s2:=s1.trans (c7 hp2 (.tup [.int x.1, .ref l]))
  refine⟨_,_,rfl,sL.trans s2,?_⟩
  rw[x6,hx,n6]
  refine(c8.same (CY s2) _ _ Mq).app (c8.one ?_)
  have sH:=s0.trans sL
  exact Nv (m:=x.1) (ps:=x.2) (Z7 c6 ((sH.trans s1).free hp2)) (Z7 (w9 c6 hp2) (sH.free hl'))
 ·rintro ys σ L ⟨v0,v1,rfl,sL,Mq⟩ r hr'
  rw[Fa,y8] at Mq
  refine q r ys _ ((s0.trans sL).trans (c7 hr' _)) ((s0.trans sL).free hr') c6 (c8.same (fun a u h=> ?_) _ _ Mq)
  have h':=Z6 _ _ h
  rw[BQ (j4 h' hr')]
  exact CY (c7 hr' _) _ _ h
def U3:Sp:=fun vs H Q _=>∃(c m b:Int) (fr:Bool),vs=[.int c, .int m, .int b, .bl fr]/\0<=m/\m<=60/\0<b/\b<=1000/\
 ∀(r:Addr) (ns:List Int) (H':Hp),i6 H H'->H r=none->H' r=some (.lst (ns.map V.int))->(ns.length:Int)=m->(∀z∈ns,0<=z/\z<b)->Q (.ref r) H'
def CM{v0:Int}{v1:Int}{v2:Int}{v3:Bool}{H:Hp}{Q:VK}{E:XK}:=show U3 [.int v0, .int v1, .int v2, .bl v3] H Q E=_ by
 simpa only[U3]
 rfl
def Qco(H:Hp)(l:Addr)(c m b:Int)(fr:Bool)(i:Nat)(σ:St)(H2:Hp):Prop:=∃(ns:List Int) (C3:Int) (v6 v7:Option V),σ=[some (.int c),some (.int m),some (.int b),some (.bl fr),some (.ref l),some (.int C3),v6,v7]/\
 i6 H H2/\H2 l=some (.lst (ns.map V.int))/\ns.length=i/\∀z∈ns,0<=z/\z<b
theorem HZ{a b j:Int}(h:0<j)(h':j<2^63):XW (a % j) b:=by
 have h1:=DW a (show j≠0 by omega)
 have h2:=DU a h
 exact .inl ⟨by omega,by omega⟩
theorem scD:FnScope ["_law_cell","_law_many","_law_base","_law_free","_law_found","_law_rest","_law_k","_law_number"] ["_law_cell","_law_many","_law_base","_law_free"] (i3 MR):=by ac_rfl
theorem Tw(F:Fun K "_law_draws" "_law_draws" MR f fd)(T:Txt mg):FnOk P w K mg bs0 D7 1 f fd ["_law_cell","_law_many","_law_base","_law_free"] U3:=by
 refine F.ok scD (fun vs H Q E h=> ?_) (fun E6 A outer s H vs Q E hr h=> ?_)
 ·obtain⟨c,m,b,fr,rfl,_⟩:=h
  rfl
 obtain⟨c,m,b,fr,rfl,m0,m1,b0,b1,q⟩:=h
 refine⟨_,(e7 (k8 (i:=4) scD.nd rfl (Or.inl rfl) (u6 e6))
  (e7 (k8 (i:=5) scD.nd rfl (Or.inl rfl) (i9 0))
  (e7 (y7 B3 rfl (HG rfl T.range (c5 (i9 1) e6)) (i5 (i:=6) scD.nd rfl (Or.inl rfl))
   (h8 (G9 (PW.pt (IN (N0 (i9 3)) (IN (B0 QbN (n9 UI rfl T.abs PyProof.Rows.boot_abs (c5 (i9 0) e6)) (u5 MX j5 j5) (E1 _)) (IN (B0 OW (i9 5) j5 (E1 _)) (OQ (B0 OW (i9 5) (To IA j5) (E1 _))))))) (e7 (D4 (Ms K T4 V5 V4 G4 (i9 4) (c5 (u5 T8 (i9 5) (i9 2)) e6)))
  (h8 (k8 (i:=5) scD.nd rfl (Or.inl rfl) (u5 Z5 (i9 5) (i9 2))))) (e7 (k8 (i:=7) scD.nd rfl (Or.inl rfl) (u5 T8 (u5 X2 (i9 0) (u5 IY j5 (i9 6))) j5))
  (e7 (k8 (i:=7) scD.nd rfl (Or.inl rfl) (u5 T8 (u5 X2 (u5 IY (i9 7) (i9 7)) (i9 6)) j5))
  (h8 (D4 (Ms K T4 V5 V4 G4 (i9 4) (c5 (u5 T8 (u5 T8 (u5 IY (i9 7) (i9 7)) j5) (i9 2)) e6)))))))))
  (h8 (q9 (i9 4)))))),?_⟩
 and_intros
 simpa only[o9]
 refine⟨by decide,fun l hl=>⟨by omega,by omega,?_⟩⟩
 refine FR (lo:=0) (n:=m.toNat) (Qco H l c m b fr) ⟨[],c,none,none,rfl,c7 hl _,c6,rfl,by simp⟩ ?_ ?_
 ·rintro i σ H2 hi ⟨ns,C3,v6,v7,rfl,s2,hL,hn,hb⟩
  have hsz:(ns.map V.int).length<sizeLine:=by rw[i4];exact N9 (by omega)
  have fin:∀(z C3:Int) (v6 v7:Option V),0<=z->z<b->Qco H l c m b fr (i+1) [some (.int c),some (.int m),some (.int b),some (.bl fr),some (.ref l),some (.int C3),v6,v7] (i8 H2 l (.lst (ns.map V.int++[.int z]))):=fun z C3 v6 v7 z0 z1=>
   ⟨ns++[z],C3,v6,v7,rfl,s2.newer hl _,by rw[c6,n6];rfl,by rw[y9,hn];rfl,fun y hy=>by
    rcases D8.mp hy with e|e
    ·exact hb y e
    ·rw[x8] at e;subst e;exact⟨z0,z1⟩⟩
  simpa only[o9]
  have ty:tyV K "list" (.ref l) H2:= .inl ⟨rfl,_,l7.of hL⟩
  refine X4 (fun _=>⟨⟨by decide,by decide,by decide⟩,X4 (fun _=>X4 (fun _=>X4 (fun _=> ?d) (fun _=> ?_)) (fun _=> ?_)) (fun _=> ?_)⟩) (fun _=> ?_)
  case d=>exact⟨ty,b0,_,hL,hsz,⟨b0,by omega⟩,fin _ _ _ _ (DW _ (by omega)) (DU _ b0)⟩
  all_goals exact⟨.inl ⟨by decide,by decide⟩,by decide,HZ (by decide) (by decide),by decide,ty,HZ (by decide) (by decide),by decide,b0,_,hL,hsz,fin _ _ _ _ (DW _ (by omega)) (DU _ b0)⟩
 ·rintro σ H2 ⟨ns,C3,v6,v7,rfl,s2,hL,hn,hb⟩
  simpa only[o9]
  exact q l ns H2 s2 hl hL (by omega) hb
theorem DO(ns:List Int)(lo hi:Option Int):Dg (ns.map V.int) lo hi=(At ns lo hi).map V.int:=by
 unfold Dg At
 rw[i4,NP,JK]
theorem Ft(a b:Str):(a++b).cps.toList=a.cps.toList++b.cps.toList:=by
 show (a.cps++b.cps).toList=_
 rw[Q6]
theorem Ge(a b:Str):(a++b).length=a.length+b.length:=by
 rw[<-AV,Ft,y9,AV,AV]
theorem Mc{a b:Str}(ha:Fi a)(hb:Fi b):Fi (a++b):=fun c hc=>by
 rw[Ft] at hc
 rcases D8.mp hc with h|h
 ·exact ha c h
 ·exact hb c h
theorem HM{sep:Str}{B:Nat}(hs:Fi sep):∀l:List Str,(∀z∈l,z.length<=B/\Fi z)->(Str.join sep l).length<=l.length*(B+sep.length)/\Fi (Str.join sep l)
 |[],_=>⟨o8 _,fun c hc=>(by cases hc)⟩
 |[x],h=>by
  obtain⟨h1,h2⟩:=h x (x8.mpr rfl)
  refine⟨?_,h2⟩
  show x.length<=1*(B+sep.length)
  omega
 |x::y::r,h=>by
  obtain⟨i1,i2⟩:=HM hs (y::r) fun z hz=>h z (B1 _ hz)
  obtain⟨h1,h2⟩:=h x (A5 ..)
  refine⟨?_,Mc (Mc h2 hs) i2⟩
  show (x++sep++Str.join sep (y::r)).length<=((y::r).length+1)*(B+sep.length)
  rw[Ge,Ge,Nat.add_mul]
  omega
theorem Fm{sep:Str}{B:Nat}(hs:Fi sep)(l:List Str)(h:∀z∈l,z.length<=B/\Fi z):(Txt.join sep l).length<=l.length*(B+sep.length)/\Fi (Txt.join sep l):=by
 have e:Txt.join sep l=Str.join sep l:=by
  unfold Txt.join
  rw[StrLaws.glued_eq_join]
 rw[e]
 exact HM hs l h
def Qcl(x:V)(H0:Hp)(B:Nat)(j:Nat)(ys:List V)(σ:St)(L:Hp):Prop:=∃(zs:List Str) (v0:Option V),ys=zs.map V.str/\zs.length=j/\L=H0/\σ=[v0,some x]/\∀z∈zs,z.length<=B/\Fi z
def Et:Sp:=fun vs H Q _=>∃c:Int,vs=[.int c]/\∀(z:Str) (H':Hp),i6 H H'->z.length<=200->Fi z->Q (.str z) H'
def ID{v0:Int}{H:Hp}{Q:VK}{E:XK}:=show Et [.int v0] H Q E=_ by
 simpa only[Et]
 rfl
theorem scT:FnScope ["_law_cell","_law_signs","_law_digits","_law_words_here"] ["_law_cell"] (i3 Li):=by ac_rfl
theorem WN{gd:Addr}{dd:FuncData}(F:Fun K "_law_text" "_law_text" Li f fd)(T:Txt mg)(GD:FnOk P w K mg bs0 D7 1 gd dd ["_law_cell","_law_many","_law_base","_law_free"] U3)(bD:Binds K dd ["_law_cell","_law_many","_law_base","_law_free"] [])(kD:PySem.W.keepIn K (.ref gd)=true)(mD:mg "_law_draws"=some (.ref gd)):FnOk P w K mg bs0 D7 2 f fd ["_law_cell"] Et:=by
 refine F.ok scT (fun vs H Q E h=> ?_) (fun E6 A outer s H vs Q E hr h=> ?_)
 ·obtain⟨c,rfl,_⟩:=h
  rfl
 obtain⟨c,rfl,q⟩:=h
 refine⟨_,(e7 (G9 (B0 OX (u5 T8 (i9 0) j5) j5 (E1 _)) (e7 (k8 (i:=1) scT.nd rfl (Or.inr rfl) K0)
  (e7 (k8 (i:=1) scT.nd rfl (Or.inr rfl) (u5 Cj (i9 1) K0))
  (e7 (k8 (i:=2) scT.nd rfl (Or.inl rfl) (j7 GD hr rfl mD kD bD .nil k9 (c5 (u5 Z5 (i9 0) j5) (c5 j5 (c5 (n9 W2 rfl T.len Y0 (c5 (i9 1) e6)) (c5 S7 e6))))))
  (h8 (q9 (Ms K JN Vn Vm (OZ K) K0 (c5 (J5 (N:=["_law_digit","_law_signs"]) (pick:=[none,some 1]) (NX:=nx3) (sX:=i3 Li) (by decide+kernel) rfl rfl rfl (l6 K (P4 (Wq K) (i9 2) (M5 j5) (M5 (u5 X2 j5 (u5 T8 (N1 (QI K) (i9 2) j5 (fun _ _=>rfl)) j5)))))
    (fun _ _ _ _=>(i5 (i:=0) (by decide+kernel:(["_law_digit","_law_signs"]:List Str).Nodup) rfl (Or.inl rfl))) (fun _ _ _ _=>G6) (fun _ _ _ _=>(N1 TV (i9 1) (i9 0) (fun _ _=>rfl)))) e6))))))) A3)
  (e7 (k8 (i:=2) scT.nd rfl (Or.inl rfl) (j7 GD hr rfl mD kD bD .nil k9 (c5 (i9 0) (c5 j5 (c5 j5 (c5 S7 e6))))))
  (@YC _ _ _ _ _ (@Qm _ 3 _ _ _ _ _ _ scT.nd rfl (Or.inr rfl) rfl rfl (.inl rfl))
  (h8 (q9 (Ms K JN Vn Vm (OZ K) K0 (c5 (J5 (N:=["_law_digit","_law_words_here"]) (pick:=[none,some 3]) (NX:=nx3) (sX:=i3 Li) (by decide+kernel) rfl rfl rfl (l6 K (P4 (Wq K) (i9 2) (M5 j5) (M5 (u5 X2 j5 (N1 (QI K) (i9 2) j5 (fun _ _=>rfl))))))
    (fun _ _ _ _=>(i5 (i:=0) (by decide+kernel:(["_law_digit","_law_words_here"]:List Str).Nodup) rfl (Or.inl rfl))) (fun _ _ _ _=>G6) (fun _ _ _ _=>(N1 (QI K) (i9 1) (i9 0) (fun _ _=>rfl)))) e6))))))),?_⟩
 and_intros
 simpa only[↓CM,U3,↓Yx]
 have hsl:(Str.ofString " !\"#$&'()*+,-./0123456789:;<=>?@ABCDEFGHIJKLMNOPQRSTUVWXYZ[\\]^_"++Str.ofString "`abcdefghijklmnopqrstuvwxyz{|}~").length=94:=by decide+kernel
 have hsa:Fi (Str.ofString " !\"#$&'()*+,-./0123456789:;<=>?@ABCDEFGHIJKLMNOPQRSTUVWXYZ[\\]^_"++Str.ofString "`abcdefghijklmnopqrstuvwxyz{|}~"):=by unfold Fi;decide+kernel
 have hs2:(Str.ofString " !\"#$&'()*+,-./0123456789:;<=>?@ABCDEFGHIJKLMNOPQRSTUVWXYZ[\\]^_").length+(Str.ofString "`abcdefghijklmnopqrstuvwxyz{|}~").length=94:=by decide+kernel
 rw[hs2]
 generalize Str.ofString " !\"#$&'()*+,-./0123456789:;<=>?@ABCDEFGHIJKLMNOPQRSTUVWXYZ[\\]^_"++Str.ofString "`abcdefghijklmnopqrstuvwxyz{|}~"=sg at hsl hsa⊢
 refine⟨by decide,X4 (fun _=> ?_) (fun _=> ?_)⟩
 ·refine⟨small (by omega),⟨by decide,by decide⟩,small (by omega),by decide,by decide,by omega,by omega,fun r ns H' s' hr' hH' hnl QM=> ?_⟩
  obtain⟨n0,hn0⟩:=Br (ns:=ns) (k:=0) (by omega) (by omega)
  refine⟨rfl,_,l7.of hH',_,hn0,_,rfl,by decide,_,l7.of hH',fun p hp=> ?_⟩
  rw[DO]
  have HR:(At ns (some 1) (some (1+n0 % 25))).length<=25:=by
   unfold At
   rw[A4,AQ]
   omega
  have hcm:∀z∈At ns (some 1) (some (1+n0 % 25)),0<=z/\z<(sg.length:Int):=fun z hz=>QM z (Ef (Y1 hz))
  generalize At ns (some 1) (some (1+n0 % 25))=ds at HR hcm⊢
  refine⟨⟨_,l7.of c6⟩,C0 (ds.map V.int) (Qcl (.str sg) (i8 H' p (.lst (ds.map V.int))) 1) ⟨[],none,rfl,rfl,rfl,rfl,fun z hz=>(by cases hz)⟩ ?_ ?_ ?_⟩
  ·rintro i ys σ L hi ⟨zs,v0,rfl,hz,rfl,rfl,hB⟩
   rw[i4] at hi
   exact⟨l7.of c6,by rw[i4];exact small (by omega)⟩
  ·rintro i x ys σ L hx ⟨zs,v0,rfl,hz,rfl,rfl,hB⟩
   rw[u8] at hx
   obtain⟨d,hd,rfl⟩:=o7.mp hx
   obtain⟨d0,d1⟩:=hcm d (E8 hd)
   obtain⟨v,hv,hv'⟩:=Gc (xs:=sg.cps.toList) d0 (by rw[AV];exact d1)
   simpa only[o9]
   refine⟨small (by omega),v,hv,zs++[⟨#[v]⟩],_,by rw[n6];rfl,by rw[y9,hz];rfl,rfl,rfl,fun z hz=> ?_⟩
   rcases D8.mp hz with hz|hz
   ·exact hB z hz
   ·rw[x8] at hz
    subst hz
    exact⟨l8 1,fun c hc=>by
     have e:c=v:=by simpa using hc
     subst e
     exact hsa _ (E8 hv')⟩
  ·rintro ys σ L ⟨zs,v0,rfl,hz,rfl,rfl,hB⟩ p2 hp2
   rw[i4] at hz
   have jf:=Fm (sep:="") (B:=1) (fun c hc=>(by cases hc)) zs hB
   refine⟨p2,rfl,zs,l7.of c6,1,fun y hy=>(hB y hy).1,by omega,by decide,q _ _ ((s'.trans (c7 hp _)).trans (c7 hp2 _)) ?_ jf.2⟩
   have j1:(Txt.join "" zs).length<=zs.length*(1+0):=jf.1
   omega
 ·refine⟨by decide,by decide,by decide,by decide,fun r ns H' s' hr' hH' hnl QM=>⟨by decide,fun p hp=> ?_⟩⟩
  obtain⟨WL,hWL,hl12,hB⟩:∃WL:List Str,WL.map V.str=[V.str "ab",V.str "Ab",V.str "b",V.str "ba",V.str "a1",V.str "",V.str "1",V.str "abc",V.str "b, a",V.str "c",V.str "A-B",V.str "ab"]/\WL.length=12/\∀z∈WL,z.length<=4/\Fi z:=⟨["ab","Ab","b","ba","a1","","1","abc","b, a","c","A-B","ab"],rfl,rfl,by unfold Fi;decide+kernel⟩
  rw[<-hWL]
  have hP:=c7 hp (.lst (WL.map V.str))
  obtain⟨n0,hn0⟩:=Br (ns:=ns) (k:=0) (by omega) (by omega)
  refine⟨rfl,_,l7.of (hP _ _ hH'),_,hn0,_,rfl,_,l7.of (hP _ _ hH'),fun p1 hp1=> ?_⟩
  rw[DO]
  have HR:(At ns (some 1) (some (1+n0))).length<=14:=by
   unfold At
   rw[A4,AQ]
   omega
  have hcm:∀z∈At ns (some 1) (some (1+n0)),0<=z/\z<12:=fun z hz=>QM z (Ef (Y1 hz))
  generalize At ns (some 1) (some (1+n0))=ds at HR hcm⊢
  have hP1:=c7 hp1 (.lst (ds.map V.int))
  have hpW:=hP1 _ _ (show (i8 H' p (.lst (WL.map V.str))) p=some (.lst (WL.map V.str)) from c6)
  refine⟨⟨_,l7.of c6⟩,C0 (ds.map V.int) (Qcl (.ref p) (i8 (i8 H' p (.lst (WL.map V.str))) p1 (.lst (ds.map V.int))) 4) ⟨[],none,rfl,rfl,rfl,rfl,fun z hz=>(by cases hz)⟩ ?_ ?_ ?_⟩
  ·rintro i ys σ L hi ⟨zs,v0,rfl,hz,rfl,rfl,hB⟩
   rw[i4] at hi
   exact⟨l7.of c6,by rw[i4];exact small (by omega)⟩
  ·rintro i x ys σ L hx ⟨zs,v0,rfl,hz,rfl,rfl,hB'⟩
   rw[u8] at hx
   obtain⟨d,hd,rfl⟩:=o7.mp hx
   obtain⟨d0,d1⟩:=hcm d (E8 hd)
   obtain⟨v,hv,hv'⟩:=Gc (xs:=WL.map V.str) d0 (by rw[i4];omega)
   rw[u8] at hv'
   obtain⟨y,hy,rfl⟩:=o7.mp hv'
   simpa only[o9]
   refine⟨_,l7.of hpW,_,hv,zs++[y],_,by rw[n6];rfl,by rw[y9,hz];rfl,rfl,rfl,fun z hz=> ?_⟩
   rcases D8.mp hz with hz|hz
   ·exact hB' z hz
   ·rw[x8] at hz
    subst hz
    exact hB _ (E8 hy)
  ·rintro ys σ L ⟨zs,v0,rfl,hz,rfl,rfl,hB'⟩ p2 hp2
   rw[i4] at hz
   have jf:=Fm (sep:=" ") (B:=4) (by unfold Fi;decide+kernel) zs hB'
   refine⟨p2,rfl,zs,l7.of c6,4,fun y hy=>(hB' y hy).1,by omega,by decide,q _ _ (((s'.trans hP).trans hP1).trans (c7 hp2 _)) ?_ jf.2⟩
   have j1:(Txt.join " " zs).length<=zs.length*(4+1):=jf.1
   omega
theorem Wx:FnScope ["_law_cell","_law_more","_law_names","_law_fields","_law_name"] ["_law_cell","_law_more"] (i3 Wz):=by ac_rfl
def ZD(d:List Az):Prop:=dw "" 0 d=none/\d.length<=9/\∀y∈d,(y.1.length<=12/\y.1≠"odd")/\y.2.length<=200/\Fi y.2
def Hw:Sp:=fun vs H Q _=>∃c m:Int,vs=[.int c, .int m]/\∀(d:List Az) (a:Addr) (xs:List V) (H':Hp),ZD d->i6 H H'->H a=none->H' a=some (.lst xs)->c8 H' (d.map QX) xs->Q (.ref a) H'
def SE{v0:Int}{v1:Int}{H:Hp}{Q:VK}{E:XK}:=show Hw [.int v0, .int v1] H Q E=_ by
 simpa only[Hw]
 rfl
theorem Ps:∀(d:List Az) (p:Str) (j:Nat),PyProof.Rows.risingS p (d.map (·.1))=true->(p::d.map (·.1)).Nodup->(∀y∈d,GX y.1=true)->dw p j d=none
 |[],p,j,_,_,_=>rfl
 |x::r,p,j,h,hn,ho=>by
  have h1:(!PySem.Spec.ltCps x.1.cps.toList p.cps.toList&&PyProof.Rows.risingS x.1 (r.map (·.1)))=true:=h
  rw[Q7,Vl] at h1
  obtain⟨h2,h3⟩:=h1
  have h4:¬x.1.cps.toList<p.cps.toList:=by
   intro z
   rw[B7 z] at h2
   cases h2
  have Np:p≠x.1:=fun z=>by
   have:=(O4.mp hn).1
   rw[z] at this
   exact this (A5 ..)
  have h5:p.cps.toList<x.1.cps.toList:=by
   rcases List.le_iff_lt_or_eq.mp (DT.mp h4) with z|z
   ·exact z
   ·refine absurd ?_ Np
    obtain⟨cs⟩:=p
    cases hx:x.1 with
    |mk ds=>
     rw[hx] at z
     exact congrArg Str.mk (Array.toList_inj.mp z)
  have hb:Hj p x.1=false:=by
   unfold Hj
   rw[ho x (A5 ..),B7 h5]
   rfl
  rw[dw,if_neg (by rw[hb];decide)]
  exact Ps r x.1 (j+1) h3 (O4.mp hn).2 fun y hy=>ho y (B1 _ hy)
theorem QW(d:List Az)(h:PyProof.Rows.sortedS (d.map (·.1))=true)(hn:(d.map (·.1)).Nodup)(ho:∀y∈d,GX y.1=true):dw "" 0 d=none:=by
 cases d with
 |nil=>rfl
 |cons x r=>
  have ox:=ho x (A5 ..)
  have l1:1<=x.1.length:=by
   unfold GX at ox
   rw[Q7] at ox
   exact(A2 ox.1).1
  have h5:decide (("":Str).cps.toList<x.1.cps.toList)=true:=by
   rw[<-AV] at l1
   cases hc:x.1.cps.toList with
   |nil=>rw[hc] at l1;cases l1
   |cons u r=>exact B7 (List.nil_lt_cons _ _)
  have hb:Hj "" x.1=false:=by
   unfold Hj
   rw[ox,h5]
   rfl
  rw[dw,if_neg (by rw[hb];decide)]
  exact Ps r x.1 1 h hn fun y hy=>ho y (B1 _ hy)
def Ku:List Str:=["a","ab","b","body","c","title","tit","z","zz"]
theorem HJ:Ku.Nodup:=by decide+kernel
theorem TC:∀z∈Ku,GX z=true/\z.length<=12/\z≠"odd":=by decide+kernel
def Qcm(H:Hp)(c m:Int)(r fo:Addr)(i:Nat)(σ:St)(L:Hp):Prop:=∃(fs:List Str) (v4:Option V),σ=[some (.int c),some (.int m),some (.ref r),some (.ref fo),v4]/\i6 H L/\L fo=some (.lst (fs.map V.str))/\fs.Sublist (Ku.take i)
def Qb4(H0:Hp)(m:Int)(zs:List Str)(i:Nat)(ys:List V)(σ:St)(L:Hp):Prop:=∃(d:List Az) (v0 v1:Option V),σ=[v0,v1,some (.int m)]/\i6 H0 L/\c8 L (d.map QX) ys/\d.map (·.1)=zs.take i/\∀y∈d,y.2.length<=200/\Fi y.2
theorem Qo{X:Cx}{K:j6}{nm:Str}{i:Nat}{es es':List Expr}{zs zs':List Str}{SL:Expr}{tsl:TE}{body:List Stmt}{tb:TS}{p1 pl pl' ap p2 cp cpos ipos fpos:Pos}(hK:X.K=K)(hp:PassesOwn (model X.prog X.w) X.A X.env X.xe)(hc:X.calm=true)(hN:X.N.Nodup)(hi:X.N[i]? =some nm)(hx:Loc X.env.scope nm)
  (hf:X.fn nm=true\/X.env.scope.names.lookup nm=some .local)(hv:PE X (.Name nm p2) (CI i))(hz:Fq es=some zs)(hz':Fq es'=some zs')(hl:(ap.endLine==cp.line)=true)(hs:PE X SL tsl)(hm:behindInMarks .In SL=false)(hb:Hm X body tb):
  PS X (.For (.Name nm p1) (.List es pl) [.If (.Compare (.Call (.Attribute (.List es' pl') "index" ap) [.Name nm p2] [] cp) [.In] [SL] cpos) body [] ipos] [] fpos)
   (ZO (LD K (KH (fun _ H Q=>Q (zs.map V.str) H))) (O3 i) (Wj (Fo (Rz (rIn X.K false) (tBM K "list" (OP K) (KH (fun _ H Q=>Q (zs'.map V.str) H)) (Fp (CI i) GO)) tsl)) tb Oy)):=by
 subst hK
 exact y7 hp hc (OU (u6 (IW hz))) (i5 hN hi hx hf) (h8 (G9 (B0 Qx (Ms X.K T4 PySem.F.slot_list_index PySem.F.type_list_index (QC X.K) (u6 (IW hz')) (c5 hv e6) rfl rfl rfl hl) hs hm) hb A3))
theorem QaW{gd gt:Addr}{dd dt:FuncData}(F:Fun K "_law_document" "_law_document" Wz f fd)(T:Txt mg)(GD:FnOk P w K mg bs0 D7 1 gd dd ["_law_cell","_law_many","_law_base","_law_free"] U3)(bD:Binds K dd ["_law_cell","_law_many","_law_base","_law_free"] [])(kD:PySem.W.keepIn K (.ref gd)=true)(mD:mg "_law_draws"=some (.ref gd))
  (GT:FnOk P w K mg bs0 D7 2 gt dt ["_law_cell"] Et)(bT:Binds K dt ["_law_cell"] [])(kT:PySem.W.keepIn K (.ref gt)=true)(mT:mg "_law_text"=some (.ref gt)):FnOk P w K mg bs0 D7 3 f fd ["_law_cell","_law_more"] Hw:=by
 refine F.ok Wx (fun vs H Q E h=> ?_) (fun E6 A outer s H vs Q E hr h=> ?_)
 ·obtain⟨c,m,rfl,_⟩:=h
  rfl
 obtain⟨c,m,rfl,q⟩:=h
 have hr1:Room 1 _:=hr.mono (by decide)
 refine⟨_,(e7 (k8 (i:=2) Wx.nd rfl (Or.inl rfl) (j7 GD hr1 rfl mD kD bD .nil k9 (c5 (pv 0) (c5 j5 (c5 j5 (c5 S7 e6))))))
  (e7 (k8 (i:=3) Wx.nd rfl (Or.inl rfl) (u6 e6))
  (@YC _ _ _ _ _ (@Qo _ _ _ 4 _ _ _ _ _ _ _ _ _ _ _ _ _ _ _ _ _ rfl B3 rfl Wx.nd rfl (Or.inl rfl) (.inl rfl) (pv 4) rfl rfl rfl (P4 (Wq K) (pv 2) (M5 j5) (M5 (u5 X2 j5 (u5 T8 (N1 (QI K) (pv 2) j5 (fun _ _=>rfl)) j5)))) rfl (h8 (D4 (Ms K T4 V5 V4 G4 (pv 3) (c5 (pv 4) e6)))))
  (h8 (q9 (J5 (N:=["_law_k","_law_name","_law_more"]) (pick:=[none,none,some 1]) (NX:=["_law_cell","_law_more","_law_names","_law_fields","_law_name"]) (sX:=i3 Wz) (by decide+kernel) rfl rfl rfl (CU rfl T.enumerate (c5 (n9 (Hg K) rfl T.sorted (by decide+kernel) (c5 (pv 3) e6)) e6))
    (fun _ _ _ _=>(GV K (n:=2) rfl (j9 (i5 (i:=0) QbZ rfl (Or.inl rfl)) (j9 (i5 (i:=1) QbZ rfl (Or.inl rfl)) C4)))) (fun _ _ _ _=>G6) (fun _ _ _ _=>(X0 (c5 (pv 1) (c5 (j7 GT hr rfl mT kT bT .nil k9 (c5 (u5 Z5 (pv 2) (u5 X2 j5 (u5 IY j5 (pv 0)))) e6)) e6)))))))))),?_⟩
 and_intros
 simpa only[↓CM,U3,↓ID,Et,↓OP]
 refine⟨by decide,by decide,by decide,by decide,fun r ns H1 s1 hr1' hH1 hnl QM=>⟨by decide,fun fo VX=>⟨by decide,fun p1 hp1=> ?_⟩⟩⟩
 rw[show [V.str (Str.ofString "a"),V.str (Str.ofString "ab"),V.str (Str.ofString "b"),V.str (Str.ofString "body"),V.str (Str.ofString "c"),V.str (Str.ofString "title"),V.str (Str.ofString "tit"),V.str (Str.ofString "z"),V.str (Str.ofString "zz")]=Ku.map V.str from rfl]
 have sf:=c7 VX (.lst [])
 have sp:=c7 hp1 (.lst (Ku.map V.str))
 have hfo2:=sp _ _ (show (i8 H1 fo (.lst [])) fo=some (.lst []) from c6)
 have fH1:H1 fo=none:=VX
 have hr2':=(sf.trans sp) _ _ hH1
 have s0:i6 H1 (i8 (i8 H1 fo (.lst [])) p1 (.lst (Ku.map V.str))):=sf.trans sp
 have e1:(i8 (i8 H1 fo (.lst [])) p1 (.lst (Ku.map V.str))) p1=some (.lst (Ku.map V.str)):=c6
 have np:p1≠fo:=fun z=>by rw[z,c6] at hp1;cases hp1
 obtain⟨n0,hn0⟩:=Br (ns:=ns) (k:=0) (by omega) (by omega)
 refine⟨⟨_,l7.of c6⟩,w4 (Ku.map V.str) (fun i σ L=>Qcm H1 c m r fo i σ L/\L p1=some (.lst (Ku.map V.str))) ⟨⟨[],none,rfl,s0,hfo2,List.nil_sublist _⟩,e1⟩ ?_ ?_ ?_⟩
 ·rintro i σ L hi ⟨⟨fs,v4,rfl,sL,hf,GZ⟩,hL1⟩
  exact l7.of hL1
 ·rintro i y σ L hy ⟨⟨fs,v4,rfl,sL,hf,GZ⟩,hL1⟩
  rw[u8] at hy
  obtain⟨nm,hnm,rfl⟩:=o7.mp hy
  simpa only[↓OP]
  have EB:i<Ku.length:=(u4.mp hnm).1
  have htk:Ku.take (i+1)=Ku.take i++[nm]:=by rw[x6,hnm];rfl
  have CG:fs.length<=9:=by
   have:=GZ.length_le
   rw[A4] at this
   have e:Ku.length=9:=rfl
   omega
  refine⟨small (by decide),fun p hp=>⟨.inl ⟨rfl,_,l7.of c6⟩,Ku,l7.of c6,i,hnm,fun i' y hi' hy'=> ?_,?_⟩⟩
  ·intro z
   subst z
   have h1:=Ee.mp HJ i' i (by omega) EB hi'
   have h2:=(u4.mp hy').2
   have h3:=(u4.mp hnm).2
   exact h1 (by rw[h2,h3])
  have sp2:=c7 hp (.lst (Ku.map V.str))
  refine⟨_,l7.of (sp2 _ _ (sL _ _ hH1)),_,hn0,n0,rfl,by decide,_,l7.of (sp2 _ _ (sL _ _ hH1)),fun p2 hp2=> ?_⟩
  rw[DO]
  have sp3:=sp2.trans (c7 hp2 (.lst ((At ns (some 1) (some (1+n0 % 4))).map V.int)))
  refine⟨p2,_,rfl, .inl (l7.of c6),rfl,Em.mpr (fun v hv=>by obtain⟨z,_,rfl⟩:=n8.mp hv;rfl),_,rfl,?_⟩
  have hf':=sp3 _ _ hf
  have h1':=sp3 _ _ hL1
  refine X4 (fun _=>⟨.inl ⟨rfl,_,l7.of hf'⟩,_,hf',N9 (by rw[i4];omega),⟨fs++[nm],_,rfl,(sL.trans sp3).newer fH1 _,by rw[c6,n6];rfl,by rw[htk];exact GZ.append (JI _)⟩,?_⟩) (fun _=>⟨⟨fs,_,rfl,sL.trans sp3,hf',by rw[htk];exact GZ.trans (List.sublist_append_left _ _)⟩,h1'⟩)
  rw[g9 np]
  exact h1'
 ·rintro σ L ⟨⟨fs,v4,rfl,sL,hf,GZ⟩,hL1⟩
  simpa only[↓ID,Et]
  have hsb:fs.Sublist Ku:=GZ.trans (UQ _ _)
  have CG:fs.length<=9:=hsb.length_le
  refine⟨fs,l7.of hf,by omega,fun r' zs hr'' hperm hsort=>⟨⟨_,l7.of c6⟩,?_⟩⟩
  have Pk:zs.length<=9:=by rw[hperm.length_eq];exact CG
  have sr:=c7 hr'' (.lst (zs.map V.str))
  refine NC (zs.map V.str) (Qb4 (i8 L r' (.lst (zs.map V.str))) m zs) ⟨[],none,none,rfl,i6.refl _,c8.nil,rfl,fun y hy=>(by cases hy)⟩ ?_ ?_ ?_
  ·rintro i ys σ M hi ⟨d,v0,v1,rfl,sM,hD,Xz,hB⟩
   have e:=hD.length
   rw[i4] at e hi
   have e2:d.length=(zs.take i).length:=by rw[<-Xz,i4]
   rw[A4] at e2
   exact⟨l7.of (sM _ _ c6),small (by omega)⟩
  ·rintro i y T ys σ M hy ⟨d,v0,v1,rfl,sM,hD,Xz,hB⟩ hT
   rw[u8] at hy
   obtain⟨nm,hnm,rfl⟩:=o7.mp hy
   have EB:i<zs.length:=(u4.mp hnm).1
   have sT:=c7 hT (.tup [.int i, .str nm])
   simpa only[↓ID,Et]
   refine⟨_,W3.of c6,rfl,?_⟩
   simpa only[↓ID,Et]
   refine⟨.inl ⟨by decide,by decide⟩,⟨by omega,by omega⟩,fun z H5 s5 hz hA=>⟨by decide,fun p hp=> ?_⟩⟩
   have s6:=(sT.trans s5).trans (c7 hp (.tup [.str nm, .str z]))
   refine⟨d++[(nm,z)],_,_,rfl,sM.trans s6,?_,?_,fun y hy=> ?_⟩
   ·rw[n6]
    refine(c8.same s6 _ _ hD).app (c8.one ?_)
    show k7 _ (QX _) _
    rw[QX,k7]
    exact⟨p,_,rfl,c6,by rw[c8];exact⟨_,_,rfl,by rw[k7],by rw[c8];exact⟨_,_,rfl,by rw[k7],by rw[c8]⟩⟩⟩
   ·rw[n6,Xz,x6,hnm]
    rfl
   ·rcases D8.mp hy with hy|hy
    ·exact hB y hy
    ·rw[x8] at hy
     subst hy
     exact⟨hz,hA⟩
  ·rintro ys σ M ⟨d,v0,v1,rfl,sM,hD,Xz,hB⟩ p hp
   rw[i4,y8] at Xz
   have sp5:=c7 hp (.lst ys)
   have hall:∀y∈d,y.1∈Ku:=fun y hy=>by
    have:y.1∈zs:=by rw[<-Xz];exact n8.mpr ⟨y,hy,rfl⟩
    exact hsb.subset (hperm.mem_iff.mp this)
   refine q d p ys _ ⟨QW d (by rw[Xz];exact hsort) (by rw[Xz];exact hperm.nodup_iff.mpr (hsb.nodup HJ)) fun y hy=>(TC _ (hall y hy)).1,?_,fun y hy=>⟨(TC _ (hall y hy)).2,hB y hy⟩⟩ ((((s1.trans sL).trans sr).trans sM).trans sp5) ((((s1.trans sL).trans sr).trans sM).free hp) c6 (c8.same sp5 _ _ hD)
   have:d.length=zs.length:=by rw[<-Xz,i4]
   omega
theorem Ww:FnScope ["_law_script","_law_found","_law_make","_law_k"] ["_law_script"] (i3 Qak):=by ac_rfl
def Ks(ms:List Mk):Prop:=ms.length<=10/\∀m∈ms,m.1<10^50/\m.2.length<=9/\∀y∈m.2,(y.1.length<=20/\y.1≠"odd")/\y.2.length<=200/\Fi y.2
def KU(K:j6):Sp:=fun vs H Q _=>∃(a:Addr) (ns:List Int),vs=[.ref a]/\l7 K H a (ns.map V.int)/\ns.length<=63/\∀(ms:List Mk) (r:Addr) (xs:List V) (H':Hp),mw (-1) ms->Ks ms->i6 H H'->H r=none->H' r=some (.lst xs)->c8 H' (ms.map EL) xs->Q (.ref r) H'
def ZW{K:j6}{v0:Addr}{H:Hp}{Q:VK}{E:XK}:=show KU K [.ref v0] H Q E=_ by
 simpa only[KU]
 rfl
theorem TF{x:Mk}(hd:dw "" 0 x.2=none):∀(ms:List Mk) (a:Int),mw a ms->(∀m∈ms,m.1<x.1)->a<x.1->mw a (ms++[x])
 |[],a,_,_,h=>⟨h,hd,trivial⟩
 |y::r,a,h,hl,ha=>⟨h.1,h.2.1,TF hd r y.1 h.2.2 (fun m hm=>hl m (B1 _ hm)) (hl y (A5 ..))⟩
theorem LP{H H2:Hp}(h:∀a us,H a=some (.tup us)->H2 a=some (.tup us)):∀(d:List Az) (xs:List V),c8 H (d.map QX) xs->c8 H2 (d.map QX) xs
 |[],xs,hd=>by
  rw[List.map_nil,c8] at hd⊢
  exact hd
 |x::r,xs,hd=>by
  rw[List.map_cons,c8] at hd⊢
  obtain⟨y,ys,rfl,hy,hr⟩:=hd
  refine⟨y,ys,rfl,?_,LP h r ys hr⟩
  obtain⟨a,rfl,ha⟩:=FV hy
  rw[QX,k7]
  exact⟨a,_,rfl,h _ _ ha,by rw[c8];exact⟨_,_,rfl,by rw[k7],by rw[c8];exact⟨_,_,rfl,by rw[k7],by rw[c8]⟩⟩⟩
theorem Uz{H:Hp}{p a:Addr}{m:Mk}{xs:List V}(hp:H p=some (.tup [.int m.1, .ref a]))(ha:H a=some (.lst xs))(hd:c8 H (m.2.map QX) xs):k7 H (EL m) (.ref p):=by
 rw[EL,k7]
 refine⟨p,_,rfl,hp,?_⟩
 rw[c8]
 refine⟨_,_,rfl,by rw[k7],?_⟩
 rw[c8]
 refine⟨_,_,rfl,?_,by rw[c8]⟩
 rw[k7]
 exact⟨a,xs,rfl,ha,hd⟩
theorem Uw{ms:List Mk}{i:Nat}{mk:Int}{d:List Az}(h:Ks ms)(hl:ms.length<10)(hi:mk<10^50)(gd:ZD d):Ks (ms++[(mk,d)]):=by
 refine⟨by rw[y9,G3];omega,fun m hm=> ?_⟩
 rcases D8.mp hm with hm|hm
 ·exact h.2 m hm
 ·rw[x8] at hm
  subst hm
  exact⟨hi,gd.2.1,fun y hy=>⟨⟨by have:=(gd.2.2 y hy).1.1;omega,(gd.2.2 y hy).1.2⟩,(gd.2.2 y hy).2⟩⟩
def Qce(H:Hp)(a fo:Addr)(i:Nat)(σ:St)(L:Hp):Prop:=∃(ms:List Mk) (xs:List V) (mk:Int) (v3:Option V),σ=[some (.ref a),some (.ref fo),some (.int mk),v3]/\i6 H L/\L fo=some (.lst xs)/\c8 (X6 fo L) (ms.map EL) xs/\ms.length=i/\mw (-1) ms/\(∀m∈ms,m.1<=mk)/\ -1<=mk/\mk<=(i:Int)*10^40/\Ks ms
theorem QaP{gd:Addr}{dd:FuncData}(F:Fun K "_law_makes" "_law_makes" Qak f fd)(T:Txt mg)(GDc:FnOk P w K mg bs0 D7 3 gd dd ["_law_cell","_law_more"] Hw)(bDc:Binds K dd ["_law_cell","_law_more"] [])(kDc:PySem.W.keepIn K (.ref gd)=true)(mDc:mg "_law_document"=some (.ref gd)):FnOkT P w K mg bs0 4 f fd ["_law_script"] (KU K):=by
 refine F.okT Ww (fun vs H Q E h=> ?_) (fun E6 A outer s H vs Q E hr h=> ?_)
 ·obtain⟨a,ns,rfl,_⟩:=h
  rfl
 obtain⟨a,ns,rfl,hS,G1,q⟩:=h
 refine⟨_,(Tf (i:=1) (j:=2) Ww.nd rfl (Or.inl rfl) rfl (Or.inl rfl) (e7 (y7 B3 rfl (Qt rfl T.range (c5 j5 (c5 (n9 (Ro rfl) rfl T.min Vk (c5 j5 (c5 (u5 QaE (n9 (Nd K) rfl T.len Y0 (c5 (i9 0) e6)) j5) e6))) (c5 j5 e6)))) (i5 (i:=3) Ww.nd rfl (Or.inl rfl))
   (e7 (k8 (i:=2) Ww.nd rfl (Or.inl rfl) (u5 X2 (u5 X2 (i9 2) j5) (N1 (QI K) (u6 (c5 (u5 T8 (u5 Z5 (N1 (QI K) (i9 0) (i9 3) (fun _ _=>rfl)) j5) j5) (c5 (u5 T8 (u5 Z5 (N1 (QI K) (i9 0) (i9 3) (fun _ _=>rfl)) j5) (u5 MX j5 j5)) e6))) (W5 Rq rfl T.int (by decide+kernel) (c5 (OV OX (u5 T8 (N1 (QI K) (i9 0) (i9 3) (fun _ _=>rfl)) j5) j5 (E1 _)) e6)) (fun _ _=>rfl))))
  (h8 (D4 (Ms K T4 V5 V4 G4 (i9 1) (c5 (X0 (c5 (i9 2) (c5 (j7 GDc hr rfl mDc kDc bDc .nil k9 (c5 (u5 Z5 (N1 (QI K) (i9 0) (i9 3) (fun _ _=>rfl)) j5) (c5 (N1 (QI K) (i9 0) (u5 X2 (i9 3) j5) (fun _ _=>rfl)) e6))) e6))) e6))))))
  (h8 (q9 (i9 1))))),?_⟩
 and_intros
 simpa only[↓SE,Hw,↓Zc]
 refine⟨by decide,fun fo VX=>⟨_, .inl ((c7 VX _).seq hS),?_⟩⟩
 have hj:∃j:Int,(if (((ns.map V.int).length:Nat):Int)-1<23 then (((ns.map V.int).length:Nat):Int)-1 else 23)=j/\ -1<=j/\j<=23/\j<=(ns.length:Int)-1:=by
  rw[i4]
  refine⟨_,rfl,?_⟩
  split<;>omega
 obtain⟨j,ej,j0,j1,j2⟩:=hj
 rw[ej]
 have hn:(OO 3 j 2).toNat<=10/\∀i:Nat,i<(OO 3 j 2).toNat->3+(i:Int)*2<j:=by
  unfold OO
  split
  ·exact⟨by omega,fun i hi=>by omega⟩
  ·exact⟨by omega,fun i hi=>absurd hi (by simp)⟩
 refine⟨by decide,by decide,by omega,by omega,by decide,by decide,LK (Qce H a fo) ⟨[],[],-1,none,rfl,c7 VX _,c6,c8.nil,rfl,trivial,fun m hm=>(by cases hm),by omega,by decide,by decide,fun m hm=>(by cases hm)⟩ ?_ ?_⟩
 ·rintro i σ L hi ⟨ms,xs,mk,v3,rfl,sL,hf,hD,hml,V0,CD,hm1,hm2,Ac⟩
  have hi2:=hn.2 i hi
  simpa only[↓SE,Hw]
  have hSL:=sL.seq hS
  obtain⟨z1,hz1⟩:=Br (ns:=ns) (k:=3+(i:Int)*2) (by omega) (by omega)
  obtain⟨z2,hz2⟩:=Br (ns:=ns) (k:=3+(i:Int)*2+1) (by omega) (by omega)
  have xl:=hD.length
  rw[i4] at xl
  refine⟨_,hSL,_,hz1,z1,rfl,⟨by decide,by decide⟩,by decide,_,hSL,_,hz1,z1,rfl,⟨by decide,by decide⟩,⟨by decide,by decide,by decide⟩,by decide,small (by decide),fun p0 hp0=> ?_⟩
  have e40:(10:Int)^Int.toNat 40=10^40:=rfl
  rw[e40]
  have sp0:=c7 hp0 (.lst [V.int (z1/4 % 9),V.int (z1/4 % 10^40)])
  obtain⟨st,Mr,P1,AU⟩:∃st:Int,PJ [V.int (z1/4 % 9),V.int (z1/4 % 10^40)] (if decide (z1 % 4=3)=true then 1 else 0)=some (V.int st)/\0<=st/\st<10^40:=by
   split
   ·exact⟨_,rfl,DW _ (by decide),DU _ (by decide)⟩
   ·exact⟨_,rfl,DW _ (by decide),Int.lt_of_lt_of_le (DU _ (by decide)) (by decide)⟩
  refine⟨_,sp0.seq hSL,_,hz1,z1,rfl,by decide,_,l7.of c6,_,Mr,st,rfl, .inl ⟨rfl,_,l7.of (sp0 _ _ hf)⟩,_,sp0.seq hSL,_,hz1,z1,rfl,⟨by decide,by decide⟩,_,sp0.seq hSL,_,hz2,z2,rfl,fun d b zs H5 gd s5 hb hb5 hd5=>⟨by decide,fun p hp=> ?_⟩⟩
  have s5':=sp0.trans s5
  have hbL:=sp0.free hb
  have hf5:=s5' _ _ hf
  have hpf:p≠fo:=fun z=>by rw[z,hf5] at hp;cases hp
  have hbf:b≠fo:=fun z=>by rw[z,hf] at hbL;cases hbL
  have sp:=c7 hp (.tup [.int (mk+1+st), .ref b])
  have O2:mk<mk+1+st:=by omega
  have hi10:=hn.1
  have hup:mk+1+st<=((i+1:Nat):Int)*10^40:=by
   rw[Int.natCast_add,Int.add_mul]
   show _<=(i:Int)*10^40+1*10^40
   omega
  refine⟨xs,sp _ _ hf5,N9 (by omega),ms++[(mk+1+st,d)],xs++[.ref p],_,_,rfl,((sL.trans s5').trans sp).newer VX _,c6,?_,by rw[y9,hml];rfl,?_,?_,by omega,hup,Uw (i:=i) Ac (by omega) ?_ gd⟩
  ·rw[LH,n6]
   refine(c8.same (HQ (s5'.trans sp)) _ _ hD).app (c8.one ?_)
   refine Uz (m:=(mk+1+st,d)) (a:=b) (xs:=zs) (by rw[BQ hpf];exact c6) (by rw[BQ hbf];exact sp _ _ hb5) (LP (fun a us ha=> ?_) _ _ hd5)
   have haf:a≠fo:=fun z=>by rw[z,hf5] at ha;cases ha
   rw[BQ haf]
   exact sp _ _ ha
  ·exact TF gd.1 ms (-1) V0 (fun m hm=>by have:=CD m hm;show m.1<_;omega) (by show-1<_;omega)
  ·intro m hm
   rcases D8.mp hm with hm|hm
   ·have:=CD m hm;omega
   ·rw[x8] at hm;subst hm;exact Int.le_refl _
  ·have h1:((i+1:Nat):Int)*10^40<=10*10^40:=Int.mul_le_mul_of_nonneg_right (by omega) (by decide)
   have h2:(10:Int)*10^40<10^50:=by decide
   omega
 ·rintro σ L ⟨ms,xs,mk,v3,rfl,sL,hf,hD,hml,V0,CD,hm1,hm2,Ac⟩
  simpa only[o9]
  exact q ms fo xs L V0 Ac sL VX hf (c8.same (Q8 _ _) _ _ hD)
theorem Xn:∀c,c<128->decide (c∈(Str.ofString "abcdefghijklmnopqrstuvwxyzABCDEFGHIJKLMNOPQRSTUVWXYZ0123456789").cps.toList)=ws c:=by decide+kernel
def wS(l:List Wd):List Str:=l.map fun x=>⟨x.1.toArray⟩
theorem Qf:FnScope ["_law_text_here","_law_found","_law_word","_law_sign"] ["_law_text_here"] (i3 sLW):=by ac_rfl
def Pf(z:Str)(r:Addr)(H:Hp)(i:Nat)(σ:St)(L:Hp):Prop:=∃v3:Option V,σ=[some (.str z),some (.ref r),some (.str ⟨(scan z.cps.toList i).2.toArray⟩),v3]/\i6 H L/\L r=some (.lst ((wS (scan z.cps.toList i).1).map V.str))
theorem QbV(F:Fun K "_law_words" "_law_words" sLW f fd)(T:Txt mg):FnOk P w K mg bs0 D7 1 f fd ["_law_text_here"] Q3:=by
 refine F.ok Qf (fun vs H Q E h=> ?_) (fun E6 A outer s H vs Q E hr h=> ?_)
 ·obtain⟨z,rfl,_⟩:=h
  rfl
 obtain⟨z,rfl,hz,hA,q⟩:=h
 refine⟨_,(e7 (k8 (i:=1) Qf.nd rfl (Or.inl rfl) (u6 e6))
  (e7 (k8 (i:=2) Qf.nd rfl (Or.inl rfl) K0)
  (e7 (y7 B3 rfl (Tk (u5 Cj (i9 0) K0)) (i5 (i:=3) Qf.nd rfl (Or.inl rfl))
   (h8 (G9 (B0 Qw (i9 3) K0 rfl) (h8 (k8 (i:=2) Qf.nd rfl (Or.inl rfl) (u5 Cj (i9 2) (LZ K JN Vp Vo Lx (i9 3))))) (h8 (G9 (B0 OW (i9 2) K0 (E1 _)) (e7 (D4 (Ms K T4 V5 V4 G4 (i9 1) (c5 (i9 2) e6)))
  (h8 (k8 (i:=2) Qf.nd rfl (Or.inl rfl) K0))) A3)))))
  (h8 (q9 (i9 1)))))),?_⟩
 and_intros
 simpa only[↓Xp,↓FA,V.str.injEq]
 have e1:(" ":Str).length=1:=by decide+kernel
 have e0:("":Str)=⟨#[]⟩:=by decide+kernel
 have strE:∀l:List Nat,((⟨l.toArray⟩:Str)="")↔l=[]:=fun l=>by
  rw[e0]
  constructor
  ·intro h
   have h':=congrArg Str.cps h
   simpa using h'
  ·rintro rfl;rfl
 refine⟨by decide,fun r hn=>⟨small (by rw[e1];omega),?_⟩⟩
 refine Uu (Pf z r H) ⟨none,by rw[e0];rfl,c7 hn _,c6⟩ ?_ ?_
 ·rintro i c σ L hc ⟨v3,rfl,sL,hL⟩
  rw[Ft] at hc
  have EB:i<z.length+1:=by
   have:=(u4.mp hc).1
   rw[y9,AV,AV,e1] at this
   exact this
  have hc128:c<128:=by
   rcases D8.mp (E8 hc) with h|h
   ·exact hA c h
   ·revert h
    revert c
    intro c _ h
    have:c∈[32]:=by
     have e:(" ":Str).cps.toList=[32]:=by decide+kernel
     rw[e] at h
     exact h
    rw[x8.mp this]
    decide
  have hwo:ws c=RT z.cps.toList[i]? /\(ws c=true->z.cps.toList[i]? =some c):=by
   by_cases hi:i<z.cps.toList.length
   ·rw[PM hi] at hc
    rw[hc]
    exact⟨rfl,fun _=>rfl⟩
   ·have hn:z.cps.toList[i]? =none:=CC (by omega)
    have:c=32:=by
     have e:(" ":Str).cps.toList=[32]:=by decide+kernel
     rw[Ik (by omega),e] at hc
     have:=E8 hc
     exact x8.mp this
    rw[hn,this]
    exact⟨by decide,fun h=>by cases h⟩
  have hWl:=BW z.cps.toList i
  have hsl:=scan_len z.cps.toList i
  have hsc:scan z.cps.toList (i+1)=ZQ i z.cps.toList[i]? (scan z.cps.toList i):=rfl
  have Xt:(⟨(scan z.cps.toList i).2.toArray⟩:Str).length=(scan z.cps.toList i).2.length:=by simp [Str.length]
  simpa only[↓Xp,↓FA,V.str.injEq]
  have o1:=(StrLaws.found_one (Str.ofString "abcdefghijklmnopqrstuvwxyzABCDEFGHIJKLMNOPQRSTUVWXYZ0123456789") c).trans (Xn c hc128)
  rw[o1]
  refine X4 (fun hw=> ?_) (fun hw=> ?_)
  ·rw[hwo.2 hw,Fu hw] at hsc
   refine⟨rfl,(by show (1:Nat)<=1000000;decide),fun d hd=> ?_,by rw[Xt];exact small (by have:(⟨#[c].map PyProof.Rows.lo1⟩:Str).length=1:=(by simp [Str.length]);omega),?_⟩
   ·have:d=c:=by simpa using hd
    rw[this];exact hc128
   ·unfold Pf
    rw[hsc]
    refine⟨some (.str ⟨#[c]⟩),?_,sL,hL⟩
    have:((⟨(scan z.cps.toList i).2.toArray⟩:Str)++(⟨#[c].map PyProof.Rows.lo1⟩:Str))=⟨((scan z.cps.toList i).2 ++[sm c]).toArray⟩:=by
     apply Str.ext'
     show (scan z.cps.toList i).2.toArray++Array.map PyProof.Rows.lo1 #[c]=_
     rw[YI]
     simp
    rw[this]
  ·have hwf:RT z.cps.toList[i]? =false:=by rw[<-hwo.1];simpa using hw
   rw[BK hwf] at hsc
   refine X4 (fun c2=> ?_) (fun c2=> ?_)
   ·have Np:(scan z.cps.toList i).2 ≠[]:=fun h=>by
     rw[B7 ((strE _).mpr h)] at c2
     cases c2
    rw[if_neg Np] at hsc
    refine⟨.inl ⟨rfl,_,l7.of hL⟩,_,hL,N9 (by unfold wS;rw[i4,i4];omega),?_⟩
    unfold Pf
    rw[hsc]
    refine⟨some (.str ⟨#[c]⟩),by rw[e0],sL.newer hn _,?_⟩
    rw[c6]
    unfold wS
    rw[n6,n6]
    rfl
   ·have he:(scan z.cps.toList i).2 =[]:=(strE _).mp (by
     cases hd:decide ((⟨(scan z.cps.toList i).2.toArray⟩:Str)="") with
     |true=>exact A2 hd
     |false=>rw[hd] at c2;exact absurd rfl c2)
    rw[if_pos he] at hsc
    unfold Pf
    rw[hsc]
    exact⟨_,rfl,sL,hL⟩
 ·rintro σ L ⟨v3,rfl,sL,hL⟩
  simpa only[o9]
  refine q r L sL hn ?_
  rw[hL]
  have:(z++(" ":Str)).length=z.cps.toList.length+1:=by rw[Ge,e1,AV]
  rw[this]
  rfl
def BD(h:Hp):List (A0×V)->Rw->Prop
 |[],[]=>True
 |kv::r,x::p=>(∃l,kv=(.inl x.1, .ref l)/\h l=some (.lst (x.2.map V.int))/\get p x.1=none)/\BD h r p
 |_,_=>False
theorem BD.same{h h':Hp}(s:i6 h h'):∀{kvs:List (A0×V)} {r:Rw},BD h kvs r->BD h' kvs r
 |[],[],_=>trivial
 |kv::r,x::p,⟨⟨l,e,hl,n⟩,t⟩=>⟨⟨l,e,s _ _ hl,n⟩,t.same s⟩
 |[],_::_,h=>h.elim
 |_::_,[],h=>h.elim
theorem BD.keys{h:Hp}:∀{kvs:List (A0×V)} {r:Rw},BD h kvs r->kvs.map (·.1)=(r.map (·.1)).map Sum.inl
 |[],[],_=>rfl
 |kv::r,x::p,⟨⟨l,e,_⟩,t⟩=>by rw[List.map_cons,List.map_cons,List.map_cons,t.keys,e]
 |[],_::_,h=>h.elim
 |_::_,[],h=>h.elim
theorem BD.get{h:Hp}{m:Int}:∀{kvs:List (A0×V)} {r:Rw},BD h kvs r->(A9 kvs (.inl m)=none/\KT.get r m=none)\/∃l ps,A9 kvs (.inl m)=some (.ref l)/\KT.get r m=some ps/\h l=some (.lst (ps.map V.int))
 |[],[],_=> .inl ⟨rfl,rfl⟩
 |kv::r,x::p,⟨⟨l,e,hl,n⟩,t⟩=>by
  subst e
  by_cases hx:x.1=m
  ·exact .inr ⟨l,x.2,B4 (by rw[hx]),by rw[KT.get,if_pos hx],hl⟩
  ·rw[B5 (fun e=>hx (NN e)),KT.get,if_neg hx]
   exact t.get
 |[],_::_,h=>h.elim
 |_::_,[],h=>h.elim
theorem Qk{kv:A0×V}{r:List (A0×V)}{k:A0}{v:V}(h:¬kv.1=k):D3 (kv::r) k v=kv::D3 r k v:=by
 unfold D3
 rw[BC,X8 h,Bool.false_or]
 split
 ·rw[List.map_cons,if_neg h]
 ·rfl
theorem Qj{r:List (A0×V)}{k:A0}{u v:V}(h:A9 r k=none):D3 ((k,u)::r) k v=(k,v)::r:=by
 unfold D3
 rw[BC,B7 rfl,Og,if_pos rfl,List.map_cons,if_pos rfl]
 congr 1
 have hn:(r.any fun kv=>decide (kv.1=k))=false:=by rw[W7,h];rfl
 rw[Zu] at hn
 have:∀y∈r,(fun kv:A0×V=>if kv.1=k then (kv.1,v) else kv) y=id y:=fun y hy=>if_neg (fun e=>hn y hy (B7 e))
 rw[JO this,List.map_id]
theorem BD.put{h:Hp}{m:Int}{l:Addr}{ps:List Int}(hl:h l=some (.lst (ps.map V.int))):∀{kvs:List (A0×V)} {r:Rw},BD h kvs r->BD h (D3 kvs (.inl m) (.ref l)) (KT.mod r m fun _=>ps)
 |[],[],_=>⟨⟨l,rfl,hl,rfl⟩,trivial⟩
 |kv::r,x::p,⟨⟨l',e,hl',n⟩,t⟩=>by
  subst e
  by_cases hx:x.1=m
  ·subst hx
   rw[KT.mod,if_pos rfl]
   have hv:A9 r (.inl x.1)=none:=by
    rcases t.get (m:=x.1) with ⟨h1,_⟩|⟨_,_,_,h2,_⟩
    ·exact h1
    ·rw[n] at h2;cases h2
   rw[Qj hv]
   exact⟨⟨l,rfl,hl,n⟩,t⟩
  ·rw[Qk (fun e=>hx (NN e)),KT.mod,if_neg hx]
   exact⟨⟨l',rfl,hl',by rw[D5 _ _ hx];exact n⟩,t.put hl⟩
 |[],_::_,h=>h.elim
 |_::_,[],h=>h.elim
def Rl(h:Hp)(o:HO)(r:Rw):Prop:=∃kvs,o= .dK kvs/\BD h kvs r
theorem Hk:RM Rl:=fun h h' o r s ⟨kvs,e,d⟩=>⟨kvs,e,d.same s⟩
theorem OS{α:Type}{da:Str->Addr}{F:List (Str×α)}{f:Str}{D:α}(h:get F f=some D):D3 (O0 da F) (.inr f) (.ref (da f))=O0 da F:=by
 unfold D3
 rw[W7,B6,h,if_pos (show (Option.map (fun _=>V.ref (da f)) (some D)).isSome=true from rfl)]
 have:∀y∈O0 da F,(fun kv:A0×V=>if kv.1=(.inr f) then (kv.1,V.ref (da f)) else kv) y=id y:=fun y hy=>by
  obtain⟨x,hx,rfl⟩:=n8.mp hy
  by_cases e:x.1=f
  ·show (if (.inr x.1:A0)= .inr f then _ else _)=_
   rw[if_pos (by rw[e]),e]
   rfl
  ·exact if_neg (fun z=>e (JC z))
 rw[JO this,List.map_id]
theorem Mx{H:Hp}{a:Addr}{o:HO}(h:H a=some o):i8 H a o=H:=by
 funext x
 unfold i8
 split
 ·rename_i e;rw[e,h]
 ·rfl
section
variable {G M:Hp} {b:Addr} {da:Str->Addr} {ra:Str->Str->Addr} {pa:Ay} {F:Fl}
theorem TAt.getF{f:Str}{p:Addr}(t:TAt Rl G M b da ra pa F)(hp:M p=none):∃(AW:Str->Addr) (G8:Ay),(A9 (O0 da F) (.inr f)).getD (.ref p)= .ref (AW f)/\
  TAt Rl G (i8 (i8 M p (.dK [])) b (.dK (D3 (O0 da F) (.inr f) ((A9 (O0 da F) (.inr f)).getD (.ref p))))) b AW ra G8 (KT.mod F f fun o=>o.getD [])/\
  Fr G pa M G8 (i8 (i8 M p (.dK [])) b (.dK (D3 (O0 da F) (.inr f) ((A9 (O0 da F) (.inr f)).getD (.ref p))))):=by
 have sp:=c7 hp (.dK [])
 cases e:get F f with
 |none=>
  refine⟨W6 da f p,W6 pa p (some [f]),?_⟩
  have ev:A9 (O0 da F) (.inr f)=none:=by rw[B6,e];rfl
  have nb:b≠p:=j4 t.top.1 hp
  rw[ev,Ij,P2 _ ev,J7 e,E4]
  exact⟨rfl,t.addF Hk e hp,(Fr.new hp fun a ha=>(t.own a ha).2).trans (Fr.own (q:=[]) (by rw[B2 nb];exact t.top.2) (by decide))⟩
 |some D=>
  refine⟨da,pa,?_⟩
  have ev:A9 (O0 da F) (.inr f)=some (.ref (da f)):=by rw[B6,e];rfl
  have em:KT.mod F f (fun o=>o.getD [])=F:=(B8 (by rw[e];rfl)).trans (Ck e)
  rw[ev,V6,OS e,Mx (sp _ _ t.top.1),em]
  exact⟨rfl,t.same Hk sp,Fr.same sp fun a ha=>(t.own a ha).2⟩
theorem TAt.getW{f w:Str}{D:Wt Str}{p:Addr}(t:TAt Rl G M b da ra pa F)(hf:get F f=some D)(hp:M p=none):∃(V3:Str->Str->Addr) (G8:Ay),(A9 (O0 (ra f) D) (.inr w)).getD (.ref p)= .ref (V3 f w)/\
  TAt Rl G (i8 (i8 M p (.dK [])) (da f) (.dK (D3 (O0 (ra f) D) (.inr w) ((A9 (O0 (ra f) D) (.inr w)).getD (.ref p))))) b da V3 G8 (KT.mod F f fun _=>KT.mod D w fun o=>o.getD [])/\
  Fr G pa M G8 (i8 (i8 M p (.dK [])) (da f) (.dK (D3 (O0 (ra f) D) (.inr w) ((A9 (O0 (ra f) D) (.inr w)).getD (.ref p))))):=by
 have sp:=c7 hp (.dK [])
 obtain⟨hd,h3⟩:=t.fld f D hf
 cases e:get D w with
 |none=>
  refine⟨W6 ra f (W6 (ra f) w p),W6 pa p (some [f,w]),?_⟩
  have ev:A9 (O0 (ra f) D) (.inr w)=none:=by rw[B6,e];rfl
  have nb:da f≠p:=j4 hd hp
  rw[ev,Ij,P2 _ ev,J7 e,E4,E4]
  exact⟨rfl,t.addW Hk hf e hp ⟨[],rfl,trivial⟩,(Fr.new hp fun a ha=>(t.own a ha).2).trans (Fr.own (q:=[f]) (by rw[B2 nb];exact h3) (by show 1<3;decide))⟩
 |some r=>
  refine⟨ra,pa,?_⟩
  have ev:A9 (O0 (ra f) D) (.inr w)=some (.ref (ra f w)):=by rw[B6,e];rfl
  have em:KT.mod D w (fun o=>o.getD [])=D:=(B8 (by rw[e];rfl)).trans (Ck e)
  rw[ev,V6,OS e,Mx (sp _ _ hd),em,Ck hf]
  exact⟨rfl,t.same Hk sp,Fr.same sp fun a ha=>(t.own a ha).2⟩
end
def PB(k:Nat)(m:Int)(f:Str)(F:Fl):Prop:=∀D w r ps,get F f=some D->get D w=some r->get r m=some ps->ps.length<=k
theorem PB.step{k:Nat}{m i:Int}{f w:Str}{F:Fl}(h:PB k m f F):PB (k+1) m f (KT.mod F f fun o=>GY m (o.getD []) w i):=by
 intro D' w' r' ps h1 h2 h3
 rw[x9] at h1
 cases h1
 have key:∀w r,get ((get F f).getD []) w=some r->∀ps,get r m=some ps->ps.length<=k:=fun w r e ps e'=>by
  cases eF:get F f with
  |none=>rw[eF] at e;cases e
  |some D=>rw[eF] at e;exact h D w r ps eF e e'
 unfold GY at h2
 by_cases e:w'=w
 ·subst e
  rw[x9] at h2
  cases h2
  rw[x9] at h3
  cases h3
  rw[y9,G3]
  cases eW:get ((get F f).getD []) w' with
  |none=>exact Nat.le_add_left _ _
  |some r=>
   rw[V6]
   cases eM:get r m with
   |none=>exact Nat.le_add_left _ _
   |some ps=>exact Nat.add_le_add_right (key w' r eW ps eM) 1
 ·rw[D5 _ _ e] at h2
  exact Rt (key w' r' h2 ps h3)
def KQ:Sp:=fun vs H Q _=>∃(a:Addr) (ms:List Mk) (xs:List V),vs=[.ref a]/\H a=some (.lst xs)/\c8 H (ms.map EL) xs/\Z8 ms/\mw (-1) ms/\∀b da ra pa H',TAt Rl H H' b da ra pa (J8 [] ms)->Q (.ref b) H'
def ZT{v0:Addr}{H:Hp}{Q:VK}{E:XK}:=show KQ [.ref v0] H Q E=_ by
 simpa only[KQ]
 rfl
theorem BX:FnScope ["_law_makes_here","_law_found","_law_make","_law_document_here","_law_field","_law_text_here","_law_at","_law_word","_law_words_here","_law_rows"] ["_law_makes_here"] (i3 Qah):=by ac_rfl
def TI(G:Hp)(b:Addr)(F:Fl)(L:Hp):Prop:=∃(da:Str->Addr) (ra:Str->Str->Addr) (pa:Ay),TAt Rl G L b da ra pa F
theorem TI.bs{G L:Hp}{b:Addr}{F:Fl}(h:TI G b F L):i6 G L:=by
 obtain⟨_,_,_,t⟩:=h
 exact t.base
def Qb7(G:Hp)(a b:Addr)(ms:List Mk)(i:Nat)(σ:St)(L:Hp):Prop:=∃v2 v3 v4 v5 v6 v7 v8 v9:Option V,σ=[some (.ref a),some (.ref b),v2,v3,v4,v5,v6,v7,v8,v9]/\TI G b (J8 [] (ms.take i)) L/\Sz (20*i*1000) (J8 [] (ms.take i))
def YO(G:Hp)(a b:Addr)(ms:List Mk)(m:Mk)(d:V)(i j:Nat)(σ:St)(L:Hp):Prop:=∃v4 v5 v6 v7 v8 v9:Option V,σ=[some (.ref a),some (.ref b),some (.int m.1),some d,v4,v5,v6,v7,v8,v9]/\TI G b (Y7 m.1 (J8 [] (ms.take i)) (m.2.take j)) L/\Sz ((20*i+j)*1000) (Y7 m.1 (J8 [] (ms.take i)) (m.2.take j))
def YN(G:Hp)(a b wl:Addr)(m:Mk)(d:V)(y:Az)(F0:Fl)(ws:List Str)(k:Nat)(σ:St)(L:Hp):Prop:=∃v6 v7 v8 v9:Option V,σ=[some (.ref a),some (.ref b),some (.int m.1),some d,some (.str y.1),some (.str y.2),v6,v7,v8,v9]/\
 (∃(da:Str->Addr) (ra:Str->Str->Addr) (pa:Ay),TAt Rl G L b da ra pa (Bi m.1 y.1 F0 0 (ws.take k))/\pa wl=none)/\L wl=some (.lst (ws.map V.str))/\PB k m.1 y.1 (Bi m.1 y.1 F0 0 (ws.take k))
theorem QaM{gw:Addr}{dw':FuncData}(F:Fun K "_law_table" "_law_table" Qah f fd)(T:Txt mg)(GLW:FnOk P w K mg bs0 D7 1 gw dw' ["_law_text_here"] Q3)(bLW:Binds K dw' ["_law_text_here"] [])(kLW:PySem.W.keepIn K (.ref gw)=true)(mLW:mg "_law_words"=some (.ref gw)):FnOk P w K mg bs0 D7 2 f fd ["_law_makes_here"] KQ:=by
 refine F.ok BX (fun vs H Q E h=> ?_) (fun E6 A outer s H vs Q E hr h=> ?_)
 ·obtain⟨a,ms,xs,rfl,_⟩:=h
  rfl
 obtain⟨a,ms,xs,rfl,ha,hD,⟨hl,CG⟩,V0,q⟩:=h
 have szl:=B9
 refine⟨_,(e7 (k8 (i:=1) BX.nd rfl (Or.inl rfl) C5)
  (e7 (y7 B3 rfl (l6 K (i9 0)) (GV K (n:=2) rfl (j9 (i5 (i:=2) BX.nd rfl (Or.inl rfl)) (j9 (i5 (i:=3) BX.nd rfl (Or.inl rfl)) C4)))
   (h8 (y7 B3 rfl (l6 K (i9 3)) (GV K (n:=2) rfl (j9 (i5 (i:=4) BX.nd rfl (Or.inl rfl)) (j9 (i5 (i:=5) BX.nd rfl (Or.inl rfl)) C4)))
   (h8 (y7 B3 rfl (CU rfl T.enumerate (c5 (j7 GLW hr rfl mLW kLW bLW .nil k9 (c5 (i9 5) e6)) e6)) (GV K (n:=2) rfl (j9 (i5 (i:=6) BX.nd rfl (Or.inl rfl)) (j9 (i5 (i:=7) BX.nd rfl (Or.inl rfl)) C4)))
   (e7 (k8 (i:=8) BX.nd rfl (Or.inl rfl) (P5 (E3 hr) (i9 1) (i9 4) C5 ⟨rfl,rfl,rfl,rfl⟩))
  (e7 (U4 (E3 hr) (i9 1) (i9 4) (i9 8) rfl)
  (e7 (k8 (i:=9) BX.nd rfl (Or.inl rfl) (P5 (E3 hr) (i9 8) (i9 7) C5 ⟨rfl,rfl,rfl,rfl⟩))
  (e7 (U4 (E3 hr) (i9 8) (i9 7) (i9 9) rfl)
  (h8 (U4 (E3 hr) (i9 9) (i9 2) (u5 X1 (P5 (E3 hr) (i9 9) (i9 2) (u6 e6) ⟨rfl,rfl,rfl,rfl⟩) (u6 (c5 (i9 6) e6))) rfl)))))))))))
  (h8 (q9 (i9 1))))),?_⟩
 and_intros
 simpa only[↓Z2,Q3,↓K9,↓Z9,↓AN,GU]
 intro b hb
 have Fa:xs.length=ms.length:=by have:=hD.length;rwa [i4] at this
 have nab:a≠b:=j4 ha hb
 have t0:TI H b [] (i8 H b (.dK [])):=⟨fun _=>0,fun _ _=>0,W6 (fun _=>none) b (some []),c7 hb _,fun c hc=>by
  by_cases e:c=b
  ·rw[e];exact⟨hb,by rw[c6];intro z;cases z⟩
  ·rw[B2 e] at hc;exact absurd rfl hc,⟨c6,E4⟩,fun f D h=>(by cases h),fun f D w r h=>(by cases h)⟩
 refine⟨⟨xs,l7.of (w9 ha hb)⟩,w4 xs (Qb7 H a b ms) ⟨_,_,_,_,_,_,_,_,rfl,t0,⟨o8 _,fun x hx=>(by cases hx)⟩⟩ ?_ ?_ ?_⟩
 ·rintro i σ L hi ⟨v2,v3,v4,v5,v6,v7,v8,v9,rfl,ti,_⟩
  exact l7.of (ti.bs _ _ ha)
 ·rintro i y σ L hy ⟨v2,v3,v4,v5,v6,v7,v8,v9,rfl,ti,hsz⟩
  obtain⟨dv,h1,h2⟩:=hD.get hy
  rw[u8] at h1
  obtain⟨m,hm,rfl⟩:=o7.mp h1
  obtain⟨b',c,zs,rfl,hb',hc,hz⟩:=Ad h2
  have EK:m∈ms:=E8 hm
  have EB:i<ms.length:=(u4.mp hm).1
  simpa only[o9]
  refine⟨_,W3.of (ti.bs _ _ hb'),rfl,?_⟩
  simpa only[o9]
  refine⟨⟨zs,l7.of (ti.bs _ _ hc)⟩,w4 zs (YO H a b ms m (.ref c) i) ⟨_,_,_,_,_,_,rfl,ti,hsz⟩ ?_ ?_ ?_⟩
  ·rintro j σ L hj ⟨v4,v5,v6,v7,v8,v9,rfl,tj,_⟩
   exact l7.of (tj.bs _ _ hc)
  ·rintro j y σ L hyj ⟨v4,v5,v6,v7,v8,v9,rfl,tj,Db⟩
   obtain⟨dv,h1,h2⟩:=hz.get hyj
   rw[u8] at h1
   obtain⟨fl,Xy,rfl⟩:=o7.mp h1
   obtain⟨t,rfl,ht⟩:=FV h2
   have hfm:fl∈m.2:=E8 Xy
   have VW:j<m.2.length:=(u4.mp Xy).1
   obtain⟨b1,b2,b3⟩:=(CG m EK).2 fl hfm
   have hm20:=(CG m EK).1
   have nd:=(U8 (Lw V0 hm).2.1).2
   have dok:=Ff (Ow (F:=[]) V0 (fun y hy=>(by cases hy)) hm) nd j (by omega)
   have Kv:XV m.1 ((get (Y7 m.1 (J8 [] (ms.take i)) (m.2.take j)) fl.1).getD []):=by
    rw[U2 VW,(u4.mp Xy).2] at dok
    exact dok.at_.free
   simpa only[o9]
   refine⟨_,W3.of (tj.bs _ _ ht),rfl,?_⟩
   simpa only[↓Z2,Q3,↓K9,↓Z9,↓AN,GU]
   refine⟨by omega,b3,fun wl L1 s1 Nk hwv=> ?_⟩
   have hwn:=T7 b2
   have eF:=Jq (m:=m.1) (F:=J8 [] (ms.take i)) Xy
   unfold YO
   rw[eF]
   have e20:(20*i+j)*1000+1000=(20*i+(j+1))*1000:=by omega
   generalize Y7 m.1 (J8 [] (ms.take i)) (m.2.take j)=F0 at tj Db Kv⊢
   generalize hws:A6 fl.2=ws at hwv hwn⊢
   obtain⟨da,ra,pa,tt⟩:=tj
   have hwlp:pa wl=none:=G2 fun e=>(tt.own wl e).2 Nk
   have gwl:H wl=none:=tt.base.free Nk
   have hnl:(ws.map V.str).length=ws.length:=i4 _
   refine⟨⟨_,l7.of hwv⟩,BR (ws.map V.str) (YN H a b wl m (.ref c) fl F0 ws) ⟨_,_,_,_,rfl,⟨da,ra,pa,tt.same Hk s1,hwlp⟩,hwv,fun D w r ps g1 g2 g3=> ?_⟩ ?_ ?_ ?_⟩
   ·rw[Aj] at g1
    have g1':get F0 fl.1=some D:=g1
    rw[g1'] at Kv
    have:=Kv w r g2
    rw[g3] at this
    cases this
   ·rintro k σ L hk ⟨v6,v7,v8,v9,rfl,_,hv,_⟩
    exact l7.of hv
   ·rintro k y T σ L hyk ⟨v6,v7,v8,v9,rfl,⟨da,ra,pa,tk,hwp⟩,hv,hpb⟩ hT
    rw[u8] at hyk
    obtain⟨wd,Ua,rfl⟩:=o7.mp hyk
    have hkl:k<ws.length:=(u4.mp Ua).1
    have ek:Bi m.1 fl.1 F0 0 (ws.take (k+1))=KT.mod (Bi m.1 fl.1 F0 0 (ws.take k)) fl.1 fun o=>GY m.1 (o.getD []) wd (k:Int):=by
     rw[x6,Ua]
     show Bi m.1 fl.1 F0 0 (ws.take k++[wd])=_
     rw[HH,A4,Eg (by omega),NR]
    have hsk:Sz ((20*i+j)*1000+1000) (Bi m.1 fl.1 F0 0 (ws.take k)):=by
     rw[HI Kv]
     exact Fh Db (by rw[A4];omega)
    have hpb':=hpb.step (w:=wd) (i:=(k:Int))
    unfold YN
    rw[ek]
    generalize Bi m.1 fl.1 F0 0 (ws.take k)=F1 at tk hpb hpb' hsk⊢
    have sT:=c7 hT (.tup [.int k, .str wd])
    simpa only[o9]
    refine⟨_,W3.of c6,rfl,?_⟩
    simpa only[↓Z2,Q3,↓K9,↓Z9,↓AN,GU]
    have tT:=tk.same Hk sT
    have hvT:=sT _ _ hv
    generalize i8 L T (.tup [.int k, .str wd])=M at tT hvT⊢
    refine⟨.inl ⟨_, .inl tT.top.1⟩,fun p hp=> ?_⟩
    have sp:=c7 hp (.dK [])
    obtain⟨da1,pa1,e1,t1,f1⟩:=tT.getF (f:=fl.1) hp
    refine⟨_,V7.k (k:= .inr fl.1) (sp _ _ tT.top.1),_,BG.k (k:= .inr fl.1) (sp _ _ tT.top.1) (by rw[Q4];have:=hsk.1;omega),?_⟩
    rw[e1] at t1 f1⊢
    obtain⟨hv1,hp1⟩:=f1.at_ hvT gwl hwp
    generalize i8 (i8 M p (.dK [])) b (.dK (D3 (O0 da F1) (.inr fl.1) (.ref (da1 fl.1))))=M1 at t1 f1 hv1⊢
    have g1:get (KT.mod F1 fl.1 fun o=>o.getD []) fl.1=some ((get F1 fl.1).getD []):=x9 ..
    have hsF:=hsk.at_ (f:=fl.1)
    obtain⟨hd1,hd2⟩:=t1.fld fl.1 _ g1
    refine⟨_,rfl, .inl ⟨_, .inl hd1⟩,fun p2 hp2=> ?_⟩
    have sp2:=c7 hp2 (.dK [])
    obtain⟨ra2,pa2,e2,t2,f2⟩:=t1.getW (w:=wd) g1 hp2
    refine⟨_,V7.k (k:= .inr wd) (sp2 _ _ hd1),_,rfl,_,BG.k (k:= .inr wd) (sp2 _ _ hd1) (by rw[Q4];have:=hsF.1;omega),?_⟩
    rw[e2] at t2 f2⊢
    obtain⟨hv2,hp2'⟩:=f2.at_ hv1 gwl hp1
    generalize i8 (i8 M1 p2 (.dK [])) (da1 fl.1) (.dK (D3 (O0 (ra fl.1) ((get F1 fl.1).getD [])) (.inr wd) (.ref (ra2 fl.1 wd))))=M2 at t2 f2 hv2⊢
    have g2:get (KT.mod (KT.mod F1 fl.1 fun o=>o.getD []) fl.1 fun _=>KT.mod ((get F1 fl.1).getD []) wd fun o=>o.getD []) fl.1=some (KT.mod ((get F1 fl.1).getD []) wd fun o=>o.getD []):=x9 ..
    have g3:get (KT.mod ((get F1 fl.1).getD []) wd fun o=>o.getD []) wd=some ((get ((get F1 fl.1).getD []) wd).getD []):=x9 ..
    obtain⟨⟨o,hr1,kvs,rfl,hrl⟩,hr2⟩:=t2.row fl.1 _ wd _ g2 g3
    have hkl2:kvs.length<sizeLine:=by
     have e:=congrArg List.length hrl.keys
     rw[i4,i4,i4] at e
     cases eW:get ((get F1 fl.1).getD []) wd with
     |none=>rw[eW] at e;rw[e];show 0<sizeLine;omega
     |some r=>rw[eW] at e;have:=hsF.2 _ (D6 eW);rw[e];simp only[V6];simp only at this;omega
    refine⟨_,rfl, .inl ⟨_, .inl hr1⟩,o8 _,fun p3 hp3=> ?_⟩
    have sp3:=c7 hp3 (.lst [])
    refine⟨_,V7.k (k:= .inl m.1) (sp3 _ _ hr1),by decide,fun p4 hp4=> ?_⟩
    have sp4:=sp3.trans (c7 hp4 (.lst [.int (k:Int)]))
    suffices key:∃(l:Addr) (ps:List Int),(A9 kvs (.inl m.1)).getD (.ref p3)= .ref l/\(i8 (i8 M2 p3 (.lst [])) p4 (.lst [.int (k:Int)])) l=some (.lst (ps.map V.int))/\ps=(get ((get ((get F1 fl.1).getD []) wd).getD []) m.1).getD []/\ps.length<=k by
     obtain⟨l,ps,k1,k2,k3,k4⟩:=key
     refine⟨l,k1,_,k2,_,c6,by rw[i4,G3];omega,fun p5 hp5=> ?_⟩
     have sp5:=sp4.trans (c7 hp5 (.lst (ps.map V.int++[.int (k:Int)])))
     refine⟨_,rfl,_,BG.k (k:= .inl m.1) (sp5 _ _ hr1) hkl2,?_,?_,hpb'⟩
     ·have t3:=t2.same Hk sp5
      have hp5':pa2 p5=none:=G2 fun e=>(t2.own p5 e).2 (sp4.free hp5)
      have g5:H p5=none:=(t2.base.trans sp4).free hp5
      have hR:BD (CF H pa2 (i8 (i8 (i8 M2 p3 (.lst [])) p4 (.lst [.int (k:Int)])) p5 (.lst (ps.map V.int++[.int (k:Int)])))) (D3 kvs (.inl m.1) (.ref p5)) (KT.mod ((get ((get F1 fl.1).getD []) wd).getD []) m.1 fun _=>ps++[(k:Int)]):=
       BD.put (Ab (by rw[c6,n6];rfl) g5 hp5') (hrl.same (Dc sp5))
      have t4:=t3.chg g2 g3 (o:= .dK (D3 kvs (.inl m.1) (.ref p5))) ⟨_,rfl,hR⟩
      refine⟨da1,ra2,pa2,?_,hp2'⟩
      rw[M7,M7,M7] at t4
      have eE:(KT.mod F1 fl.1 fun o=>GY m.1 (o.getD []) wd (k:Int))=KT.mod F1 fl.1 fun _=>KT.mod ((get F1 fl.1).getD []) wd fun _=>KT.mod ((get ((get F1 fl.1).getD []) wd).getD []) m.1 fun _=>ps++[(k:Int)]:=by
       apply B8
       show GY m.1 ((get F1 fl.1).getD []) wd (k:Int)=_
       unfold GY
       apply B8
       show KT.mod ((get ((get F1 fl.1).getD []) wd).getD []) m.1 _=_
       apply B8
       rw[k3]
      rw[eE]
      exact t4
     ·have nw:wl≠ra2 fl.1 wd:=Ex hv2 hr1 (by intro z;cases z)
      rw[g9 nw]
      exact sp5 _ _ hv2
    rcases hrl.get (m:=m.1) with ⟨z1,z2⟩|⟨l,ps,z1,z2,z3⟩
    ·exact⟨p3,[],by rw[z1];rfl,(c7 hp4 _) _ _ c6,by rw[z2];rfl,o8 _⟩
    ·refine⟨l,ps,by rw[z1];rfl,sp4 _ _ (Bo z3).1,by rw[z2];rfl,?_⟩
     cases eW:get ((get F1 fl.1).getD []) wd with
     |none=>rw[eW] at z2;cases z2
     |some r=>
      rw[eW] at z2
      cases eF1:get F1 fl.1 with
      |none=>rw[eF1] at eW;cases eW
      |some D=>rw[eF1] at eW;exact hpb D wd r ps eF1 eW z2
   ·rintro σ L ⟨v6,v7,v8,v9,rfl,⟨da,ra,pa,tk,hwp⟩,hv,hpb⟩
    rw[hnl,y8,HI Kv] at tk
    exact⟨_,_,_,_,_,_,rfl,⟨da,ra,pa,tk⟩,by rw[<-e20];exact Fh Db hwn⟩
  ·rintro σ L ⟨v4,v5,v6,v7,v8,v9,rfl,tj,Db⟩
   have Pk:zs.length=m.2.length:=by have:=hz.length;rwa [i4] at this
   rw[Pk,y8] at tj Db
   have:=(CG m EK).1
   have e1:=Ox (F:=[]) hm
   exact⟨_,_,_,_,_,_,_,_,rfl,by rw[e1];exact tj,by rw[e1];exact Db.mono (by omega)⟩
 ·rintro σ L ⟨v2,v3,v4,v5,v6,v7,v8,v9,rfl,⟨da,ra,pa,t⟩,_⟩
  rw[Fa,y8] at t
  simpa only[o9]
  exact q b da ra pa L t
theorem HB:∀{l:List Str} {p:Str},PyProof.Rows.risingS p l=true->(∀y∈l,¬y.cps.toList<p.cps.toList)/\l.Pairwise fun a b=>¬b.cps.toList<a.cps.toList
 |[],p,_=>⟨fun y hy=>(by cases hy),List.Pairwise.nil⟩
 |x::r,p,h=>by
  have h1:(!PySem.Spec.ltCps x.cps.toList p.cps.toList&&PyProof.Rows.risingS x r)=true:=h
  rw[Q7,Vl] at h1
  obtain⟨h2,h3⟩:=h1
  have h4:¬x.cps.toList<p.cps.toList:=by
   intro z
   rw[B7 z] at h2
   cases h2
  obtain⟨i1,i2⟩:=HB h3
  refine⟨fun y hy=> ?_,Cw.mpr ⟨i1,i2⟩⟩
  rcases C8.mp hy with e|hy
  ·rw[e];exact h4
  ·exact DT.mpr (List.le_trans (DT.mp h4) (DT.mp (i1 y hy)))
theorem Hx{l:List Str}(h:PyProof.Rows.sortedS l=true):l.Pairwise fun a b=>¬b.cps.toList<a.cps.toList:=by
 cases l with
 |nil=>exact List.Pairwise.nil
 |cons x r=>
  obtain⟨h1,h2⟩:=HB (p:=x) (l:=r) h
  exact Cw.mpr ⟨h1,h2⟩
theorem Fx{l m k:List Str}(h:PyProof.Rows.sortedS l=true)(h':PyProof.Rows.sortedS m=true)(p:l.Perm k)(p':m.Perm k):l=m:=by
 refine JQ (fun a b _ _ h1 h2=> ?_) (Hx h) (Hx h') (p.trans p'.symm)
 have e:a.cps.toList=b.cps.toList:=List.le_antisymm (DT.mp h1) (DT.mp h2)
 obtain⟨as⟩:=a
 obtain⟨bs⟩:=b
 exact congrArg Str.mk (Array.toList_inj.mp e)
theorem Pu{m:Int}:∀{d:List Az} {n:Nat} {F:Fl},(∀y∈d,y.2.length<=500)->Sz n F->Sz (n+1000*d.length) (Y7 m F d)
 |[],n,F,_,h=>h
 |y::d,n,F,hd,h=>by
  have:=Pu (m:=m) (d:=d) (fun z hz=>hd z (B1 _ hz)) (Fh (m:=m) (f:=y.1) h (T7 (hd y A5)))
  rw[List.length_cons]
  exact this.mono (by omega)
theorem Ov:∀{ms:List Mk} {n:Nat} {F:Fl},(∀m∈ms,m.2.length<=20/\∀y∈m.2,y.1.length<=1000/\y.2.length<=500/\Fi y.2)->Sz n F->Sz (n+20000*ms.length) (J8 F ms)
 |[],n,F,_,h=>h
 |m::ms,n,F,hm,h=>by
  have h1:=hm m A5
  have:=Ov (ms:=ms) (fun z hz=>hm z (B1 _ hz)) (Pu (m:=m.1) (fun y hy=>(h1.2 y hy).2.1) h)
  rw[List.length_cons]
  exact this.mono (by omega)
theorem MC{ms:List Mk}(h:Z8 ms):Sz 400000 (J8 [] ms):=(Ov (F:=[]) (n:=0) h.2 ⟨o8 _,fun x hx=>(by cases hx)⟩).mono (by have:=h.1;omega)
theorem Th:∀{ws:List Str} {p:Pl Str} {i:Int} {n:Nat},(∀x∈p,x.2.length<=n)->∀x∈W9 p i ws,x.2.length<=n+ws.length
 |[],p,i,n,h=>h
 |w::ws,p,i,n,h=>fun x hx=>by
  have:=Th (ws:=ws) (i:=i+1) (PU (w:=w) (i:=i) h) x hx
  rw[List.length_cons]
  omega
def Mo(S:Int×List Int->Prop)(D:Wt Str):Prop:=∀y∈D,∀q∈y.2,S q
theorem FB{S:Int×List Int->Prop}{m:Int}:∀{p:Pl Str} {D:Wt Str},(∀x∈p,S (m,x.2))->Mo S D->Mo S (putAll m D p)
 |[],D,_,h=>h
 |x::p,D,hp,h=>FB (p:=p) (D:=R0 m D x) (fun z hz=>hp z (B1 _ hz)) fun y hy q hq=>by
  rcases Q0 hy with e|e
  ·exact h y e q hq
  ·subst e
   rcases D8.mp hq with hq|hq
   ·cases eD:get D x.1 with
    |none=>rw[eD] at hq;cases hq
    |some r=>rw[eD] at hq;exact h _ (D6 eD) q hq
   ·rw[x8.mp hq];exact hp x A5
theorem VN{S:Int×List Int->Prop}{m:Int}{F:Fl}{f:Str}{ws:List Str}(hp:∀x∈W9 [] 0 ws,S (m,x.2))(h:∀x∈F,Mo S x.2):∀x∈Y9 m F f ws,Mo S x.2:=by
 unfold Y9
 split
 ·exact h
 ·intro x hx
  rcases Q0 hx with e|e
  ·exact h x e
  ·subst e
   refine FB hp ?_
   cases eF:get F f with
   |none=>intro y hy;cases hy
   |some D=>exact h _ (D6 eF)
theorem LR{S:Int×List Int->Prop}{m:Int}:∀{d:List Az} {F:Fl},(∀y∈d,∀x∈W9 [] 0 (A6 y.2),S (m,x.2))->(∀x∈F,Mo S x.2)->∀x∈Y7 m F d,Mo S x.2
 |[],F,_,h=>h
 |y::d,F,hp,h=>LR (d:=d) (F:=Y9 m F y.1 (A6 y.2)) (fun z hz=>hp z (B1 _ hz)) (VN (hp y A5) h)
theorem KG{S:Int×List Int->Prop}:∀{ms:List Mk} {F:Fl},(∀m∈ms,∀y∈m.2,∀x∈W9 [] 0 (A6 y.2),S (m.1,x.2))->(∀x∈F,Mo S x.2)->∀x∈J8 F ms,Mo S x.2
 |[],F,_,h=>h
 |m::ms,F,hp,h=>KG (ms:=ms) (F:=Y7 m.1 F m.2) (fun z hz=>hp z (B1 _ hz)) (LR (hp m A5) h)
theorem OC:∀{ns l:List Int},ns.Pairwise (· < ·)->(∀n∈ns,n∈l)->ns.length<=l.length
 |[],l,_,_=>o8 _
 |n::ns,l,hp,hs=>by
  rw[Cw] at hp
  have hn:=hs n A5
  have:=OC (l:=l.erase n) hp.2 fun k hk=>(Vj (by have:=hp.1 k hk;omega)).mpr (hs k (B1 _ hk))
  rw[Vi hn] at this
  have:=Vg hn
  rw[List.length_cons]
  omega
structure RowOk(ms:List Mk)(r:Rw):Prop where
 up:(r.map (·.1)).Pairwise (· < ·)
 few:r.length<=20
 pl:∀q∈r,q.2.length<=1000
theorem IM{ms:List Mk}(h:Z8 ms)(hm:mw (-1) ms)(fl wd:Str):RowOk ms (u0 ms fl wd):=by
 have hnil:RowOk ms []:=⟨List.Pairwise.nil,o8 _,fun q hq=>(by cases hq)⟩
 unfold u0 Z0
 cases e:get (J8 [] ms) fl with
 |none=>exact hnil
 |some D=>
  rw[V6]
  cases e2:get D wd with
  |none=>exact hnil
  |some r=>
   obtain⟨M,hM⟩:=Fn (F:=[]) hm fun y hy=>(by cases hy)
   have up:(r.map (·.1)).Pairwise (· < ·):=(hM _ (D6 e) _ (D6 e2)).1
   have al:=KG (S:=fun q=>q.1∈ms.map (·.1)/\q.2.length<=1000) (F:=[]) (ms:=ms) (fun m hm y hy x hx=>⟨n8.mpr ⟨m,hm,rfl⟩,by
    have h1:=Th (n:=0) (p:=[]) (fun x hx=>(by cases hx)) x hx
    have h2:=T7 ((h.2 m hm).2 y hy).2.1
    show x.2.length<=1000
    omega⟩) (fun x hx=>(by cases hx)) _ (D6 e) _ (D6 e2)
   refine⟨up,?_,fun q hq=>(al q hq).2⟩
   have:=OC up fun n hn=>by
    obtain⟨q,hq,rfl⟩:=n8.mp hn
    exact(al q hq).1
   rw[i4,i4] at this
   have:=h.1
   exact E7 (show r.length<=ms.length by assumption) this
theorem BD.at_{h:Hp}:∀{kvs:List (A0×V)} {r:Rw} {i:Nat} {q:Int×List Int},BD h kvs r->r[i]? =some q->∃l,A9 kvs (.inl q.1)=some (.ref l)/\h l=some (.lst (q.2.map V.int))
 |kv::r,x::p,0,q,⟨⟨l,e,hl,n⟩,t⟩,hq=>by
  simp at hq
  subst hq e
  exact⟨l,B4 rfl,hl⟩
 |kv::r,x::p,i+1,q,⟨⟨l,e,hl,n⟩,t⟩,hq=>by
  have hq':p[i]? =some q:=by simpa using hq
  have hx:¬x.1=q.1:=fun z=>by
   have:=Q2.mpr (n8.mpr ⟨q,E8 hq',rfl⟩)
   rw[<-z,n] at this
   cases this
  subst e
  obtain⟨l',h1,h2⟩:=t.at_ hq'
  exact⟨l',by rw[B5 (fun e=>hx (NN e))];exact h1,h2⟩
 |[],[],i,q,_,hq=>by simp at hq
 |[],_::_,_,_,h,_=>h.elim
 |_::_,[],_,_,h,_=>h.elim
def RAt(L:Hp)(a:Addr)(r:Rw):Prop:=∃kvs,L a=some (.dK kvs)/\BD L kvs r
theorem RAt.same{L M:Hp}{a:Addr}{r:Rw}(h:RAt L a r)(s:i6 L M):RAt M a r:=by
 obtain⟨kvs,h1,h2⟩:=h
 exact⟨kvs,s _ _ h1,h2.same s⟩
def XS(L:Hp)(a:Addr)(D:Wt Str):Prop:=∃g:Str->Addr,L a=some (.dK (O0 g D))/\∀w r,get D w=some r->RAt L (g w) r
theorem XS.same{L M:Hp}{a:Addr}{D:Wt Str}(h:XS L a D)(s:i6 L M):XS M a D:=by
 obtain⟨g,h1,h2⟩:=h
 exact⟨g,s _ _ h1,fun w r e=>(h2 w r e).same s⟩
theorem XS.nil{L:Hp}{a:Addr}(h:L a=some (.dK [])):XS L a []:=⟨fun _=>0,h,fun w r e=>(by cases e)⟩
theorem TAt.wat{G L:Hp}{b:Addr}{da:Str->Addr}{ra:Str->Str->Addr}{pa:Ay}{F:Fl}(t:TAt Rl G L b da ra pa F){f:Str}{D:Wt Str}(e:get F f=some D):XS L (da f) D:=
 ⟨ra f,(t.fld f D e).1,fun w r e2=>by
  obtain⟨⟨o,h1,kvs,rfl,h2⟩,_⟩:=t.row f D w r e e2
  exact⟨kvs,h1,h2.same fun a u h=>(Bo h).1⟩⟩
theorem Pt{f:Str}:∀{d:List Az},A9 (d.map fun x=>((.inr x.1:A0),V.str x.2)) (.inr f)=(get d f).map V.str
 |[]=>rfl
 |x::d=>by
  rw[List.map_cons]
  by_cases h:x.1=f
  ·rw[B4 (by rw[h]),KT.get,if_pos h];rfl
  ·rw[B5 (fun e=>h (JC e)),KT.get,if_neg h];exact Pt
theorem Ra(l:List Str):AI (l.map DV.str)<=0:=Fg fun d hd=>by
 obtain⟨x,_,rfl⟩:=n8.mp hd
 simp [Jr]
theorem LU(l:List Str):Jr (.lst (l.map DV.str))<=60:=by rw[Jr];have:=Ra l;omega
theorem UC(r:Rw):Jr (.lst (r.map Fe))<=60:=by
 have:AI (r.map Fe)<=2:=Fg fun d hd=>by
  obtain⟨x,_,rfl⟩:=n8.mp hd
  rw[Fe,Jr,AI,AI,AI,Jr,HW]
  simp [Jr]
 rw[Jr]
 omega
theorem An{H:Hp}:∀l:List Str,c8 H (l.map DV.str) (l.map V.str)
 |[]=>c8.nil
 |x::l=>by
  rw[List.map_cons,List.map_cons,c8]
  exact⟨_,_,rfl,by rw[k7],An l⟩
theorem K6{H:Hp}{a:Addr}{ds:List DV}{xs:List V}(h:H a=some (.lst xs))(d:c8 H ds xs):k7 H (.lst ds) (.ref a):=by
 rw[k7]
 exact⟨a,xs,rfl,h,d⟩
def KP(C:Addr):Sp:=fun vs H Q _=>∃(x a:Addr) (ms:List Mk) (xs:List V),vs=[.ref x, .ref a]/\W4 C H x ms/\H a=some (.lst xs)/\c8 H (ms.map EL) xs/\Z8 ms/\mw (-1) ms/\∀H',i6 H H'->Q (.bl true) H'
def ZS{C:Addr}{v0:Addr}{v1:Addr}{H:Hp}{Q:VK}{E:XK}:=show KP C [.ref v0, .ref v1] H Q E=_ by
 simpa only[KP]
 rfl
theorem Hr{K:j6}{H:Hp}{p:Addr}{kvs:List (A0×V)}(h:H p=some (.dK kvs)):tyV K "dict" (.ref p) H:= .inr (.inr (.inl ⟨rfl, .inl ⟨_,h⟩⟩))
theorem W4.ins{C x:Addr}{M:Hp}{ms:List Mk}(h:W4 C M x ms):∃dx fs,M x=some (.ins C dx fs)/\fs.lookup ("fields":Str)=none/\fs.lookup ("words":Str)=none/\fs.lookup ("postings":Str)=none/\fs.lookup ("length":Str)=none/\fs.lookup ("makes":Str)=none:=by
 obtain⟨dx,om,B,N,da,ra,pa,F,T,h1,_⟩:=h
 exact⟨dx,_,h1,rfl,rfl,rfl,rfl,rfl⟩
theorem EE(ys:List Str):ys.map V.str++[V.str "nothing"]=(ys++[("nothing":Str)]).map V.str:=by rw[n6];rfl
theorem w6{a b:TS}{D:Ends}{σ:St}{H:Hp}(Iv:St->Hp->Prop)(hb:∀σ' H',Iv σ' H'->b D σ' H')(ha:∀N:St->Hp->Prop,(∀σ' H',Iv σ' H'->N σ' H')->a {D with nx:=N} σ H):Qc a b D σ H:=ha _ hb
theorem Bf:FnScope ["_law_thing","_law_makes_here","_law_table_here","_law_field","_law_words_here","_law_word","_law_rows","_law_told","_law_make","_law_places","_law_document_here"] ["_law_thing","_law_makes_here"] (i3 SU):=by ac_rfl
def Qb6(H1:Hp)(x a b:Addr)(_:Nat)(σ:St)(L:Hp):Prop:=∃v3 v4 v5 v6 v7 v8 v9 v10:Option V,σ=[some (.ref x),some (.ref a),some (.ref b),v3,v4,v5,v6,v7,v8,v9,v10]/\i6 H1 L
def YL(H1:Hp)(x a b wh:Addr)(fl:Str)(_:Nat)(σ:St)(L:Hp):Prop:=∃v5 v6 v7 v8 v9 v10:Option V,σ=[some (.ref x),some (.ref a),some (.ref b),some (.str fl),some (.ref wh),v5,v6,v7,v8,v9,v10]/\i6 H1 L
def YM(H1:Hp)(x a b wh:Addr)(fl:Str)(v5 v6 v7:Option V)(_:Nat)(σ:St)(L:Hp):Prop:=∃v8 v9 v10:Option V,σ=[some (.ref x),some (.ref a),some (.ref b),some (.str fl),some (.ref wh),v5,v6,v7,v8,v9,v10]/\i6 H1 L
def Qb5(H1:Hp)(rh:Addr)(r:Rw)(i:Nat)(ys:List V)(σ:St)(L:Hp):Prop:=∃v0:Option V,σ=[v0,some (.ref rh)]/\i6 H1 L/\c8 L ((r.take i).map Fe) ys
def Qb8(H1:Hp)(_:Nat)(ys:List V)(σ:St)(L:Hp):Prop:=∃v0:Option V,σ=[v0]/\i6 H1 L/\ys=[]
theorem QaL{C gf gw gp gl gt gx:Addr}{df dw' dp dl dt dx':FuncData}(F:Fun K "_law_tells" "_law_tells" SU f fd)(T:Txt mg)(cl:Cls K C)
  (mPF:Meth K C "fields" gf)(GPF:FnOk P w K mg bs0 D7 1 gf df ["self"] (IG C))(bPF:Binds K df ["self"] [])
  (mPW:Meth K C "words" gw)(GPW:FnOk P w K mg bs0 D7 1 gw dw' ["self","field"] (IE C))(bPW:Binds K dw' ["self","field"] [])
  (mPP:Meth K C "postings" gp)(GPP:FnOk P w K mg bs0 D7 1 gp dp ["self","field","word"] (IF C))(bPP:Binds K dp ["self","field","word"] [])
  (mPL:Meth K C "length" gl)(GPL:FnOk P w K mg bs0 D7 1 gl dl ["self","make","field"] (MK C))(bPL:Binds K dl ["self","make","field"] [])
  (GTa:FnOk P w K mg bs0 D7 2 gt dt ["_law_makes_here"] KQ)(bTa:Binds K dt ["_law_makes_here"] [])(kTa:PySem.W.keepIn K (.ref gt)=true)(mTa:mg "_law_table"=some (.ref gt))
  (GLW:FnOk P w K mg bs0 D7 1 gx dx' ["_law_text_here"] Q3)(bLW:Binds K dx' ["_law_text_here"] [])(kLW:PySem.W.keepIn K (.ref gx)=true)(mLW:mg "_law_words"=some (.ref gx)):FnOk P w K mg bs0 D7 3 f fd ["_law_thing","_law_makes_here"] (KP C):=by
 refine F.ok Bf (fun vs H Q E h=> ?_) (fun E6 A outer s H vs Q E hr h=> ?_)
 ·obtain⟨x,a,ms,xs,rfl,_⟩:=h
  rfl
 obtain⟨x,a,ms,xs,rfl,AX,ha,hD,Ac,V0,q⟩:=h
 have hr1:Room 1 _:=hr.mono (by decide)
 have szl:=B9
 have hsz:=MC Ac
 obtain⟨dx,fs,hx,TM,lk2,lk3,lk4,lk5⟩:=AX.ins
 refine⟨_,(e7 (k8 (i:=2) Bf.nd rfl (Or.inl rfl) (j7 GTa hr rfl mTa kTa bTa .nil k9 (c5 (i9 1) e6)))
  (e7 (G9 (B0 (CW K hr1) (U7 (i9 0) cl mPF GPF hr1 bPF .nil k9) (n9 (U5) rfl T.sorted (by decide+kernel) (c5 (LZ K Bz DZ Go CZ (i9 2)) e6)) (E1 _)) (h8 (q9 S7)) A3)
  (e7 (y7 B3 rfl (l6 K (u5 X1 (n9 (U5) rfl T.sorted (by decide+kernel) (c5 (LZ K Bz DZ Go CZ (i9 2)) e6)) (u6 (c5 K0 e6)))) (i5 (i:=3) Bf.nd rfl (Or.inl rfl))
   (e7 (k8 (i:=4) Bf.nd rfl (Or.inl rfl) (P5 (E3 hr) (i9 2) (i9 3) C5 ⟨rfl,rfl,rfl,rfl⟩))
  (e7 (G9 (B0 (CW K hr1) (Z3 (i9 0) cl mPW GPW hr1 bPW .nil k9 (c5 (i9 3) e6)) (n9 (U5) rfl T.sorted (by decide+kernel) (c5 (LZ K Bz DZ Go CZ (i9 4)) e6)) (E1 _)) (h8 (q9 S7)) A3)
  (e7 (y7 B3 rfl (l6 K (u5 X1 (n9 (U5) rfl T.sorted (by decide+kernel) (c5 (LZ K Bz DZ Go CZ (i9 4)) e6)) (u6 (c5 K0 e6)))) (i5 (i:=5) Bf.nd rfl (Or.inl rfl))
   (e7 (k8 (i:=6) Bf.nd rfl (Or.inr rfl) (P5 (E3 hr) (i9 4) (i9 5) C5 ⟨rfl,rfl,rfl,rfl⟩))
  (e7 (k8 (i:=7) Bf.nd rfl (Or.inl rfl) (Z3 (i9 0) cl mPP GPP hr1 bPP .nil k9 (c5 (i9 3) (c5 (i9 5) e6))))
  (e7 (G9 (B0 (CW K hr1) (i9 7) (J5 (N:=["_law_make","_law_rows"]) (pick:=[none,some 6]) (NX:=nx5) (sX:=i3 SU) (by decide+kernel) rfl rfl rfl (l6 K (n9 (Hi) rfl T.sorted (by decide+kernel) (c5 (LZ K Bz DZ Go CZ (i9 6)) e6)))
    (fun _ _ _ _=>(i5 (i:=0) (by decide+kernel:(["_law_make","_law_rows"]:List Str).Nodup) rfl (Or.inl rfl))) (fun _ _ _ _=>G6) (fun _ _ _ _=>(X0 (c5 (i9 0) (c5 (Z4 (E3 hr) (i9 1) (i9 0) (fun _ _=>rfl)) e6))))) (E1 _)) (h8 (q9 S7)) A3)
  (h8 (y7 B3 rfl (l6 K (i9 7)) (GV K (n:=2) rfl (j9 (i5 (i:=8) Bf.nd rfl (Or.inl rfl)) (j9 (i5 (i:=9) Bf.nd rfl (Or.inl rfl)) C4)))
   (h8 (G9 (B0 (QaG K hr1) (J5 (N:=["_law_one"]) (pick:=[none]) (NX:=nx5) (sX:=i3 SU) (by decide+kernel) rfl rfl rfl (l6 K (u5 X1 (u6 (c5 (i9 8) e6)) (i9 9)))
    (fun _ _ _ _=>(i5 (i:=0) (by decide+kernel:(["_law_one"]:List Str).Nodup) rfl (Or.inl rfl))) (fun _ _ _ _=>(Bg (N0 (n9 (Gb K) rfl T.isinstance (by decide+kernel) (c5 (i9 0) (c5 (EV (v:= .ty "bool") rfl T.bool (by decide+kernel) rfl) e6)))))) (fun _ _ _ _=>(i9 0))) (u6 e6) (E1 _)) (h8 (q9 S7)) A3))))))))
  (h8 (y7 B3 rfl (l6 K (i9 1)) (GV K (n:=2) rfl (j9 (i5 (i:=8) Bf.nd rfl (Or.inl rfl)) (j9 (i5 (i:=10) Bf.nd rfl (Or.inl rfl)) C4)))
   (h8 (G9 (B0 OW (Z3 (i9 0) cl mPL GPL hr1 bPL .nil k9 (c5 (i9 8) (c5 (i9 3) e6))) (n9 (Nd K) rfl T.len Y0 (c5 (j7 GLW hr1 rfl mLW kLW bLW .nil k9 (c5 (P5 (E3 hr) (W5 (NE K) rfl T.dict (by decide+kernel) (c5 (i9 10) e6)) (i9 3) K0 ⟨rfl,rfl,rfl,rfl⟩) e6)) e6)) (E1 _)) (h8 (q9 S7)) A3))))))))
  (h8 (q9 S7))))),?_⟩
 and_intros
 refine w6 (fun σ L=>∃(b:Addr) (da:Str->Addr) (ra:Str->Str->Addr) (pa:Ay),σ=[some (.ref x),some (.ref a),some (.ref b),none,none,none,none,none,none,none,none]/\TAt Rl H L b da ra pa (J8 [] ms)) ?_ (fun N hN=> ?_)
 rotate_left
 ·simpa only[↓ZT,KQ]
  exact⟨ms,xs,ha,hD,Ac,V0,fun b da ra pa H1 t1=>hN _ _ ⟨b,da,ra,pa,rfl,t1⟩⟩
 rintro σ H1 ⟨b,da,ra,pa,rfl,t1⟩
 have s1:=t1.base
 refine w6 (fun σ L=>σ=[some (.ref x),some (.ref a),some (.ref b),none,none,none,none,none,none,none,none]/\i6 H1 L) ?_ (fun N hN=> ?_)
 rotate_left
 ·simpa only[↓Sw,IG,↓HE,↓O5]
  refine⟨dx,fs,s1 _ _ hx,TM,ms,AX.same s1,E7 hsz.1 (by decide),fun r1 ys1 H2 s2 hr1' p1 o1 hv1=> ?_⟩
  have t2:=t1.same Hk s2
  refine⟨Hr t2.top.1,_,t2.top.1,fun r2 hr2=> ?_⟩
  have s3:=c7 hr2 (Mt r2 b)
  refine⟨b,c6,_,s3 _ _ t2.top.1,_,Aq,(by rw[i4];exact E7 hsz.1 (by decide)),fun r3 ys3 hr3 p3 o3=> ?_⟩
  have e3:ys1=ys3:=Fx o1 o3 p1 p3
  subst e3
  have s4:=s3.trans (c7 hr3 (.lst (ys1.map V.str)))
  refine⟨_,LU ys1,k7.deep _ _ (K6 (s4 _ _ hv1) (An ys1)),k7.deep _ _ (K6 c6 (An ys1)),hN _ _ ⟨rfl,s2.trans s4⟩⟩
 rintro σ H3 ⟨rfl,s14⟩
 simpa only[↓HE]
 have t3:=t1.same Hk s14
 refine⟨Hr t3.top.1,_,t3.top.1,fun r4 hr4=> ?_⟩
 have s5:=c7 hr4 (Mt r4 b)
 refine⟨b,c6,_,s5 _ _ t3.top.1,_,Aq,(by rw[i4];exact E7 hsz.1 (by decide)),fun r5 ys hr5 p5 o5=>⟨(by decide),fun p6 hp6=> ?_⟩⟩
 have Pm:ys.length<=400000:=by have:=p5.length_eq;rw[i4] at this;have:=hsz.1;omega
 have s6:=(s5.trans (c7 hr5 (.lst (ys.map V.str)))).trans (c7 hp6 (.lst [V.str "nothing"]))
 refine⟨_,w9 c6 hp6,_,c6,(by rw[i4,G3];omega),fun p7 hp7=> ?_⟩
 rw[EE]
 generalize ys++[("nothing":Str)]=ks
 have s7:=s14.trans (s6.trans (c7 hp7 (.lst (ks.map V.str))))
 have hk7:(i8 (i8 (i8 (i8 H3 r4 (Mt r4 b)) r5 (.lst (ys.map V.str))) p6 (.lst [V.str "nothing"])) p7 (.lst (ks.map V.str))) p7=_:=c6
 generalize i8 (i8 (i8 (i8 H3 r4 (Mt r4 b)) r5 (.lst (ys.map V.str))) p6 (.lst [V.str "nothing"])) p7 (.lst (ks.map V.str))=H4 at s7 hk7⊢
 refine⟨⟨_,l7.of hk7⟩,w4 (ks.map V.str) (Qb6 H4 x a b) ⟨_,_,_,_,_,_,_,_,rfl,i6.refl _⟩ ?_ ?_ ?_⟩
 ·rintro i σ L hi ⟨v3,v4,v5,v6,v7,v8,v9,v10,rfl,sL⟩
  exact l7.of (sL _ _ hk7)
 ·rintro i y σ L hy ⟨v3,v4,v5,v6,v7,v8,v9,v10,rfl,sL⟩
  rw[u8] at hy
  obtain⟨fl,_,rfl⟩:=o7.mp hy
  have tL:=t1.same Hk (s7.trans sL)
  simp only[QbC,Qbz,↓Qbv,↓Qbu,↓gN0,↓gNS,↓Ye,↓Yd,↓Yc,↓Yb,↓Ya,↓RO,↓RN,↓RL,↓RK,↓Yh,↓Yg,↓Yf,↓RS,↓RQ,↓RP,↓XZ,↓XY,↓XX,↓RJ,↓RI,↓RH,↓Qbs,↓Qbr,↓Qbq,↓Yk,↓Yj,↓Yi,↓Yn,↓Ym,↓Yo,↓Qb2,↓rI_,↓QbH,↓rU_,↓QbJ,↓QbI,↓QbG,↓QbF,↓YB,↓YA,↓Yz,↓Yy,↓Um,↓Zj,↓Sl,↓Wj,↓ZP,↓tOr,↓ZN,↓tB,CI,↓Fo,↓Rz,↓tC,↓tUn,↓tCB,↓Fp,↓GO,RA,rI,rU,rNe,rEq,CT,↓tBM,↓Si,↓MH,O3,↓ZL,↓Oy,List.set_cons_zero,List.set_cons_succ,List.getElem?_cons_zero,List.getElem?_cons_succ,Option.some.injEq,V.int.injEq,V.bl.injEq,V.ref.injEq,V.str.injEq,exists_eq_left',exists_eq_left,exists_and_left,List.cons.injEq,and_true,true_and,and_assoc,exists_const,L2.start,List.map_cons,List.map_nil,List.length_cons,List.length_nil,List.replicate_succ,List.replicate_zero,List.cons_append,List.nil_append,List.append_nil,Nat.reduceAdd,Nat.reduceSub,↓OA,↓KL,↓Hs,↓MG,Wl,ipI,↓Qaw,↓Qav,↓FA,↓Tb,↓QbE,GU,↓Wk,↓Qcu,↓Yw,↓tSl,↓Sf,↓IC,↓WC,KM,↓KH,↓Wi,↓TY,↓Ze,↓Zd,↓LD,↓TZ,↓LJ,Ar,Jm,Qi,Ll,↓Sd,↓Sn,↓ZM,↓Sg,↓tIf,exists_eq',List.ne_cons_self,reduceCtorEq,if_true,if_false,and_false,false_and]
  refine w6 (fun σ M=>∃wh:Addr,σ=[some (.ref x),some (.ref a),some (.ref b),some (.str fl),some (.ref wh),v5,v6,v7,v8,v9,v10]/\i6 L M/\XS M wh (Z0 ms fl)) ?_ (fun N hN=> ?_)
  rotate_left
  ·simpa only[↓K9,↓Z9]
   refine⟨.inl ⟨_, .inl tL.top.1⟩,fun p hp=> ?_⟩
   have sp:=c7 hp (.dK [])
   refine⟨_,V7.k (k:= .inr fl) (sp _ _ tL.top.1),?_⟩
   rw[B6]
   obtain⟨wh,ew,hw⟩:∃wh,((get (J8 [] ms) fl).map fun _=>V.ref (da fl)).getD (.ref p)= .ref wh/\XS (i8 L p (.dK [])) wh (Z0 ms fl):=by
    unfold Z0
    cases e:get (J8 [] ms) fl with
    |none=>exact⟨p,rfl,XS.nil c6⟩
    |some D=>exact⟨da fl,rfl,(tL.wat e).same sp⟩
   rw[ew]
   exact hN _ _ ⟨wh,rfl,sp,hw⟩
  rintro σ M ⟨wh,rfl,sLM,hw⟩
  have sM:=sL.trans sLM
  have hzw:(Z0 ms fl).length<=400000:=(hsz.at_ (f:=fl)).1
  have sHM:=s1.trans (s7.trans sM)
  obtain⟨g,hw1,hw2⟩:=hw
  refine w6 (fun σ M3=>σ=[some (.ref x),some (.ref a),some (.ref b),some (.str fl),some (.ref wh),v5,v6,v7,v8,v9,v10]/\i6 M M3) ?_ (fun N hN=> ?_)
  rotate_left
  ·simpa only[↓Su,IE,↓HE,↓O5]
   refine⟨dx,fs,sHM _ _ hx,lk2,ms,AX.same sHM,by omega,fun r1 ys1 M2 s2 hr1' p1 o1 hv1=> ?_⟩
   refine⟨Hr (s2 _ _ hw1),_,s2 _ _ hw1,fun r2 hr2=> ?_⟩
   have s3:=c7 hr2 (Mt r2 wh)
   refine⟨wh,c6,_,s3 _ _ (s2 _ _ hw1),_,Aq,(by rw[i4];omega),fun r3 ys3 hr3 p3 o3=> ?_⟩
   have e3:ys1=ys3:=Fx o1 o3 p1 p3
   subst e3
   have s4:=s3.trans (c7 hr3 (.lst (ys1.map V.str)))
   refine⟨_,LU ys1,k7.deep _ _ (K6 (s4 _ _ hv1) (An ys1)),k7.deep _ _ (K6 c6 (An ys1)),hN _ _ ⟨rfl,s2.trans s4⟩⟩
  rintro σ M3 ⟨rfl,s14⟩
  refine w6 (YL M3 x a b wh fl 0) ?_ (fun N hN=> ?_)
  rotate_left
  ·simpa only[↓HE]
   refine⟨Hr (s14 _ _ hw1),_,s14 _ _ hw1,fun r4 hr4=> ?_⟩
   have s5:=c7 hr4 (Mt r4 wh)
   refine⟨wh,c6,_,s5 _ _ (s14 _ _ hw1),_,Aq,(by rw[i4];omega),fun r5 ys hr5 p5 o5=>⟨(by decide),fun p6 hp6=> ?_⟩⟩
   have Pm:ys.length<=400000:=by have:=p5.length_eq;rw[i4] at this;omega
   have s6:=(s5.trans (c7 hr5 (.lst (ys.map V.str)))).trans (c7 hp6 (.lst [V.str "nothing"]))
   refine⟨_,w9 c6 hp6,_,c6,(by rw[i4,G3];omega),fun p7 hp7=> ?_⟩
   rw[EE]
   generalize ys++[("nothing":Str)]=wks
   have s9':=s6.trans (c7 hp7 (.lst (wks.map V.str)))
   have s8:=s14.trans s9'
   have hk8:(i8 (i8 (i8 (i8 M3 r4 (Mt r4 wh)) r5 (.lst (ys.map V.str))) p6 (.lst [V.str "nothing"])) p7 (.lst (wks.map V.str))) p7=_:=c6
   generalize i8 (i8 (i8 (i8 M3 r4 (Mt r4 wh)) r5 (.lst (ys.map V.str))) p6 (.lst [V.str "nothing"])) p7 (.lst (wks.map V.str))=M4 at s8 s9' hk8⊢
   have s84:=sM.trans s8
   have hH4:=s1.trans (s7.trans s84)
   refine⟨⟨_,l7.of hk8⟩,w4 (wks.map V.str) (YL M4 x a b wh fl) ⟨_,_,_,_,_,_,rfl,i6.refl _⟩ ?_ ?_ ?_⟩
   ·rintro i σ L hi ⟨v5,v6,v7,v8,v9,v10,rfl,sL⟩
    exact l7.of (sL _ _ hk8)
   ·rintro i y σ L hy ⟨v5,v6,v7,v8,v9,v10,rfl,sL⟩
    rw[u8] at hy
    obtain⟨wd,_,rfl⟩:=o7.mp hy
    simp only[QbC,Qbz,↓Qbv,↓Qbu,↓gN0,↓gNS,↓Ye,↓Yd,↓Yc,↓Yb,↓Ya,↓RO,↓RN,↓RL,↓RK,↓Yh,↓Yg,↓Yf,↓RS,↓RQ,↓RP,↓XZ,↓XY,↓XX,↓RJ,↓RI,↓RH,↓Qbs,↓Qbr,↓Qbq,↓Yk,↓Yj,↓Yi,↓Yn,↓Ym,↓Yo,↓Qb2,↓rI_,↓QbH,↓rU_,↓QbJ,↓QbI,↓QbG,↓QbF,↓YB,↓YA,↓Yz,↓Yy,↓Um,↓Zj,↓Sl,↓Wj,↓ZP,↓tOr,↓ZN,↓tB,CI,↓Fo,↓Rz,↓tC,↓tUn,↓tCB,↓Fp,↓GO,RA,rI,rU,rNe,rEq,CT,↓tBM,↓Si,↓MH,O3,↓ZL,↓Oy,List.set_cons_zero,List.set_cons_succ,List.getElem?_cons_zero,List.getElem?_cons_succ,Option.some.injEq,V.int.injEq,V.bl.injEq,V.ref.injEq,V.str.injEq,exists_eq_left',exists_eq_left,exists_and_left,List.cons.injEq,and_true,true_and,and_assoc,exists_const,L2.start,List.map_cons,List.map_nil,List.length_cons,List.length_nil,List.replicate_succ,List.replicate_zero,List.cons_append,List.nil_append,List.append_nil,Nat.reduceAdd,Nat.reduceSub,↓OA,↓KL,↓Hs,↓MG,Wl,ipI,↓Qaw,↓Qav,↓FA,↓Tb,↓QbE,GU,↓Wk,↓Qcu,↓Yw,↓tSl,↓Sf,↓IC,↓WC,KM,↓KH,↓Wi,↓TY,↓Ze,↓Zd,↓LD,↓TZ,↓LJ,Ar,Jm,Qi,Ll,↓Sd,↓Sn,↓ZM,↓Sg,↓tIf,exists_eq',List.ne_cons_self,reduceCtorEq,if_true,if_false,and_false,false_and]
    have hwL:=sL _ _ (s8 _ _ hw1)
    refine w6 (fun σ N=>∃rh:Addr,σ=[some (.ref x),some (.ref a),some (.ref b),some (.str fl),some (.ref wh),some (.str wd),some (.ref rh),v7,v8,v9,v10]/\i6 L N/\RAt N rh (u0 ms fl wd)) ?_ (fun N' hN'=> ?_)
    rotate_left
    ·simpa only[↓K9,↓Z9]
     refine⟨.inl ⟨_, .inl hwL⟩,fun p hp=> ?_⟩
     have sp:=c7 hp (.dK [])
     refine⟨_,V7.k (k:= .inr wd) (sp _ _ hwL),?_⟩
     rw[B6]
     obtain⟨rh,er,hrh⟩:∃rh,((get (Z0 ms fl) wd).map fun _=>V.ref (g wd)).getD (.ref p)= .ref rh/\RAt (i8 L p (.dK [])) rh (u0 ms fl wd):=by
      unfold u0
      cases e:get (Z0 ms fl) wd with
      |none=>exact⟨p,rfl,[],c6,trivial⟩
      |some r=>exact⟨g wd,rfl,(hw2 wd r e).same ((s8.trans sL).trans sp)⟩
     rw[er]
     exact hN' _ _ ⟨rh,rfl,sp,hrh⟩
    rintro σ N ⟨rh,rfl,sLN,hrh⟩
    have sN:=sL.trans sLN
    have Pn:=IM Ac V0 fl wd
    have sHN:=hH4.trans sN
    refine w6 (fun σ N2=>∃(Bc:Addr) (GK:List V),σ=[some (.ref x),some (.ref a),some (.ref b),some (.str fl),some (.ref wh),some (.str wd),some (.ref rh),some (.ref Bc),v8,v9,v10]/\i6 N N2/\N2 Bc=some (.lst GK)/\c8 N2 ((u0 ms fl wd).map Fe) GK) ?_ (fun N' hN'=> ?_)
    rotate_left
    ·simpa only[↓Sv,IF,↓O5]
     exact⟨dx,fs,sHN _ _ hx,lk3,ms,AX.same sHN,(by have:=Pn.few;omega),fun Bc GK N2 s2' hto Ub VY=>hN' _ _ ⟨Bc,GK,rfl,s2',Ub,c8.same (fun a u h=>Z6 _ _ (Q8 _ _ _ _ h)) _ _ VY⟩⟩
    rintro σ N2 ⟨Bc,GK,rfl,s2',Ub,Ui⟩
    simpa only[↓HE]
    obtain⟨kvs,hk1,hk2⟩:=hrh.same s2'
    have sN2:=sN.trans s2'
    generalize u0 ms fl wd=row at Pn Ui hk2
    refine⟨Hr hk1,_,hk1,fun r6 hr6=> ?_⟩
    have s9:=c7 hr6 (Mt r6 rh)
    refine⟨rh,c6,_,s9 _ _ hk1,row.map (·.1),hk2.keys,(by rw[i4];have:=Pn.few;omega),Pn.up,fun r7 hr7=> ?_⟩
    have s10:=s9.trans (c7 hr7 (.lst ((row.map (·.1)).map V.int)))
    have hr7':(i8 (i8 N2 r6 (Mt r6 rh)) r7 (.lst ((row.map (·.1)).map V.int))) r7=_:=c6
    generalize i8 (i8 N2 r6 (Mt r6 rh)) r7 (.lst ((row.map (·.1)).map V.int))=N3 at s10 hr7'⊢
    have hnl:((row.map (·.1)).map V.int).length=row.length:=by rw[i4,i4]
    refine⟨⟨_,l7.of hr7'⟩,C0 ((row.map (·.1)).map V.int) (Qb5 N3 rh row) ⟨none,rfl,i6.refl _,c8.nil⟩ ?_ ?_ ?_⟩
    ·rintro j zs σ L hj ⟨v0,rfl,sL,hz⟩
     refine⟨l7.of (sL _ _ hr7'),?_⟩
     have:=hz.length
     rw[i4,A4] at this
     have:=Pn.few
     omega
    ·rintro j z zs σ L hz ⟨v0,rfl,sL,Pj⟩
     rw[u8,u8] at hz
     obtain⟨n,hn,rfl⟩:=o7.mp hz
     obtain⟨qq,hq,rfl⟩:=o7.mp hn
     simpa only[↓Es]
     obtain⟨l,hl1,hl2⟩:=hk2.at_ hq
     have sNL:=s10.trans sL
     refine⟨_, .inl ⟨_, .inl qq.1, .inl (sNL _ _ hk1),rfl,hl1.symm⟩,(by decide),fun p8 hp8=>⟨_,rfl,sL.trans (c7 hp8 _),?_⟩⟩
     rw[x6,hq,n6]
     exact(c8.same (c7 hp8 _) _ _ Pj).app (c8.one (Nv (m:=qq.1) (ps:=qq.2) c6 (w9 (sNL _ _ hl2) hp8)))
    ·rintro zs σ L ⟨v0,rfl,sL,Pj⟩ p9 hp9
     rw[hnl,y8] at Pj
     have s11:=(s10.trans sL).trans (c7 hp9 (.lst zs))
     refine⟨_,UC row,k7.deep _ _ (K6 (s11 _ _ Ub) (c8.same s11 _ _ Ui)),k7.deep _ _ (K6 c6 (c8.same (c7 hp9 _) _ _ Pj)),?_⟩
     generalize i8 L p9 (.lst zs)=N4 at s11⊢
     refine⟨⟨_,l7.of (s11 _ _ Ub)⟩,w4 GK (YM N4 x a b wh fl _ _ _) ⟨_,_,_,rfl,i6.refl _⟩ ?_ ?_ ?_⟩
     ·rintro j σ L hj ⟨v8,v9,v10,rfl,sL⟩
      exact l7.of (sL _ _ (s11 _ _ Ub))
     ·rintro j y σ L hy ⟨v8,v9,v10,rfl,sL⟩
      obtain⟨dv,g1,g2⟩:=Ui.get hy
      rw[u8] at g1
      obtain⟨qq,hq,rfl⟩:=o7.mp g1
      obtain⟨ta,tb,rfl,hta,Xr⟩:=DN g2
      have sNL:=s11.trans sL
      have Fb:=Pn.pl qq (E8 hq)
      simpa only[GU]
      refine⟨_,W3.of (sNL _ _ hta),rfl,?_⟩
      simpa only[GU]
      refine⟨(by decide),fun p10 hp10=> ?_⟩
      have s12:=c7 hp10 (.lst [V.int qq.1])
      refine⟨_,c6,_,s12 _ _ (sNL _ _ Xr),(by rw[i4,G3];omega),fun p11 hp11=> ?_⟩
      have e11:[V.int qq.1]++qq.2.map V.int=(qq.1::qq.2).map V.int:=rfl
      rw[e11]
      have s13:=s12.trans (c7 hp11 (.lst ((qq.1::qq.2).map V.int)))
      have h11:(i8 (i8 L p10 (.lst [V.int qq.1])) p11 (.lst ((qq.1::qq.2).map V.int))) p11=_:=c6
      generalize i8 (i8 L p10 (.lst [V.int qq.1])) p11 (.lst ((qq.1::qq.2).map V.int))=N5 at s13 h11⊢
      refine⟨⟨_,l7.of h11⟩,C0 ((qq.1::qq.2).map V.int) (Qb8 N5) ⟨none,rfl,i6.refl _,rfl⟩ ?_ ?_ ?_⟩
      ·rintro j zs σ L hj ⟨v0,rfl,sL,rfl⟩
       exact⟨l7.of (sL _ _ h11),o8 _⟩
      ·rintro j z zs σ L hz ⟨v0,rfl,sL,rfl⟩
       rw[u8] at hz
       obtain⟨n,hn,rfl⟩:=o7.mp hz
       simpa only[V.ty.injEq]
       exact⟨_, .int n,false,rfl,Ni ⟨_,rfl,sL,rfl⟩⟩
      ·rintro zs σ L5 ⟨v0,rfl,sL5,rfl⟩ p12 hp12
       simpa only[o9]
       exact⟨o8 _,fun p13 hp13=>⟨_,l7.of (w9 c6 hp13),l7.of c6,Ni ⟨_,_,_,rfl,((sL.trans s13).trans sL5).trans ((c7 hp12 _).trans (c7 hp13 _))⟩⟩⟩
     ·rintro σ L ⟨v8,v9,v10,rfl,sL⟩
      exact⟨_,_,_,_,_,_,rfl,(sN2.trans s11).trans sL⟩
   ·rintro σ L ⟨v5,v6,v7,v8,v9,v10,rfl,sL⟩
    exact hN _ _ ⟨_,_,_,_,_,_,rfl,s9'.trans sL⟩
  rintro σ L ⟨v5,v6,v7,v8,v9,v10,rfl,sL⟩
  simpa only[o9]
  have sML:=sM.trans (s14.trans sL)
  have sHL:=s1.trans (s7.trans sML)
  refine⟨⟨xs,l7.of (sHL _ _ ha)⟩,w4 xs (YM L x a b wh fl v5 v6 v7) ⟨_,_,_,rfl,i6.refl _⟩ ?_ ?_ ?_⟩
  ·rintro j σ L6 hj ⟨v8,v9,v10,rfl,sL6⟩
   exact l7.of (sL6 _ _ (sHL _ _ ha))
  ·rintro j y σ L6 hy ⟨v8,v9,v10,rfl,sL6⟩
   obtain⟨dv,g1,g2⟩:=hD.get hy
   rw[u8] at g1
   obtain⟨m,hm,rfl⟩:=o7.mp g1
   obtain⟨b',c,zs,rfl,hb',hc,hz⟩:=Ad g2
   have EK:m∈ms:=E8 hm
   have nd:=(U8 (Lw V0 hm).2.1).2
   have sH6:=sHL.trans sL6
   have Pk:zs.length=m.2.length:=by have:=hz.length;rwa [i4] at this
   have hm20:=(Ac.2 m EK).1
   simpa only[o9]
   refine⟨_,W3.of (sH6 _ _ hb'),rfl,?_⟩
   simpa only[↓Yq,MK,↓Z2,Q3,↓Z9,↓O5,rNe]
   refine⟨dx,fs,sH6 _ _ hx,lk4,ms,AX.same sH6,fun L7 sL7=> ?_⟩
   have sH7:=sH6.trans sL7
   rw[EW (x:=m) (f:=fl) (T:=[]) (P6 V0).2 nd EK rfl]
   refine⟨zs,l7.of (sH7 _ _ hc),m.2,Pk,by omega,nd,fun i y hy=> ?_,fun r8 hr8=> ?_⟩
   ·obtain⟨dv,g1,g2⟩:=hz.get hy
    rw[u8] at g1
    obtain⟨fx,hfx,rfl⟩:=o7.mp g1
    obtain⟨t,rfl,ht⟩:=FV g2
    exact⟨t,rfl,fx,hfx,sH7 _ _ ht⟩
   ·have s9:=c7 hr8 (.dK (m.2.map fun x=>((.inr x.1:A0),V.str x.2)))
    refine⟨.inl ⟨_, .inl c6⟩,_,V7.k (k:= .inr fl) c6,?_⟩
    rw[Pt]
    obtain⟨z,hz1,hz2,hz3,hz4⟩:∃z,((get m.2 fl).map V.str).getD (V.str "")=V.str z/\z.length<=500/\Fi z/\EM m.2 fl=(A6 z).length:=by
     unfold EM
     cases e:get m.2 fl with
     |none=>exact⟨"",rfl,by decide,fun c hc=>(by cases hc),rfl⟩
     |some z=>
      have:=(Ac.2 m EK).2 _ (D6 e)
      exact⟨z,rfl,this.2.1,this.2.2,rfl⟩
    refine⟨z,hz1,hz2,hz3,fun r9 L9 s9' _ hr9=>⟨_, .inl (l7.of hr9),rfl,?_⟩⟩
    rw[hz4,i4,if_neg (by rw[B7 rfl];decide)]
    exact⟨_,_,_,rfl,((sL6.trans sL7).trans s9).trans s9'⟩
  ·rintro σ L6 ⟨v8,v9,v10,rfl,sL6⟩
   exact⟨_,_,_,_,_,_,_,_,rfl,sML.trans sL6⟩
 ·rintro σ L ⟨v3,v4,v5,v6,v7,v8,v9,v10,rfl,sL⟩
  simpa only[o9]
  exact q _ (s1.trans (s7.trans sL))
def G5(F:Fl)(f w:Str):Rw:=(get ((get F f).getD []) w).getD []
theorem BP{α:Type}[DecidableEq α]:∀{l m:List α},l.Nodup->(∀a∈l,a∈m)->l.length<=m.length
 |[],m,_,_=>o8 _
 |a::l,m,nd,hs=>by
  rw[O4] at nd
  have ha:=hs a A5
  have:=BP (m:=m.erase a) nd.2 fun b hb=>(Vj (fun e=>nd.1 (by rw[<-e];exact hb))).mpr (hs b (B1 _ hb))
  rw[Vi ha] at this
  have:=Vg ha
  rw[List.length_cons]
  omega
theorem FG{α:Type}[DecidableEq α]{l m:List α}(h:l.Nodup)(h':m.Nodup)(e:∀a,a∈l↔a∈m):l.Perm m:=by
 rw[List.perm_iff_count]
 intro a
 have c1:=Vf.mp h a
 have c2:=Vf.mp h' a
 by_cases ha:a∈l
 ·have:=Ve.mpr ha
  have:=Ve.mpr ((e a).mp ha)
  omega
 ·rw[Vd ha,Vd fun h=>ha ((e a).mpr h)]
structure Gd(F:Fl):Prop where
 kf:(F.map (·.1)).Nodup
 kw:∀x∈F,(x.2.map (·.1)).Nodup/\x.2≠[]/\∀y∈x.2,y.2≠[]
theorem HL{κ α:Type}[DecidableEq κ]{t:List (κ×α)}{k:κ}{f:Option α->α}(h:(t.map (·.1)).Nodup):((KT.mod t k f).map (·.1)).Nodup:=by
 rw[X3]
 split
 ·exact h
 ·rename_i hn
  rw[AL]
  exact⟨h,by simp,fun a ha b hb=>by rw[x8.mp hb];intro e;rw[e] at ha;exact hn ha⟩
theorem S8{κ α:Type}[DecidableEq κ]:∀{t:List (κ×α)},(t.map (·.1)).Nodup->∀x∈t,get t x.1=some x.2
 |y::t,nd,x,hx=>by
  rw[List.map_cons,O4] at nd
  rcases C8.mp hx with e|hx
  ·rw[e,KT.get,if_pos rfl]
  ·rw[KT.get,if_neg (fun e=>nd.1 (by rw[e];exact n8.mpr ⟨x,hx,rfl⟩))]
   exact S8 nd.2 x hx
theorem Gd.at_{F:Fl}(g:Gd F)(f:Str):(((get F f).getD []).map (·.1)).Nodup/\∀y∈(get F f).getD [],y.2≠[]:=by
 cases e:get F f with
 |none=>exact⟨Ai,fun y hy=>(by cases hy)⟩
 |some D=>exact⟨(g.kw _ (D6 e)).1,(g.kw _ (D6 e)).2.2⟩
theorem Gd.word{F:Fl}(g:Gd F){f w:Str}:w∈((get F f).getD []).map (·.1)↔G5 F f w≠[]:=by
 constructor
 ·intro h
  obtain⟨y,hy,rfl⟩:=n8.mp h
  unfold G5
  rw[S8 (g.at_ f).1 y hy]
  exact(g.at_ f).2 y hy
 ·intro h
  rw[<-Q2]
  unfold G5 at h
  cases e:get ((get F f).getD []) w with
  |none=>rw[e] at h;exact absurd rfl h
  |some r=>rfl
theorem Gd.fld{F:Fl}(g:Gd F){f:Str}:f∈F.map (·.1)↔∃w,G5 F f w≠[]:=by
 constructor
 ·intro h
  obtain⟨x,hx,rfl⟩:=n8.mp h
  have e:=S8 g.kf x hx
  cases hD:x.2 with
  |nil=>exact absurd hD (g.kw x hx).2.1
  |cons y D=>exact⟨y.1,g.word.mp (by rw[e,hD];exact A5)⟩
 ·rintro⟨w,h⟩
  rw[<-Q2]
  cases e:get F f with
  |none=>unfold G5 at h;rw[e] at h;exact absurd rfl h
  |some r=>rfl
theorem Qcz{F F':Fl}(g:Gd F)(g':Gd F')(h:∀f w,G5 F f w=G5 F' f w):FE F F':=
 ⟨FG g.kf g'.kf fun f=>by rw[g.fld,g'.fld];simp only[h],fun f=>FG (g.at_ f).1 (g'.at_ f).1 fun w=>by rw[g.word,g'.word,h],h⟩
def FU(F:Fl)(f w:Str)(r:Rw):Fl:=KT.mod F f fun o=>KT.mod (o.getD []) w fun q=>q.getD []++r
theorem Pq{F:Fl}{f w f' w':Str}{r:Rw}:G5 (FU F f w r) f' w'=if f'=f/\w'=w then G5 F f w++r else G5 F f' w':=by
 unfold G5 FU
 by_cases e:f'=f
 ·subst e
  rw[x9,V6]
  by_cases e:w'=w
  ·subst e
   rw[x9,if_pos ⟨rfl,rfl⟩]
   rfl
  ·rw[D5 _ _ e,if_neg fun z=>e z.2]
 ·rw[D5 _ _ e,if_neg fun z=>e z.1]
theorem Ux{F:Fl}{f w:Str}{r:Rw}(g:Gd F)(hr:r≠[]):Gd (FU F f w r):=by
 refine⟨HL g.kf,fun x hx=> ?_⟩
 rcases Q0 hx with e|e
 ·exact g.kw x e
 ·subst e
  have ga:=g.at_ f
  refine⟨HL ga.1,fun z=> ?_,fun y hy=> ?_⟩
  ·have:=x9 ((get F f).getD []) w fun q=>q.getD []++r
   rw[show KT.mod ((get F f).getD []) w (fun q=>q.getD []++r)=[] from z] at this
   cases this
  ·rcases Q0 hy with e|e
   ·exact ga.2 y e
   ·subst e
    simp [hr]
theorem GI{m:Int}{f:Str}:∀{p:Pl Str} {F:Fl},p≠[]->(KT.mod F f fun o=>putAll m (o.getD []) p)=p.foldl (fun F x=>FU F f x.1 [(m,x.2)]) F
 |[x],F,_=>rfl
 |x::y::p,F,_=>by
  rw[Ko,<-GI (F:=FU F f x.1 [(m,x.2)]) (p:=y::p) (by intro z;cases z)]
  unfold FU
  rw[M7]
  rfl
theorem HU{m:Int}{f f' w:Str}:∀{p:Pl Str} {F:Fl},(p.map (·.1)).Nodup->G5 (p.foldl (fun F x=>FU F f x.1 [(m,x.2)]) F) f' w=G5 F f' w++if f'=f then (match get p w with|none=>[]|some ps=>[(m,ps)]) else []
 |[],F,_=>by simp [KT.get]
 |x::p,F,nd=>by
  rw[List.map_cons,O4] at nd
  rw[Ko,HU nd.2,Pq]
  by_cases e:f'=f
  ·subst e
   by_cases e:x.1=w
   ·subst e
    have:get p x.1=none:=by
     cases hg:get p x.1 with
     |none=>rfl
     |some v=>exact absurd (Q2.mp (by rw[hg];rfl)) nd.1
    simp [KT.get,this]
   ·have e':¬w=x.1:=fun z=>e z.symm
    simp [KT.get,e,e']
  ·simp [e]
theorem LL{m:Int}{f:Str}:∀{p:Pl Str} {F:Fl},Gd F->Gd (p.foldl (fun F x=>FU F f x.1 [(m,x.2)]) F)
 |[],F,g=>g
 |x::p,F,g=>LL (p:=p) (Ux g (by intro z;cases z))
theorem Ti{ws:List Str}(h:ws≠[]):W9 [] 0 ws≠[]:=by
 have key:∀(ws:List Str) (p:Pl Str) (i:Int),p≠[]->W9 p i ws≠[]:=by
  intro ws
  induction ws with
  |nil=>intro p i h;exact h
  |cons w ws ih=>
   intro p i h
   refine ih _ _ fun z=> ?_
   have:=x9 p w fun o=>o.getD []++[i]
   rw[show KT.mod p w (fun o=>o.getD []++[i])=[] from z] at this
   cases this
 cases ws with
 |nil=>exact absurd rfl h
 |cons w ws=>exact key ws _ _ (by intro z;cases z)
def Ia(m:Int)(t w:Str):Rw:=match get (W9 [] 0 (A6 t)) w with
 |none=>[]
 |some ps=>[(m,ps)]
def cell(f w:Str)(m:Mk):Rw:=match get m.2 f with
 |none=>[]
 |some t=>Ia m.1 t w
theorem VM{m:Int}{F:Fl}{f t f' w:Str}:G5 (Y9 m F f (A6 t)) f' w=G5 F f' w++if f'=f then Ia m t w else []:=by
 unfold Y9 Ia
 split
 ·rename_i h
  rw[h]
  simp [W9,KT.get]
 ·rename_i h
  rw[GI (Ti h),HU (BO (A6 t) [] 0 Ai)]
theorem XR{m:Int}{F:Fl}{f:Str}{ws:List Str}(g:Gd F):Gd (Y9 m F f ws):=by
 unfold Y9
 split
 ·exact g
 ·rename_i h
  rw[GI (Ti h)]
  exact LL g
theorem LQ{m:Int}{f w:Str}:∀{d:List Az} {F:Fl},(d.map (·.1)).Nodup->G5 (Y7 m F d) f w=G5 F f w++cell f w (m,d)
 |[],F,_=>by simp [Y7,cell,KT.get]
 |y::d,F,nd=>by
  rw[List.map_cons,O4] at nd
  show G5 (Y7 m (Y9 m F y.1 (A6 y.2)) d) f w=_
  rw[LQ nd.2,VM]
  by_cases e:y.1=f
  ·subst e
   have:get d y.1=none:=by
    cases hg:get d y.1 with
    |none=>rfl
    |some v=>exact absurd (Q2.mp (by rw[hg];rfl)) nd.1
   simp [cell,KT.get,this]
  ·have e':¬f=y.1:=fun z=>e z.symm
   simp [cell,KT.get,e,e']
theorem Pw{m:Int}:∀{d:List Az} {F:Fl},Gd F->Gd (Y7 m F d)
 |[],F,g=>g
 |y::d,F,g=>Pw (d:=d) (XR g)
theorem KF{f w:Str}:∀{ms:List Mk} {p:Int} {F:Fl},mw p ms->G5 (J8 F ms) f w=G5 F f w++ms.flatMap (cell f w)
 |[],p,F,_=>by simp [J8]
 |m::ms,p,F,h=>by
  show G5 (J8 (Y7 m.1 F m.2) ms) f w=_
  rw[KF h.2.2,LQ (U8 h.2.1).2,DS,C9]
theorem Z1:∀{ms:List Mk} {F:Fl},Gd F->Gd (J8 F ms)
 |[],F,g=>g
 |m::ms,F,g=>Z1 (ms:=ms) (Pw g)
theorem Bq:Gd []:=⟨Ai,fun x hx=>(by cases hx)⟩
theorem CQ{ms:List Mk}{f w:Str}(h:mw (-1) ms):u0 ms f w=ms.flatMap (cell f w):=by
 have:=KF (F:=[]) (f:=f) (w:=w) h
 exact this
theorem PD{f w:Str}{m:Mk}{q:Int×List Int}(h:q∈cell f w m):q.1=m.1:=by
 unfold cell at h
 split at h
 ·cases h
 ·unfold Ia at h
  split at h
  ·cases h
  ·rw[x8.mp h]
section
variable {R:Hp->HO->Rw->Prop} {G M:Hp} {b:Addr} {da:Str->Addr} {ra:Str->Str->Addr} {pa:Ay} {F:Fl}
theorem TAt.setF{f:Str}{p:Addr}{M9:Hp}{Q:VK}(m:RM R)(t:TAt R G M b da ra pa F)(hp:M p=none)(h9:i8 M p (.dK [])=M9)(k:∀AW G8 M',TAt R G M' b AW ra G8 (KT.mod F f fun o=>o.getD [])->Fr G pa M G8 M'->Q (.ref (AW f)) M'):
  (∀v,A9 (O0 da F) (.inr f)=some v->Q v M9)/\(A9 (O0 da F) (.inr f)=none->Q (.ref p) (i8 M9 b (.dK (D3 (O0 da F) (.inr f) (.ref p))))):=by
 subst h9
 have sp:=c7 hp (.dK [])
 refine⟨fun v hv=> ?_,fun hv=> ?_⟩
 ·rw[B6] at hv
  obtain⟨D,e,rfl⟩:=o7.mp hv
  have em:KT.mod F f (fun o=>o.getD [])=F:=(B8 (by rw[e];rfl)).trans (Ck e)
  exact k da pa _ (by rw[em];exact t.same m sp) (Fr.same sp fun a ha=>(t.own a ha).2)
 ·have e:get F f=none:=by rw[B6] at hv;exact JL.mp hv
  have nb:b≠p:=j4 t.top.1 hp
  have:=k (W6 da f p) (W6 pa p (some [f])) (i8 (i8 M p (.dK [])) b (.dK (D3 (O0 da F) (.inr f) (.ref p)))) (by rw[P2 _ hv,J7 e];exact t.addF m e hp) ((Fr.new hp fun a ha=>(t.own a ha).2).trans (Fr.own (q:=[]) (by rw[B2 nb];exact t.top.2) (by decide)))
  rw[E4] at this
  exact this
theorem TAt.setW{f w:Str}{D:Wt Str}{p:Addr}{o0:HO}{M9:Hp}{Q:VK}(m:RM R)(t:TAt R G M b da ra pa F)(hf:get F f=some D)(hp:M p=none)(h9:i8 M p o0=M9)(h0:∀h,R h o0 [])(k:∀V3 G8 M',TAt R G M' b da V3 G8 (KT.mod F f fun _=>KT.mod D w fun o=>o.getD [])->Fr G pa M G8 M'->Q (.ref (V3 f w)) M'):
  (∀v,A9 (O0 (ra f) D) (.inr w)=some v->Q v M9)/\(A9 (O0 (ra f) D) (.inr w)=none->Q (.ref p) (i8 M9 (da f) (.dK (D3 (O0 (ra f) D) (.inr w) (.ref p))))):=by
 subst h9
 have sp:=c7 hp o0
 obtain⟨hd,h3⟩:=t.fld f D hf
 refine⟨fun v hv=> ?_,fun hv=> ?_⟩
 ·rw[B6] at hv
  obtain⟨r,e,rfl⟩:=o7.mp hv
  have em:KT.mod D w (fun o=>o.getD [])=D:=(B8 (by rw[e];rfl)).trans (Ck e)
  exact k ra pa _ (by rw[em,Ck hf];exact t.same m sp) (Fr.same sp fun a ha=>(t.own a ha).2)
 ·have e:get D w=none:=by rw[B6] at hv;exact JL.mp hv
  have nb:da f≠p:=j4 hd hp
  have:=k (W6 ra f (W6 (ra f) w p)) (W6 pa p (some [f,w])) (i8 (i8 M p o0) (da f) (.dK (D3 (O0 (ra f) D) (.inr w) (.ref p)))) (by rw[P2 _ hv,J7 e];exact t.addW m hf e hp (h0 _)) ((Fr.new hp fun a ha=>(t.own a ha).2).trans (Fr.own (q:=[f]) (by rw[B2 nb];exact h3) (by show 1<3;decide)))
  rw[E4,E4] at this
  exact this
theorem TAt.setdF{σ:St}{i j:Nat}{f:Str}{Q:VK}(m:RM R)(t:TAt R G M b da ra pa F)(hi:σ[i]? =some (some (.ref b)))(hj:σ[j]? =some (some (.str f)))(hl:F.length<sizeLine)(k:∀AW G8 M',TAt R G M' b AW ra G8 (KT.mod F f fun o=>o.getD [])->Fr G pa M G8 M'->Q (.ref (AW f)) M'):Dv (CI i) (CI j) K9 σ M Q:=
 ⟨_,hi,b,rfl, .inl ⟨_, .inl t.top.1⟩,_,hj,fun p hp=>⟨_, .inr f,c7 hp _ _ _ t.top.1,rfl,by rw[Q4];exact hl,t.setF m hp rfl k⟩⟩
theorem TAt.setdW{σ:St}{j:Nat}{f w:Str}{D:Wt Str}{Q:VK}(m:RM R)(t:TAt R G M b da ra pa F)(hf:get F f=some D)(hj:σ[j]? =some (some (.str w)))(hl:D.length<sizeLine)(h0:∀h,R h (.lst []) [])(k:∀V3 G8 M',TAt R G M' b da V3 G8 (KT.mod F f fun _=>KT.mod D w fun o=>o.getD [])->Fr G pa M G8 M'->Q (.ref (V3 f w)) M'):
  ∃a,V.ref (da f)= .ref a/\IsD M a/\CI j σ M fun y H2=>KH GO σ H2 fun z H3=>∃kvs k,H3 a=some (.dK kvs)/\y=kV k/\kvs.length<sizeLine/\(∀v,A9 kvs k=some v->Q v H3)/\(A9 kvs k=none->Q z (i8 H3 a (.dK (D3 kvs k z)))):=
 ⟨_,rfl, .inl ⟨_, .inl (t.fld f D hf).1⟩,_,hj,o8 _,fun p hp=>⟨_, .inr w,c7 hp _ _ _ (t.fld f D hf).1,rfl,by rw[Q4];exact hl,t.setW m hf hp rfl h0 k⟩⟩
theorem TAt.nwhid{H:Hp}(t:TAt R G M b da ra pa F):i6 (nw M H) (CF G pa H):=fun a u h=>by
 have h1:=Z6 _ _ h
 by_cases g:M a=none
 ·exact Ab h1 (t.base.free g) (G2 fun e=>(t.own a e).2 g)
 ·rw[IZ g] at h;cases h
end
def VS(ks:List Int):List (A0×V):=ks.map fun m=>(.inl m, .int m)
theorem DH{m:Int}:∀{ks:List Int},A9 (VS ks) (.inl m)=if m∈ks then some (.int m) else none
 |[]=>rfl
 |k::ks=>by
  show A9 ((.inl k, .int k)::VS ks) _=_
  by_cases h:k=m
  ·rw[B4 (by rw[h]),if_pos (by rw[h];exact A5),h]
  ·have h':¬m=k:=fun e=>h e.symm
   rw[B5 (fun e=>h (NN e)),DH]
   simp [h']
def Bn(ks:List Int)(r:Rw):Rw:=r.filter fun q=>decide (q.1∈ks)
theorem Qbe{n:Nat}{F:Fl}{f w:Str}{r:Rw}(h:Sz n F)(hr:r.length<=20):Sz (n+20) (FU F f w r):=by
 refine⟨E7 Jb (by have:=h.1;omega),fun x hx=> ?_⟩
 rcases Q0 hx with e|e
 ·have:=h.2 x e
  exact⟨by omega,fun y hy=>by have:=this.2 y hy;omega⟩
 ·subst e
  have a:=h.at_ (f:=f)
  refine⟨E7 Jb (by have:=a.1;omega),fun y hy=> ?_⟩
  rcases Q0 hy with e|e
  ·have:=a.2 y e
   omega
  ·subst e
   show ((get ((get F f).getD []) w).getD []++r).length<=_
   rw[y9]
   cases e:get ((get F f).getD []) w with
   |none=>simp;omega
   |some q=>have:=a.2 _ (D6 e);simp only[V6];simp only at this;omega
def Ld(C:Addr):Sp:=fun vs H Q _=>∃(b x k:Addr) (fl:Str) (G:Hp) (da:Str->Addr) (ra:Str->Str->Addr) (pa:Ay) (F:Fl) (ms:List Mk) (ks:List Int) (n:Nat),vs=[.ref b, .ref x, .str fl, .ref k]/\TAt Rp G H b da ra pa F/\W4 C G x ms/\Z8 ms/\mw (-1) ms/\G k=some (.dK (VS ks))/\Gd F/\Sz n F/\n<=8000000/\
 ∀AW V3 G8 F' H',TAt Rp G H' b AW V3 G8 F'->Fr G pa H G8 H'->Gd F'->(∀f w,G5 F' f w=G5 F f w++if f=fl then Bn ks (u0 ms fl w) else [])->Q .non H'
def Qab{C:Addr}{v0:Addr}{v1:Addr}{v2:Str}{v3:Addr}{H:Hp}{Q:VK}{E:XK}:=show Ld C [.ref v0, .ref v1, .str v2, .ref v3] H Q E=_ by
 simpa only[Ld]
 rfl
theorem SQ:FnScope ["by_field","piece","field","kept","word","found"] ["by_field","piece","field","kept"] (i3 WA):=by ac_rfl
def TX(k:Addr)(L0 L1:Hp)(ks:List Int)(row:Rw)(i:Nat)(ys:List V)(σ:St)(L:Hp):Prop:=∃v0 v1:Option V,σ=[v0,v1,some (.ref k)]/\i6 L1 L/\c8 (nw L0 L) ((Bn ks (row.take i)).map Fe) ys
def Qcq(G H:Hp)(b x k wl:Addr)(fl:Str)(pa:Ay)(F:Fl)(ms:List Mk)(ks:List Int)(n:Nat)(ys:List Str)(i:Nat)(σ:St)(L:Hp):Prop:=∃v4 v5:Option V,σ=[some (.ref b),some (.ref x),some (.str fl),some (.ref k),v4,v5]/\∃AW V3 G8 F',TAt Rp G L b AW V3 G8 F'/\Fr G pa H G8 L/\Gd F'/\Sz (n+20*i) F'/\L wl=some (.lst (ys.map V.str))/\G8 wl=none/\
 ∀f w,G5 F' f w=G5 F f w++if f=fl/\w∈ys.take i then Bn ks (u0 ms fl w) else []
theorem QaY{C gw gp:Addr}{dw' dp:FuncData}(F:Fun K "add_field_postings" "add_field_postings" WA f fd)(T:Txt mg)(cl:Cls K C)
  (mPW:Meth K C "words" gw)(GPW:FnOk P w K mg bs0 D7 1 gw dw' ["self","field"] (IE C))(bPW:Binds K dw' ["self","field"] [])
  (mPP:Meth K C "postings" gp)(GPP:FnOk P w K mg bs0 D7 1 gp dp ["self","field","word"] (IF C))(bPP:Binds K dp ["self","field","word"] []):FnOk P w K mg bs0 D7 2 f fd ["by_field","piece","field","kept"] (Ld C):=by
 refine F.ok SQ (fun vs H Q E h=> ?_) (fun E6 A outer s H vs Q E hr h=> ?_)
 ·obtain⟨b,x,k,fl,G,da,ra,pa,F,ms,ks,n,rfl,_⟩:=h
  rfl
 obtain⟨b,x,k,fl,G,da,ra,pa,F,ms,ks,n,rfl,t0,AX,Ac,V0,hk,gF,hszF,hn,q⟩:=h
 have hr1:Room 1 _:=hr
 have szl:=B9
 have hsz:=MC Ac
 refine⟨_,(h8 (y7 B3 rfl (l6 K (Z3 (pv 1) cl mPW GPW hr1 bPW .nil k9 (c5 (pv 2) e6))) (i5 (i:=4) SQ.nd rfl (Or.inl rfl))
   (e7 (IQ (i:=5) SQ.nd rfl rfl (N:=["make","places","kept"]) (pick:=[none,none,some 3]) (NX:=["by_field","piece","field","kept","word","found"]) (sX:=i3 WA) (by decide+kernel) rfl rfl rfl (l6 K (Z3 (pv 1) cl mPP GPP hr1 bPP .nil k9 (c5 (pv 2) (c5 (pv 4) e6))))
    (fun _ _ _ _=>(GV K (n:=2) rfl (j9 (i5 (i:=0) QbY rfl (Or.inl rfl)) (j9 (i5 (i:=1) QbY rfl (Or.inl rfl)) C4)))) (fun _ _ _ _=>(Bg (IP (MW (E3 hr) (pv 0) (pv 2))))) (fun _ _ _ _=>(X0 (c5 (Z4 (E3 hr) (pv 2) (pv 0) (fun _ _=>rfl)) (c5 (pv 1) e6)))))
  (h8 (G9 (FC (pv 5) (fun _=>rfl)) (h8 (D4 (Ms K T4 PySem.F.slot_list_extend PySem.F.type_list_extend QD (Bh (Bh (pv 0) (pv 2) C5 ⟨rfl,rfl,rfl,rfl⟩) (pv 4) (u6 e6) ⟨rfl,rfl,rfl,rfl⟩) (c5 (pv 5) e6)))) A3))))),?_⟩
 and_intros
 simpa only[↓Su,IE,↓O5]
 obtain⟨dx,fs,hx,TM,lk2,lk3,lk4,lk5⟩:=AX.ins
 have hzw:(Z0 ms fl).length<=400000:=(hsz.at_ (f:=fl)).1
 refine⟨dx,fs,t0.base _ _ hx,lk2,ms,AX.same t0.base,by omega,fun wl ys H1 s1 Nk p1 o1 hv1=> ?_⟩
 have Pm:ys.length<=400000:=by have:=p1.length_eq;rw[i4] at this;omega
 have gwl:G wl=none:=t0.base.free Nk
 have pwl:pa wl=none:=G2 fun e=>(t0.own wl e).2 Nk
 have ndy:ys.Nodup:=p1.nodup_iff.mpr ((Z1 (ms:=ms) Bq).at_ fl).1
 refine⟨⟨_,l7.of hv1⟩,w4 (ys.map V.str) (Qcq G H b x k wl fl pa F ms ks n ys) ⟨_,_,rfl,da,ra,pa,F,t0.same Aw s1,Fr.same s1 fun a ha=>(t0.own a ha).2,gF,hszF,hv1,pwl,fun f w=>by simp⟩ ?_ ?_ ?_⟩
 ·rintro i σ L hi ⟨v4,v5,rfl,AW,V3,G8,F',t,fr,g,sz,hv,hp,X5⟩
  exact l7.of hv
 ·rintro i y σ L hy ⟨v4,v5,rfl,AW,V3,G8,F',t,fr,g,sz,hv,hp,X5⟩
  rw[u8] at hy
  obtain⟨wd,Ua,rfl⟩:=o7.mp hy
  have EB:=(u4.mp Ua).1
  have Pn:=IM Ac V0 fl wd
  simpa only[↓Sv,IF,↓O5]
  refine⟨dx,fs,t.base _ _ hx,lk3,ms,AX.same t.base,(by have:=Pn.few;omega),fun Bc GK L1 s2 hto Ub VY=> ?_⟩
  have Ui:c8 (nw L L1) ((u0 ms fl wd).map Fe) GK:=c8.same (Q8 _ _) _ _ VY
  have Xq:GK.length=(u0 ms fl wd).length:=by have:=VY.length;rwa [i4] at this
  have hkL:=t.base _ _ hk
  refine⟨⟨_,l7.of Ub⟩,C0 GK (TX k L L1 ks (u0 ms fl wd)) ⟨none,none,rfl,i6.refl _,c8.nil⟩ ?_ ?_ ?_⟩
  ·rintro j zs σ L2' hj ⟨v0,v1,rfl,sL2,hz⟩
   refine⟨l7.of (sL2 _ _ Ub),?_⟩
   have h1:=hz.length
   have h2:=DR (fun q:Int×List Int=>decide (q.1∈ks)) ((u0 ms fl wd).take j)
   rw[i4] at h1
   rw[A4] at h2
   have:=Pn.few
   unfold Bn at h1
   omega
  ·rintro j z zs σ L2' hz ⟨v0,v1,rfl,sL2,Pj⟩
   obtain⟨dv,g1,g2⟩:=Ui.get hz
   rw[u8] at g1
   obtain⟨qq,hq,rfl⟩:=o7.mp g1
   obtain⟨ta,tb,rfl,hta,Xr⟩:=DN g2
   have hkL2:=sL2 _ _ (s2 _ _ hkL)
   simpa only[↓Sj,↓Es]
   refine⟨_,W3.of (sL2 _ _ (Z6 _ _ hta)),rfl,?_⟩
   simpa only[↓Sj,↓Es]
   refine⟨_,V7.k (k:= .inl qq.1) hkL2,?_⟩
   unfold TX Bn
   rw[DH,x6,hq,Cr,DQ,n6]
   by_cases e:qq.1∈ks
   ·rw[if_pos e]
    refine Xm ⟨_, .inl ⟨_, .inl qq.1, .inl hkL2,rfl,by rw[DH,if_pos e]⟩,(by decide),fun p8 hp8=>⟨_,_,rfl,sL2.trans (c7 hp8 _),?_⟩⟩
    rw[JH (by simp [e]),JG]
    have sp8:=c7 hp8 (.tup [.int qq.1, .ref tb])
    refine(c8.same (CY sp8) _ _ Pj).app (c8.one (Nv (m:=qq.1) (ps:=qq.2) (Z7 c6 ((s2.trans sL2).free hp8)) (CY (sL2.trans sp8) _ _ Xr)))
   ·rw[if_neg e]
    refine Ni ⟨_,_,rfl,sL2,?_⟩
    rw[JF (by simp [e]),JG,List.map_nil,List.append_nil]
    exact Pj
  ·rintro zs σ L2' ⟨v0,v1,rfl,sL2,Pj⟩ fo VX
   rw[Xq,y8] at Pj
   have sfo:=c7 VX (.lst zs)
   have s3:=s2.trans (sL2.trans sfo)
   have hzd:c8 (nw L (i8 L2' fo (.lst zs))) ((Bn ks (u0 ms fl wd)).map Fe) zs:=c8.same (CY sfo) _ _ Pj
   have hfov:(i8 L2' fo (.lst zs)) fo=_:=c6
   generalize i8 L2' fo (.lst zs)=M at s3 hzd hfov⊢
   have hrl:(Bn ks (u0 ms fl wd)).length<=20:=E7 (DR _ _) Pn.few
   have Pk:zs.length=(Bn ks (u0 ms fl wd)).length:=by have:=hzd.length;rwa [i4] at this
   have hni:wd∉ys.take i:=fun hm=>by
    obtain⟨j,hj⟩:=BA.mp hm
    rw[Y3] at hj
    split at hj
    ·rename_i hji
     have:=Ee.mp ndy j i (by omega) EB hji
     exact this (by rw[(u4.mp hj).2,(u4.mp Ua).2])
    ·cases hj
   have hfin:∀{F2:Fl},(∀f w,G5 F2 f w=if f=fl/\w=wd then G5 F' fl wd++Bn ks (u0 ms fl wd) else G5 F' f w)->∀f w,G5 F2 f w=G5 F f w++if f=fl/\w∈ys.take (i+1) then Bn ks (u0 ms fl w) else []:=fun h f w=>by
    rw[h,x6,Ua,Cr]
    by_cases e:f=fl/\w=wd
    ·obtain⟨rfl,rfl⟩:=e
     rw[if_pos ⟨rfl,rfl⟩,X5]
     simp [hni]
    ·rw[if_neg e,X5]
     by_cases e1:f=fl
     ·have e2:¬w=wd:=fun z=>e ⟨e1,z⟩
      simp [e1,e2]
     ·simp [e1]
   refine⟨!zs.isEmpty, .inl ⟨_,l7.of hfov,rfl⟩,?_⟩
   have tM:=t.same Aw s3
   have frM:=fr.trans (Fr.same s3 fun a ha=>(t.own a ha).2)
   cases hze:zs with
   |nil=>
    have h0:Bn ks (u0 ms fl wd)=[]:=Cs (by rw[<-Pk,hze];rfl)
    refine Ni ⟨_,_,rfl,AW,V3,G8,F',tM,frM,g,sz.mono (by omega),s3 _ _ hv,hp,hfin fun f w=> ?_⟩
    by_cases e:f=fl/\w=wd
    ·rw[if_pos e,h0,List.append_nil,e.1,e.2]
    ·rw[if_neg e]
   |cons z0 zs0=>
    rw[if_pos (show (!(z0::zs0).isEmpty)=true from rfl)]
    have Np:Bn ks (u0 ms fl wd)≠[]:=fun z=>by rw[z,hze] at Pk;cases Pk
    have hs1:=sz.1
    have hsF:=sz.at_ (f:=fl)
    refine tM.setdF (f:=fl) Aw rfl rfl (by omega) fun da2 pa2 M2 t2 fr2=> ?_
    have g1:get (KT.mod F' fl fun o=>o.getD []) fl=some ((get F' fl).getD []):=x9 ..
    refine t2.setdW (w:=wd) Aw g1 rfl (by omega) (fun _=>⟨[],rfl,c8.nil⟩) fun ra3 pa3 M3 t3 fr3=> ?_
    have g2:get (KT.mod (KT.mod F' fl fun o=>o.getD []) fl fun _=>KT.mod ((get F' fl).getD []) wd fun o=>o.getD []) fl=some (KT.mod ((get F' fl).getD []) wd fun o=>o.getD []):=x9 ..
    have g3:get (KT.mod ((get F' fl).getD []) wd fun o=>o.getD []) wd=some ((get ((get F' fl).getD []) wd).getD []):=x9 ..
    obtain⟨⟨o,hr2,xs,rfl,VU⟩,hr3⟩:=t3.row fl _ wd _ g2 g3
    have fr13:=fr2.trans fr3
    have hfp:M fo=some (.lst zs):=hfov
    have hfoL:L fo=none:=(s2.trans sL2).free VX
    have gfo:G fo=none:=t.base.free hfoL
    have pfo:G8 fo=none:=G2 fun e=>(t.own fo e).2 hfoL
    obtain⟨hfo3,pfo3⟩:=fr13.at_ hfp gfo pfo
    obtain⟨hv3,pv3⟩:=fr13.at_ (s3 _ _ hv) gwl hp
    have Fa:xs.length<=n+20*i:=by
     have h1:=VU.length
     rw[i4] at h1
     rw[h1]
     cases e:get ((get F' fl).getD []) wd with
     |none=>exact o8 _
     |some r=>exact hsF.2 _ (D6 e)
    have t4:=t3.chg g2 g3 (o:= .lst (xs++zs)) (r':=(get ((get F' fl).getD []) wd).getD []++Bn ks (u0 ms fl wd)) ⟨_,rfl,by rw[n6];exact VU.app (c8.same (t.nwhid.trans fr13.free) _ _ hzd)⟩
    rw[M7,M7,M7] at t4
    have eE:FU F' fl wd (Bn ks (u0 ms fl wd))=KT.mod F' fl fun _=>KT.mod ((get F' fl).getD []) wd fun _=>(get ((get F' fl).getD []) wd).getD []++Bn ks (u0 ms fl wd):=by
     unfold FU
     apply B8
     apply B8
     rfl
    have nwl:wl≠ra3 fl wd:=fun e=>by rw[e,hr3] at pv3;cases pv3
    exact⟨.inl ⟨rfl,_,l7.of hr2⟩,_,_,_,_,rfl,rfl,hr2,hfo3,by omega,_,_,rfl,da2,ra3,pa3,_,by rw[eE];exact t4,frM.trans (fr13.trans (Fr.own (q:=[fl,wd]) hr3 (by show 2<3;decide))),Ux g Np,(Qbe sz hrl).mono (by omega),by rw[g9 nwl];exact hv3,pv3,hfin fun f w=>Pq⟩
 ·rintro σ L ⟨v4,v5,rfl,AW,V3,G8,F',t,fr,g,sz,hv,hp,X5⟩
  rw[i4,y8] at X5
  refine q AW V3 G8 F' L t fr g fun f w=> ?_
  rw[X5]
  by_cases e:f=fl
  ·subst e
   by_cases hw:w∈ys
   ·simp [hw]
   ·have:u0 ms f w=[]:=G2 fun z=>hw (p1.mem_iff.mpr ((Z1 (ms:=ms) Bq).word.mpr z))
    simp [hw,this,Bn]
  ·simp [e]
theorem TAt.but{R:Hp->HO->Rw->Prop}{G H H':Hp}{b N:Addr}{da:Str->Addr}{ra:Str->Str->Addr}{pa:Ay}{F:Fl}{q:List Str}{o o':HO}(m:RM R)(t:TAt R G H b da ra pa F)(hN:pa N=some q)(hq:2<q.length)(h0:H N=some o)(s:∀a u,a≠N->H a=some u->H' a=some u)(hn:H' N=some o'):TAt R G H' b da ra pa F:=by
 have s1:i6 H (i8 H' N o):=fun a u h=>by
  by_cases e:a=N
  ·rw[e] at h⊢;rw[h0] at h;rw[c6,<-h]
  ·rw[g9 e];exact s a u e h
 have:=(t.same m s1).out (o:=o') hN hq
 rw[Iy,Mx hn] at this
 exact this
def Le(C:Addr):Sp:=fun vs H Q _=>∃(N x k:Addr) (fl:Str) (G:Hp) (T:LT) (ms:List Mk) (ks:List Int),vs=[.ref N, .ref x, .str fl, .ref k]/\i6 G H/\G N=none/\H N=some (.dT T)/\T.length<=10000000/\W4 C G x ms/\ms.length<=20/\G k=some (.dK (VS ks))/\
 ∀T' H',(∀a u,a≠N->H a=some u->H' a=some u)->H' N=some (.dT T')->T'.length<=T.length+20->(∀m f,LV T' m f=if f=fl/\m∈ms.map (·.1)/\m∈ks then LV (AD [] ms) m f else LV T m f)->Q .non H'
def Qac{C:Addr}{v0:Addr}{v1:Addr}{v2:Str}{v3:Addr}{H:Hp}{Q:VK}{E:XK}:=show Le C [.ref v0, .ref v1, .str v2, .ref v3] H Q E=_ by
 simpa only[Le]
 rfl
theorem Yt:FnScope ["lengths","piece","field","kept","make"] ["lengths","piece","field","kept"] (i3 Qar):=by ac_rfl
def Za(H:Hp)(N x k ml:Addr)(fl:Str)(T:LT)(ms:List Mk)(ks:List Int)(i:Nat)(σ:St)(L:Hp):Prop:=∃v4:Option V,σ=[some (.ref N),some (.ref x),some (.str fl),some (.ref k),v4]/\∃T',(∀a u,a≠N->H a=some u->L a=some u)/\L N=some (.dT T')/\T'.length<=T.length+i/\L ml=some (.lst (ms.map fun m=> .int m.1))/\∀m f,LV T' m f=if f=fl/\m∈(ms.take i).map (·.1)/\m∈ks then LV (AD [] ms) m f else LV T m f
theorem QaZ{C gm gl:Addr}{dm dl:FuncData}(F:Fun K "add_field_lengths" "add_field_lengths" Qar f fd)(T:Txt mg)(cl:Cls K C)
  (mPM:Meth K C "makes" gm)(GPM:FnOk P w K mg bs0 D7 1 gm dm ["self"] (Dx C))(bPM:Binds K dm ["self"] [])
  (mPL:Meth K C "length" gl)(GPL:FnOk P w K mg bs0 D7 1 gl dl ["self","make","field"] (MK C))(bPL:Binds K dl ["self","make","field"] []):FnOk P w K mg bs0 D7 2 f fd ["lengths","piece","field","kept"] (Le C):=by
 refine F.ok Yt (fun vs H Q E h=> ?_) (fun E6 A outer s H vs Q E hr h=> ?_)
 ·obtain⟨N,x,k,fl,G,T,ms,ks,rfl,_⟩:=h
  rfl
 obtain⟨N,x,k,fl,G,T0,ms,ks,rfl,sG,gN,hN,hTl,AX,Ds,hk,q⟩:=h
 have hr1:Room 1 _:=hr
 have szl:=B9
 refine⟨_,(h8 (y7 B3 rfl (l6 K (U7 (i9 1) cl mPM GPM hr1 bPM .nil k9)) (i5 (i:=4) Yt.nd rfl (Or.inl rfl))
   (h8 (G9 (IP (MW (E3 hr) (i9 4) (i9 3))) (h8 (U4 (E3 hr) (i9 0) (X0 (c5 (Z4 (E3 hr) (i9 3) (i9 4) (fun _ _=>rfl)) (c5 (i9 2) e6))) (Z3 (i9 1) cl mPL GPL hr1 bPL .nil k9 (c5 (i9 4) (c5 (i9 2) e6))) rfl)) A3)))),?_⟩
 and_intros
 simpa only[↓KS,Dx,↓O5]
 obtain⟨dx,fs,hx,TM,lk2,lk3,lk4,lk5⟩:=AX.ins
 have nG:∀{a u},G a=some u->a≠N:=fun h e=>by rw[e,gN] at h;cases h
 refine⟨dx,fs,sG _ _ hx,lk5,ms,AX.same sG,fun ml H1 s1 hml hv1=> ?_⟩
 have nml:ml≠N:=fun e=>by rw[e,hN] at hml;cases hml
 have hvl:(ms.map fun m=>V.int m.1).length=ms.length:=i4 _
 refine⟨⟨_,l7.of hv1⟩,w4 (ms.map fun m=>V.int m.1) (Za H N x k ml fl T0 ms ks) ⟨_,rfl,T0,fun a u _ h=>s1 _ _ h,s1 _ _ hN,l8 _,hv1,fun m f=>by simp⟩ ?_ ?_ ?_⟩
 ·rintro i σ L hi ⟨v4,rfl,T',sL,hNL,hl,hv,hT⟩
  exact l7.of hv
 ·rintro i y σ L hy ⟨v4,rfl,T',sL,hNL,hl,hv,hT⟩
  rw[u8] at hy
  obtain⟨m,hm,rfl⟩:=o7.mp hy
  have EB:=(u4.mp hm).1
  have sGL:i6 G L:=fun a u h=>sL a u (nG h) (sG _ _ h)
  have hkL:=sGL _ _ hk
  simpa only[↓Yq,MK,↓Sj,↓Es,↓AN,↓O5]
  refine⟨_,V7.k (k:= .inl m.1) hkL,?_⟩
  unfold Za
  have emm:(ms.take (i+1)).map (·.1)=(ms.take i).map (·.1)++[m.1]:=by rw[x6,hm,n6];rfl
  rw[DH,emm]
  by_cases e:m.1∈ks
  ·rw[if_pos e]
   refine Xm ⟨dx,fs,sGL _ _ hx,lk4,ms,AX.same sGL,fun L1 s2=> ?_⟩
   refine⟨_, .inl ⟨_, .inl m.1, .inl (s2 _ _ hkL),rfl,by rw[DH,if_pos e]⟩,(by decide),fun p hp=> ?_⟩
   have sp:=s2.trans (c7 hp (.tup [.int m.1, .str fl]))
   have hNp:=sp _ _ hNL
   refine⟨_,BG.t (k:=[.inl m.1, .inr fl]) hNp c6 (by omega),_,rfl,_,fun a u na h=>by rw[g9 na];exact sp _ _ (sL a u na h),c6,E7 (K4 _ _ _) (by omega),by rw[g9 nml];exact sp _ _ hv,fun m' f'=> ?_⟩
   unfold LV at hT⊢
   rw[Bb]
   by_cases e1:([.inl m', .inr f']:List A0)=[.inl m.1, .inr fl]
   ·cases e1
    rw[if_pos rfl,if_pos ⟨rfl,by simp,e⟩]
    rfl
   ·rw[if_neg e1,hT]
    by_cases e2:f'=fl
    ·have e3:¬m'=m.1:=fun z=>e1 (by rw[z,e2])
     simp [e2,e3]
    ·simp [e2]
  ·rw[if_neg e]
   refine Ni ⟨_,rfl,T',sL,hNL,by omega,hv,fun m' f'=> ?_⟩
   rw[hT]
   by_cases e3:m'=m.1
   ·subst e3
    simp [e]
   ·simp [e3]
 ·rintro σ L ⟨v4,rfl,T',sL,hNL,hl,hv,hT⟩
  rw[hvl] at hl hT
  rw[y8] at hT
  exact q T' L sL hNL (by omega) hT
def SD:Wt Str->Wt Str->Prop
 |[],[]=>True
 |y::D,y'::D'=>(y'.1=y.1/\y'.2.Perm y.2/\(y'.2.map (·.1)).Pairwise (· <= ·))/\SD D D'
 |_,_=>False
theorem SD.snoc{y y':Str×Rw}(h1:y'.1=y.1/\y'.2.Perm y.2/\(y'.2.map (·.1)).Pairwise (· <= ·)):∀{D D':Wt Str},SD D D'->SD (D++[y]) (D'++[y'])
 |[],[],_=>⟨h1,trivial⟩
 |x::D,x'::D',h=>⟨h.1,h.2.snoc h1⟩
 |[],_::_,h=>h.elim
 |_::_,[],h=>h.elim
theorem SD.keys:∀{D D':Wt Str},SD D D'->D'.map (·.1)=D.map (·.1)
 |[],[],_=>rfl
 |x::D,x'::D',h=>by rw[List.map_cons,List.map_cons,h.2.keys,h.1.1]
 |[],_::_,h=>h.elim
 |_::_,[],h=>h.elim
theorem SD.get{w:Str}:∀{D D':Wt Str},SD D D'->((KT.get D' w).getD []).Perm ((KT.get D w).getD [])/\(((KT.get D' w).getD []).map (·.1)).Pairwise (· <= ·)
 |[],[],_=>⟨.refl _,List.Pairwise.nil⟩
 |x::D,x'::D',⟨⟨e,h1,h2⟩,h⟩=>by
  rw[KT.get,KT.get,e]
  by_cases hx:x.1=w
  ·rw[if_pos hx,if_pos hx];exact⟨h1,h2⟩
  ·rw[if_neg hx,if_neg hx];exact h.get
 |[],_::_,h=>h.elim
 |_::_,[],h=>h.elim
theorem SD.ne:∀{D D':Wt Str},SD D D'->(∀y∈D,y.2≠[])->∀y∈D',y.2≠[]
 |[],[],_,_=>fun y hy=>(by cases hy)
 |x::D,x'::D',⟨⟨e,h1,h2⟩,h⟩,hn=>fun y hy=>by
  rcases C8.mp hy with z|hy
  ·rw[z]
   intro z2
   rw[z2] at h1
   exact hn x A5 h1.symm.eq_nil
  ·exact h.ne (fun y hy=>hn y (B1 _ hy)) y hy
 |[],_::_,h,_=>h.elim
 |_::_,[],h,_=>h.elim
def SF:Fl->Fl->Prop
 |[],[]=>True
 |x::F,x'::F'=>(x'.1=x.1/\SD x.2 x'.2)/\SF F F'
 |_,_=>False
theorem SF.snoc{x x':Str×Wt Str}(h1:x'.1=x.1/\SD x.2 x'.2):∀{F F':Fl},SF F F'->SF (F++[x]) (F'++[x'])
 |[],[],_=>⟨h1,trivial⟩
 |x::D,x'::D',h=>⟨h.1,h.2.snoc h1⟩
 |[],_::_,h=>h.elim
 |_::_,[],h=>h.elim
theorem SF.keys:∀{F F':Fl},SF F F'->F'.map (·.1)=F.map (·.1)
 |[],[],_=>rfl
 |x::D,x'::D',h=>by rw[List.map_cons,List.map_cons,h.2.keys,h.1.1]
 |[],_::_,h=>h.elim
 |_::_,[],h=>h.elim
theorem SF.row{f w:Str}:∀{F F':Fl},SF F F'->(G5 F' f w).Perm (G5 F f w)/\((G5 F' f w).map (·.1)).Pairwise (· <= ·)
 |[],[],_=>⟨.refl _,List.Pairwise.nil⟩
 |x::F,x'::F',⟨⟨e,h1⟩,h⟩=>by
  unfold G5
  rw[KT.get,KT.get,e]
  by_cases hx:x.1=f
  ·rw[if_pos hx,if_pos hx];exact h1.get
  ·rw[if_neg hx,if_neg hx];exact h.row
 |[],_::_,h=>h.elim
 |_::_,[],h=>h.elim
theorem SF.kw:∀{F F':Fl},SF F F'->(∀x∈F,(x.2.map (·.1)).Nodup/\x.2≠[]/\∀y∈x.2,y.2≠[])->∀x∈F',(x.2.map (·.1)).Nodup/\x.2≠[]/\∀y∈x.2,y.2≠[]
 |[],[],_,_=>fun y hy=>(by cases hy)
 |x::D,x'::D',⟨⟨e,h1⟩,h⟩,hn=>fun y hy=>by
  rcases C8.mp hy with z|hy
  ·subst z
   obtain⟨n1,n2,n3⟩:=hn x A5
   refine⟨by rw[h1.keys];exact n1,fun z=>n2 ?_,h1.ne n3⟩
   have:=h1.keys
   rw[z] at this
   exact Vb.mp this.symm
  ·exact h.kw (fun y hy=>hn y (B1 _ hy)) y hy
 |[],_::_,h,_=>h.elim
 |_::_,[],h,_=>h.elim
theorem SF.gd{F F':Fl}(h:SF F F')(g:Gd F):Gd F':=⟨by rw[h.keys];exact g.kf,h.kw g.kw⟩
def La:Sp:=fun vs H Q _=>∃(b:Addr) (G:Hp) (da:Str->Addr) (ra:Str->Str->Addr) (pa:Ay) (F:Fl) (n:Nat),vs=[.ref b]/\TAt Rp G H b da ra pa F/\Gd F/\(∀f w,((G5 F f w).map (·.1)).Nodup)/\Sz n F/\n<=1000000/\
 ∀o AW V3 G8 F' H',TAt Rp G H' o AW V3 G8 F'->SF F F'->(∀a u,H a=some u->(∀q,pa a=some q->2<q.length)->H' a=some u/\G8 a=none)->Q (.ref o) H'
def ZY{v0:Addr}{H:Hp}{Q:VK}{E:XK}:=show La [.ref v0] H Q E=_ by
 simpa only[La]
 rfl
theorem Tl{α β:Type}{g:α->β}{l l':List β}(h:l.Perm l'):∀{ps:List α},l'=ps.map g->∃qs:List α,qs.Perm ps/\l=qs.map g:=by
 induction h with
 |nil=>intro ps e;exact⟨[],by rw[Vb.mp e.symm],rfl⟩
 |cons x _ ih=>
  intro ps e
  cases ps with
  |nil=>cases e
  |cons p ps=>
   obtain⟨e1,e2⟩:=DX e
   obtain⟨qs,h1,h2⟩:=ih e2
   exact⟨p::qs,h1.cons p,by rw[List.map_cons,<-h2,e1]⟩
 |swap x y l=>
  intro ps e
  cases ps with
  |nil=>cases e
  |cons p ps=>
   cases ps with
   |nil=>cases e
   |cons p2 ps=>
    obtain⟨e1,e2⟩:=DX e
    obtain⟨e2,e3⟩:=DX e2
    exact⟨p2::p::ps, .swap p p2 ps,by rw[List.map_cons,List.map_cons,e1,e2,e3]⟩
 |trans _ _ ih1 ih2=>
  intro ps e
  obtain⟨qs,h1,h2⟩:=ih2 e
  obtain⟨rs,h3,h4⟩:=ih1 h2
  exact⟨rs,h3.trans h1,h4⟩
theorem HA{h:Hp}:∀{r:Rw} {xs:List V},c8 h (r.map Fe) xs->∃zs:List ((Int×List Int)×Addr),r=zs.map (·.1)/\xs=zs.map (fun z=> .ref z.2)/\∀z∈zs,k7 h (Fe z.1) (.ref z.2)
 |[],xs,d=>by
  rw[List.map_nil,c8] at d
  exact⟨[],rfl,d,fun z hz=>(by cases hz)⟩
 |q::r,xs,d=>by
  rw[List.map_cons,c8] at d
  obtain⟨y,ys,rfl,h1,h2⟩:=d
  obtain⟨zs,e1,e2,e3⟩:=HA h2
  obtain⟨a,b,rfl,ha,hb⟩:=DN h1
  refine⟨(q,a)::zs,by rw[List.map_cons,<-e1],by rw[List.map_cons,<-e2],fun z hz=> ?_⟩
  rcases C8.mp hz with e|hz
  ·rw[e];exact h1
  ·exact e3 z hz
theorem HD{h:Hp}:∀{zs:List ((Int×List Int)×Addr)},(∀z∈zs,k7 h (Fe z.1) (.ref z.2))->c8 h ((zs.map (·.1)).map Fe) (zs.map fun z=> .ref z.2)
 |[],_=>c8.nil
 |z::zs,hz=>by
  rw[List.map_cons,List.map_cons,List.map_cons,c8]
  exact⟨_,_,rfl,hz z A5,HD fun y hy=>hz y (B1 _ hy)⟩
theorem OG:FnScope ["by_field","ordered","field","word"] ["by_field"] (i3 Qal):=by ac_rfl
def Kp2(H:Hp)(pa:Ay)(G8:Ay)(L:Hp):Prop:=∀a u,H a=some u->(∀q,pa a=some q->1<q.length)->L a=some u/\G8 a=none
theorem Kp2.fr{G H L M1:Hp}{pa G8 pa1:Ay}{R:Hp->HO->Rw->Prop}{o:Addr}{da:Str->Addr}{ra:Str->Str->Addr}{F:Fl}(k:Kp2 H pa G8 L)(sG:i6 G H)(fr:Fr G G8 L pa1 M1)(t:TAt R G M1 o da ra pa1 F):Kp2 H pa pa1 M1:=fun a u h hq=>by
 obtain⟨h1,h2⟩:=k a u h hq
 cases g:G a with
 |none=>exact fr.at_ h1 g h2
 |some v=>
  refine⟨?_,G2 fun e=> ?_⟩
  ·rw[t.base _ _ g,<-h,sG _ _ g]
  ·have:=(t.own a e).1
   rw[g] at this
   cases this
def YT(G H:Hp)(b o:Addr)(ob:Obj)(da:Str->Addr)(ra:Str->Str->Addr)(pa:Ay)(F:Fl)(i:Nat)(σ:St)(L:Hp):Prop:=∃v2 v3:Option V,σ=[some (.ref b),some (.ref o),v2,v3]/\∃AW V3 G8 F',TAt Rp G L o AW V3 G8 F'/\SF (F.take i) F'/\Kp2 H pa G8 L/\(L b=some (.frz ob (.dK (O0 da F)))/\G8 b=some BU)/\∀x∈F.drop i,L (da x.1)=some (.dK (O0 (ra x.1) x.2))/\G8 (da x.1)=some BU
def YU(G H:Hp)(b o:Addr)(ob o2:Obj)(da:Str->Addr)(ra:Str->Str->Addr)(pa:Ay)(F F':Fl)(x:Str×Wt Str)(i j:Nat)(σ:St)(L:Hp):Prop:=∃v3:Option V,σ=[some (.ref b),some (.ref o),some (.str x.1),v3]/\∃AW V3 G8 D',TAt Rp G L o AW V3 G8 (F'++[(x.1,D')])/\SD (x.2.take j) D'/\Kp2 H pa G8 L/\(L b=some (.frz ob (.dK (O0 da F)))/\G8 b=some BU)/\(L (da x.1)=some (.frz o2 (.dK (O0 (ra x.1) x.2)))/\G8 (da x.1)=some BU)/\∀y∈F.drop (i+1),L (da y.1)=some (.dK (O0 (ra y.1) y.2))/\G8 (da y.1)=some BU
theorem YJ{α:Type}{da:Str->Addr}{F:List (Str×α)}{i:Nat}{k:A0}{v:V}(h:(O0 da F)[i]? =some (k,v)):∃x,F[i]? =some x/\k= .inr x.1/\v= .ref (da x.1):=by
 unfold O0 at h
 rw[u8] at h
 obtain⟨x,h1,h2⟩:=o7.mp h
 cases h2
 exact⟨x,h1,rfl,rfl⟩
theorem QaS(F:Fun K "in_order" "in_order" Qal f fd)(T:Txt mg):FnOk P w K mg bs0 D7 1 f fd ["by_field"] La:=by
 refine F.ok OG (fun vs H Q E h=> ?_) (fun E6 A outer s H vs Q E hr h=> ?_)
 ·obtain⟨b,G,da,ra,pa,F,n,rfl,_⟩:=h
  rfl
 obtain⟨b,G,da,ra,pa,F0,n,rfl,t0,gF,Xs,hsz,hn,q⟩:=h
 have szl:=B9
 refine⟨_,(e7 (k8 (i:=1) OG.nd rfl (Or.inl rfl) C5)
  (e7 (y7 B3 rfl (IS (i9 0)) (i5 (i:=2) OG.nd rfl (Or.inl rfl))
   (e7 (U4 (E3 hr) (i9 1) (i9 2) C5 rfl)
  (h8 (y7 B3 rfl (IS (Z4 (E3 hr) (i9 0) (i9 2) (fun _ _=>rfl))) (i5 (i:=3) OG.nd rfl (Or.inl rfl))
   (h8 (U4 (E3 hr) (Z4 (E3 hr) (i9 1) (i9 2) (fun _ _=>rfl)) (i9 3) (n9 (Jy K) rfl T.sorted (by decide+kernel) (c5 (Z4 (E3 hr) (Z4 (E3 hr) (i9 0) (i9 2) (fun _ _=>rfl)) (i9 3) (fun _ _=>rfl)) e6)) rfl))))))
  (h8 (q9 (i9 1))))),?_⟩
 and_intros
 simpa only[↓K9,↓Ph]
 intro o ho
 have nbo:b≠o:=j4 t0.top.1 ho
 have so:=c7 ho (.dK [])
 refine⟨_,so _ _ t0.top.1,fun ob=> ?_⟩
 have hF1:∀x∈F0,get F0 x.1=some x.2:=S8 gF.kf
 have QQ:∀x∈F0,H (da x.1)=some (.dK (O0 (ra x.1) x.2))/\pa (da x.1)=some [x.1]:=fun x hx=>t0.fld _ _ (hF1 x hx)
 let pa0:Ay:=fun a=>if a=o then some [] else match pa a with
  |some q=>if q.length<=1 then some BU else none
  |none=>none
 have p0o:pa0 o=some []:=if_pos rfl
 have p0d:∀{a q},a≠o->pa a=some q->q.length<=1->pa0 a=some BU:=fun{a q} h1 h2 h3=>by
  show (if a=o then some [] else match pa a with|some q=>if q.length<=1 then some BU else none|none=>none)=_
  rw[if_neg h1,h2]
  exact if_pos h3
 have p0n:∀{a},a≠o->(∀q,pa a=some q->1<q.length)->pa0 a=none:=fun{a} h1 h2=>by
  show (if a=o then some [] else match pa a with|some q=>if q.length<=1 then some BU else none|none=>none)=_
  rw[if_neg h1]
  cases e:pa a with
  |none=>rfl
  |some q=>exact if_neg (by have:=h2 q e;omega)
 have i0:YT G H b o ob da ra pa F0 0 [some (.ref b),some (.ref o),none,none] (i8 (i8 H o (.dK [])) b (.frz ob (.dK (O0 da F0)))):=by
  have gb:=(t0.own b (by rw[t0.top.2];intro z;cases z)).1
  refine⟨_,_,rfl,fun _=>0,fun _ _=>0,pa0,[],⟨(t0.base.trans so).newer gb _,fun a ha=> ?_,⟨by rw[g9 nbo.symm,c6];rfl,p0o⟩,fun f D h=>(by cases h),fun f D w r h=>(by cases h)⟩,trivial,fun a u h hq=>⟨?_,p0n (j4 h ho) hq⟩,⟨c6,p0d nbo t0.top.2 (by decide)⟩,fun x hx=> ?_⟩
  ·by_cases e:a=o
   ·subst e
    exact⟨t0.base.free ho,by rw[g9 nbo.symm,c6];intro z;cases z⟩
   ·have hpa:pa a≠none:=fun z=>ha (p0n e fun q hq=>by rw[z] at hq;cases hq)
    refine⟨(t0.own a hpa).1,fun z=> ?_⟩
    by_cases e2:a=b
    ·rw[e2,c6] at z;cases z
    ·rw[g9 e2,g9 e] at z;exact(t0.own a hpa).2 z
  ·have nb:a≠b:=fun e=>by have:=hq [] (by rw[e];exact t0.top.2);exact absurd this (by decide)
   rw[g9 nb]
   exact so _ _ h
  ·have hx':x∈F0:=by rwa [JM] at hx
   obtain⟨h1,h2⟩:=QQ x hx'
   have nb:da x.1≠b:=O6 h2 t0.top.2 (by intro z;cases z)
   exact⟨by rw[g9 nb];exact so _ _ h1,p0d (j4 h1 ho) h2 (by show 1<=1;decide)⟩
 generalize i8 (i8 H o (.dK [])) b (.frz ob (.dK (O0 da F0)))=L0 at i0⊢
 refine DM (YT G H b o ob da ra pa F0) i0 ?_ ?_ ?_
 ·rintro i σ L ⟨v2,v3,rfl,AW,V3,G8,F',t,sf,kp,hb,hd⟩
  exact hb.1
 ·rintro i k v0 σ L hk ⟨v2,v3,rfl,AW,V3,G8,F',t,sf,kp,hb,hd⟩
  obtain⟨x,hx,rfl,rfl⟩:=YJ hk
  have QL:x∈F0:=E8 hx
  have EB:=(u4.mp hx).1
  have XA:F0.drop i=x::F0.drop (i+1):=by rw[U2 EB,(u4.mp hx).2]
  have hszF:=hsz.2 x QL
  have LF:get F' x.1=none:=by
   cases e:get F' x.1 with
   |none=>rfl
   |some D=>
    have h1:=Q2.mp (show (get F' x.1).isSome=true by rw[e];rfl)
    rw[sf.keys] at h1
    have h2:=gF.kf
    rw[<-O8 i F0,n6,AL] at h2
    exact absurd rfl (h2.2.2 _ h1 _ (by rw[XA];exact A5))
  have hlF:F'.length<=1000000:=by
   have h1:=congrArg List.length sf.keys
   rw[i4,i4,A4] at h1
   have:=hsz.1
   omega
  simpa only[↓K9,↓Ph,↓AN,↓Es]
  intro p hp
  have nop:o≠p:=j4 t.top.1 hp
  refine⟨_,BG.k (k:= .inr x.1) (c7 hp _ _ _ t.top.1) (by rw[Q4];omega),?_⟩
  rw[P2 _ (by rw[B6,LF];rfl)]
  have t1:=t.addF (p:=p) Aw LF hp
  have f1:Fr G G8 L (W6 G8 p (some [x.1])) (i8 (i8 L p (.dK [])) o (.dK (O0 AW F'++[(.inr x.1, .ref p)]))):=(Fr.new hp fun a ha=>(t.own a ha).2).trans (Fr.own (q:=[]) (by rw[B2 nop];exact t.top.2) (by decide))
  have kp1:=kp.fr t0.base f1 t1
  obtain⟨hb1,hb2⟩:=f1.far b _ hb.2 (by show 2<3;decide)
  rw[hb.1] at hb1
  have hd1:∀y∈F0.drop i,(i8 (i8 L p (.dK [])) o (.dK (O0 AW F'++[(.inr x.1, .ref p)]))) (da y.1)=some (.dK (O0 (ra y.1) y.2))/\(W6 G8 p (some [x.1])) (da y.1)=some BU:=fun y hy=>by
   obtain⟨h1,h2⟩:=hd y hy
   obtain⟨h3,h4⟩:=f1.far _ _ h2 (by show 2<3;decide)
   exact⟨h3.trans h1,h4⟩
  generalize i8 (i8 L p (.dK [])) o (.dK (O0 AW F'++[(.inr x.1, .ref p)]))=M1 at t1 f1 kp1 hb1 hd1⊢
  generalize W6 AW x.1 p=da1 at t1⊢
  generalize W6 G8 p (some [x.1])=pa1 at t1 f1 kp1 hb2 hd1⊢
  obtain⟨hx1,hx2⟩:=hd1 x (by rw[XA];exact A5)
  refine⟨_, .inl ⟨_, .inr x.1, .inr ⟨ob,hb1⟩,rfl,by rw[B6,hF1 x QL];rfl⟩,_,rfl,_,hx1,fun o2=> ?_⟩
  obtain⟨_,hxp⟩:=QQ x QL
  have hlast:∀D:Wt Str,get (F'++[(x.1,D)]) x.1=some D:=fun D=>by rw[<-J7 LF (fun _=>D),x9]
  have Np:∀{y},y∈F0.drop (i+1)->y.1≠x.1:=fun{y} hy e=>by
   have h2:=gF.kf
   rw[<-O8 i F0,XA,n6,List.map_cons,AL,O4] at h2
   exact h2.2.1.1 (by rw[<-e];exact n8.mpr ⟨y,hy,rfl⟩)
  have i1:YU G H b o ob o2 da ra pa F0 F' x i 0 [some (.ref b),some (.ref o),some (kV (.inr x.1)),v3] (i8 M1 (da x.1) (.frz o2 (.dK (O0 (ra x.1) x.2)))):=by
   refine⟨_,rfl,da1,V3,pa1,[],t1.out hx2 (by show 2<3;decide),trivial,fun a u h hq=> ?_,⟨?_,hb2⟩,⟨c6,hx2⟩,fun y hy=> ?_⟩
   ·obtain⟨h1,h2⟩:=kp1 a u h hq
    have na:a≠da x.1:=fun e=>by have:=hq [x.1] (by rw[e];exact hxp);exact absurd this (by show ¬1<1;decide)
    exact⟨by rw[g9 na];exact h1,h2⟩
   ·have nb:b≠da x.1:=O6 t0.top.2 hxp (by intro z;cases z)
    rw[g9 nb]
    exact hb1
   ·obtain⟨h1,h2⟩:=hd1 y (by rw[XA];exact B1 _ hy)
    have hym:y∈F0:=Ef hy
    have ny:da y.1≠da x.1:=O6 (QQ y hym).2 hxp (by intro z;exact Np hy (DX z).1)
    exact⟨by rw[g9 ny];exact h1,h2⟩
  generalize i8 M1 (da x.1) (.frz o2 (.dK (O0 (ra x.1) x.2)))=M2 at i1⊢
  refine DM (YU G H b o ob o2 da ra pa F0 F' x i) i1 ?_ ?_ ?_
  ·rintro j σ L1 ⟨v3,rfl,da2,ra2,pa2,D',t2,sd,kp2,hb3,hx3,hd3⟩
   exact hx3.1
  ·rintro j k v0 σ L1 hk2 ⟨v3,rfl,da2,ra2,pa2,D',t2,sd,kp2,hb3,hx3,hd3⟩
   obtain⟨y,hy,rfl,rfl⟩:=YJ hk2
   have hym:y∈x.2:=E8 hy
   have VW:=(u4.mp hy).1
   have hyg:get x.2 y.1=some y.2:=S8 (gF.kw x QL).1 y hym
   have hyr:G5 F0 x.1 y.1=y.2:=by unfold G5;rw[hF1 x QL,V6,hyg];rfl
   obtain⟨⟨oo,hr1,xs,rfl,VU⟩,hrp⟩:=t0.row x.1 x.2 y.1 y.2 (hF1 x QL) hyg
   obtain⟨hrL,_⟩:=kp2 _ _ hr1 fun q hq=>by rw[hrp] at hq;cases hq;show 1<2;decide
   obtain⟨zs,ez1,ez2,ez3⟩:=HA VU
   have sh:i6 (CF G pa H) (CF G pa2 L1):=fun a u h=>by
    obtain⟨h1,h2,h3⟩:=Bo h
    obtain⟨h4,h5⟩:=kp2 a u h1 fun q hq=>by rw[h3] at hq;cases hq
    exact Ab h4 h2 h5
   have Pm:=hszF.2 y hym
   simpa only[↓AN,↓Es]
   refine⟨_, .inl ⟨_, .inr x.1, .inr ⟨ob,hb3.1⟩,rfl,by rw[B6,hF1 x QL];rfl⟩,_,rfl,_, .inl ⟨_, .inr y.1, .inr ⟨o2,hx3.1⟩,rfl,by rw[B6,hyg];rfl⟩,_,rfl,zs.map (fun z=>(z.1.1,z.2)),?_,?_,?_,?_,fun r qs hr' pq pw=> ?_⟩
   ·have e:(zs.map fun z=>(z.1.1,z.2)).map (fun x=>V.ref x.2)=xs:=by rw[ez2,N7];rfl
    rw[e]
    exact l7.of hrL
   ·intro z hz
    obtain⟨z0,hz0,rfl⟩:=n8.mp hz
    obtain⟨a',l',e1,ha',_⟩:=DN (ez3 z0 hz0)
    cases e1
    exact⟨_,(Bo (sh _ _ ha')).1⟩
   ·have e:(zs.map fun z=>(z.1.1,z.2)).map (·.1)=(G5 F0 x.1 y.1).map (·.1):=by rw[hyr,ez1,N7,N7];rfl
    rw[e]
    exact Xs x.1 y.1
   ·have e:=congrArg List.length ez1
    rw[i4] at e⊢
    omega
   ·obtain⟨zs',pz,rfl⟩:=Tl pq rfl
    have g1:=hlast D'
    obtain⟨hd4,hd5⟩:=t2.fld x.1 D' g1
    have hyn:get D' y.1=none:=by
     cases e:get D' y.1 with
     |none=>rfl
     |some v=>
      have h1:=Q2.mp (show (get D' y.1).isSome=true by rw[e];rfl)
      rw[sd.keys] at h1
      have h2:=(gF.kw x QL).1
      rw[<-O8 j x.2,n6,AL] at h2
      exact absurd rfl (h2.2.2 _ h1 _ (by rw[U2 VW,(u4.mp hy).2];exact A5))
    have hD'l:D'.length<=1000000:=by
     have h1:=congrArg List.length sd.keys
     rw[i4,i4,A4] at h1
     have:=hszF.1
     omega
    have sr:=c7 hr' (.lst ((zs'.map fun z=>(z.1.1,z.2)).map fun x=>V.ref x.2))
    refine⟨_, .inl ⟨_, .inr x.1, .inl (sr _ _ t2.top.1),rfl,by rw[B6,g1];rfl⟩,_,rfl,_,BG.k (k:= .inr y.1) (sr _ _ hd4) (by rw[Q4];omega),?_⟩
    rw[P2 _ (by rw[B6,hyn];rfl)]
    have eR:(zs'.map fun z=>(z.1.1,z.2)).map (fun x=>V.ref x.2)=zs'.map fun z=>V.ref z.2:=by rw[N7];rfl
    have t3:=t2.addW (p:=r) (r:=zs'.map (·.1)) (o:= .lst ((zs'.map fun z=>(z.1.1,z.2)).map fun x=>V.ref x.2)) Aw g1 hyn hr' ⟨_,rfl,by rw[eR];exact HD fun z hz=>k7.same sh _ _ (ez3 z (pz.mem_iff.mp hz))⟩
    have nd:da2 x.1≠r:=j4 hd4 hr'
    have f3:Fr G pa2 L1 (W6 pa2 r (some [x.1,y.1])) (i8 (i8 L1 r (.lst ((zs'.map fun z=>(z.1.1,z.2)).map fun x=>V.ref x.2))) (da2 x.1) (.dK (O0 (ra2 x.1) D'++[(.inr y.1, .ref r)]))):=(Fr.new hr' fun a ha=>(t2.own a ha).2).trans (Fr.own (q:=[x.1]) (by rw[B2 nd];exact hd5) (by show 1<3;decide))
    have eF:(KT.mod (F'++[(x.1,D')]) x.1 fun _=>D'++[(y.1,zs'.map (·.1))])=F'++[(x.1,D'++[(y.1,zs'.map (·.1))])]:=by rw[<-J7 LF (fun _=>D'),M7,J7 LF]
    rw[eF] at t3
    have far:∀{a u},L1 a=some u/\pa2 a=some BU->_/\_:=fun{a u} h=>by
     obtain⟨h1,h2⟩:=f3.far a _ h.2 (by show 2<3;decide)
     exact(⟨h1.trans h.1,h2⟩:_=some u/\_=some BU)
    refine⟨_,rfl,da2,_,_,_,t3,?_,kp2.fr t0.base f3 t3,far hb3,far hx3,fun z hz=>far (hd3 z hz)⟩
    rw[x6,hy]
    refine sd.snoc (y:=y) (y':=(y.1,zs'.map (·.1))) ⟨rfl,?_,?_⟩
    ·show (zs'.map (·.1)).Perm y.2
     rw[ez1]
     exact pz.map _
    ·rw[N7] at pw⊢
     exact pw
  ·rintro σ L1 ⟨v3,rfl,da2,ra2,pa2,D',t2,sd,kp2,hb3,hx3,hd3⟩
   rw[Q4,y8] at sd
   exact⟨_,_,rfl,da2,ra2,pa2,_,t2,by rw[x6,hx];exact sf.snoc (x:=x) (x':=(x.1,D')) ⟨rfl,sd⟩,kp2,hb3,hd3⟩
 ·rintro σ L ⟨v2,v3,rfl,AW,V3,G8,F',t,sf,kp,hb,hd⟩
  rw[Q4,y8] at sf
  simpa only[o9]
  exact q o AW V3 G8 F' L t sf fun a u h hq=>kp a u h fun q hq'=>by have:=hq q hq';omega
def KR(C:Addr):Sp:=fun vs H Q _=>∃(om B N:Addr) (G:Hp) (da:Str->Addr) (ra:Str->Str->Addr) (pa:Ay) (F:Fl) (T:LT) (ms:List Mk),vs=[.ref om, .ref B, .ref N]/\H om=some (.lst (ms.map fun m=> .int m.1))/\G om=none/\TAt Rp G H B da ra pa F/\FE F (J8 [] ms)/\H N=some (.dT T)/\G N=none/\(∀m f,LV T m f=LV (AD [] ms) m f)/\
 ∀x M H',W4 C M x ms->i6 M H'->(∀a,G a≠none->M a=none)->i6 G H'->Q (.ref x) H'
def ZV{C:Addr}{v0:Addr}{v1:Addr}{v2:Addr}{H:Hp}{Q:VK}{E:XK}:=show KR C [.ref v0, .ref v1, .ref v2] H Q E=_ by
 simpa only[KR]
 rfl
theorem Ys:FnScope ["makes","by_field","lengths","piece"] ["makes","by_field","lengths"] (i3 Qaj):=by ac_rfl
theorem QaO{C gi:Addr}{di:FuncData}(F:Fun K "piece_of_parts" "piece_of_parts" Qaj f fd)(T:Txt mg)(cl:Cls K C)(n1:N8 K C "own_makes")(n2:N8 K C "by_field")(n3:N8 K C "lengths")(mkP:L2.Mk K C gi)(mPc:mg "Piece"=some (.ref C))
  (GIn:FnOk P w K mg bs0 D7 6 gi di ["self","makes"] (AB C))(bIn:Binds K di ["self","makes"] []):FnOk P w K mg bs0 D7 8 f fd ["makes","by_field","lengths"] (KR C):=by
 refine F.ok Ys (fun vs H Q E h=> ?_) (fun E6 A outer s H vs Q E hr h=> ?_)
 ·obtain⟨om,B,N,G,da,ra,pa,F,T,ms,rfl,_⟩:=h
  rfl
 obtain⟨om,B,N,G,da,ra,pa,F,T0,ms,rfl,VV,gom,t,fe,hN,gN,le,q⟩:=h
 refine⟨_,(e7 (k8 (i:=3) Ys.nd rfl (Or.inl rfl) (IV mkP GIn hr rfl mPc bIn .nil k9 (c5 (u6 e6) e6)))
  (e7 (DF (pv 3) (pv 0) rfl)
  (e7 (DF (pv 3) (pv 1) rfl)
  (e7 (DF (pv 3) (pv 2) rfl)
  (h8 (q9 (pv 3))))))),?_⟩
 and_intros
 simpa only[↓II,AB,↓ME,↓Qan]
 refine⟨o8 _,fun r0 hr0 x dx0 hx0 LI Np=> ?_⟩
 have s0:=c7 hr0 (.lst [])
 refine⟨i8 H r0 (.lst []),((i6.refl _).newer LI _).newer hx0 _,hx0,dx0,c6,[],[],c6,c8.nil,⟨o8 _,fun m hm=>(by cases hm)⟩,trivial,fun M H1 AX sM dj s1=> ?_⟩
 obtain⟨dx,om',B',N',AW,V3,G8,F',T',hx,_⟩:=AX
 have hx1:=sM _ _ hx
 have sH:i6 H H1:=s0.trans s1
 have nx:H x=none:=s0.free hx0
 refine⟨C,dx,_,hx1,cl,n1,(by show 3<1000;decide),C,dx,_,c6,cl,n2,(by show 3<1000;decide),C,dx,_,c6,cl,n3,(by show 3<1000;decide),?_⟩
 rw[Iy,Iy]
 have s3:i6 H (i8 H1 x (.ins C dx (YE N B om))):=sH.newer nx _
 have gx:G x=none:=t.base.free nx
 have t3:=t.same Aw s3
 exact q x (nw G (i8 H1 x (.ins C dx (YE N B om)))) _ ⟨dx,om,B,N,da,ra,pa,F,T0,Z7 c6 gx,Z7 (s3 _ _ VV) gom,t3.away,Z7 (s3 _ _ hN) gN,fe,le⟩ Z6 (fun a ha=>IZ ha) (t.base.trans s3)
theorem Lp{w:Str}:∀{ws:List Str} {p:Pl Str} {i:Int},w∈(W9 p i ws).map (·.1)->w∈p.map (·.1)\/w∈ws
 |[],p,i,h=> .inl h
 |v::ws,p,i,h=>by
  rcases Lp (ws:=ws) h with h|h
  ·unfold R8 at h
   rw[X3] at h
   split at h
   ·exact .inl h
   ·rcases D8.mp h with h|h
    ·exact .inl h
    ·exact .inr (by rw[x8.mp h];exact A5)
  ·exact .inr (B1 _ h)
theorem cell_in{f w:Str}{m:Mk}(h:cell f w m≠[]):∃t,get m.2 f=some t/\w∈A6 t:=by
 unfold cell at h
 cases e:get m.2 f with
 |none=>rw[e] at h;exact absurd rfl h
 |some t=>
  rw[e] at h
  refine⟨t,rfl,?_⟩
  unfold Ia at h
  cases e2:get (W9 [] 0 (A6 t)) w with
  |none=>simp only[e2] at h;exact absurd rfl h
  |some ps=>
   rcases Lp (Q2.mp (show (get (W9 [] 0 (A6 t)) w).isSome=true by rw[e2];rfl)) with h|h
   ·cases h
   ·exact h
theorem MT{ms:List Mk}{f w:Str}(hm:mw (-1) ms)(h:u0 ms f w≠[]):∃m∈ms,∃t,get m.2 f=some t/\w∈A6 t:=by
 rw[CQ hm] at h
 obtain⟨m,h1,h2⟩:∃m∈ms,cell f w m≠[]:=G2 fun z=>h (JE.mpr fun m hm=>G2 fun e=>z ⟨m,hm,e⟩)
 obtain⟨t,h3,h4⟩:=cell_in h2
 exact⟨m,h1,t,h3,h4⟩
theorem P7{α β:Type}{g:α->List β}{k:Nat}:∀{l:List α},(∀a∈l,(g a).length<=k)->(l.flatMap g).length<=l.length*k
 |[],_=>o8 _
 |a::l,h=>by
  have h1:=P7 (l:=l) fun b hb=>h b (B1 _ hb)
  have h2:=h a A5
  rw[DS,y9,List.length_cons,Nat.succ_mul]
  omega
def Ml(l9:List (List Mk)):Prop:=l9.length<=10/\∀ms∈l9,Z8 ms/\mw (-1) ms
theorem szP{l9:List (List Mk)}{F:Fl}(g:Gd F)(ok:Ml l9)(h:∀f w,G5 F f w≠[]->∃ms∈l9,u0 ms f w≠[])(hr:∀f w,(G5 F f w).length<=200):Sz 200000 F:=by
 have b1:∀{k j:Nat} {l:Nat},l<=k*j->k<=10->j<=20000->l<=200000:=fun{k j l} h1 h2 h3=>E7 h1 (E7 (Nat.mul_le_mul h2 h3) (by decide))
 refine⟨?_,fun x hx=>⟨?_,fun y hy=> ?_⟩⟩
 ·have h1:(F.map (·.1)).length<=(l9.flatMap fun ms=>ms.flatMap fun m=>m.2.map (·.1)).length:=BP g.kf fun f hf=>by
   obtain⟨w,hw⟩:=g.fld.mp hf
   obtain⟨ms,h2,h3⟩:=h f w hw
   obtain⟨m,h4,t,h5,_⟩:=MT (ok.2 ms h2).2 h3
   exact Gn.mpr ⟨ms,h2,Gn.mpr ⟨m,h4,Q2.mp (by rw[h5];rfl)⟩⟩
  rw[i4] at h1
  have h2:=P7 (l:=l9) (k:=400) (g:=fun ms=>ms.flatMap fun m=>m.2.map (·.1)) fun ms Ds=>by
   have h3:=P7 (l:=ms) (k:=20) (g:=fun m=>m.2.map (·.1)) fun m hm=>by rw[i4];exact((ok.2 ms Ds).1.2 m hm).1
   have:=(ok.2 ms Ds).1.1
   omega
  exact b1 (E7 h1 h2) ok.1 (by decide)
 ·have e:=S8 g.kf x hx
  have h1:(x.2.map (·.1)).length<=(l9.flatMap fun ms=>ms.flatMap fun m=>A6 ((get m.2 x.1).getD "")).length:=BP (g.kw x hx).1 fun w hw=>by
   obtain⟨ms,h2,h3⟩:=h x.1 w (g.word.mp (by rw[e];exact hw))
   obtain⟨m,h4,t,h5,h6⟩:=MT (ok.2 ms h2).2 h3
   exact Gn.mpr ⟨ms,h2,Gn.mpr ⟨m,h4,by rw[h5];exact h6⟩⟩
  rw[i4] at h1
  have h2:=P7 (l:=l9) (k:=20000) (g:=fun ms=>ms.flatMap fun m=>A6 ((get m.2 x.1).getD "")) fun ms Ds=>by
   have h3:=P7 (l:=ms) (k:=1000) (g:=fun m=>A6 ((get m.2 x.1).getD "")) fun m hm=>by
    cases e2:get m.2 x.1 with
    |none=>rw[Ij,Dt];exact o8 _
    |some t=>exact T7 (((ok.2 ms Ds).1.2 m hm).2 _ (D6 e2)).2.1
   have:=(ok.2 ms Ds).1.1
   omega
  exact b1 (E7 h1 h2) ok.1 (l8 _)
 ·have e:=S8 g.kf x hx
  have e2:=S8 (g.kw x hx).1 y hy
  have:G5 F x.1 y.1=y.2:=by unfold G5;rw[e,V6,e2];rfl
  have h1:=hr x.1 y.1
  rw[this] at h1
  omega
theorem XD{ms:List Mk}(hf:Z8 ms)(hm:mw (-1) ms):(J8 [] ms).length<=400:=by
 have g:=Z1 (ms:=ms) Bq
 have h1:((J8 [] ms).map (·.1)).length<=(ms.flatMap fun m=>m.2.map (·.1)).length:=BP g.kf fun f hf'=>by
  obtain⟨w,hw⟩:=g.fld.mp hf'
  obtain⟨m,h4,t,h5,_⟩:=MT hm hw
  exact Gn.mpr ⟨m,h4,Q2.mp (by rw[h5];rfl)⟩
 rw[i4] at h1
 have h3:=P7 (l:=ms) (k:=20) (g:=fun m=>m.2.map (·.1)) fun m hm=>by rw[i4];exact(hf.2 m hm).1
 have:=hf.1
 omega
theorem Uv{ms:List Mk}{m:Mk}{f:Str}(hm:mw (-1) ms)(Xv:m∈ms)(h:f∉(J8 [] ms).map (·.1)):EM m.2 f=0:=by
 unfold EM
 cases e:get m.2 f with
 |none=>rw[Ij,Dt];rfl
 |some t=>
  rw[V6]
  cases hw:A6 t with
  |nil=>rfl
  |cons w ws=>
   refine absurd ((Z1 (ms:=ms) Bq).fld.mpr ⟨w,fun z=> ?_⟩) h
   have h1:u0 ms f w=[]:=z
   rw[CQ hm,JE] at h1
   have h2:=h1 m Xv
   unfold cell at h2
   rw[e] at h2
   simp only at h2
   unfold Ia at h2
   rw[hw] at h2
   have h3:(get (W9 [] 0 (w::ws)) w).isSome=true:=by
    have key:∀(ws:List Str) (p:Pl Str) (i:Int),(get p w).isSome=true->(get (W9 p i ws) w).isSome=true:=by
     intro ws
     induction ws with
     |nil=>intro p i h;exact h
     |cons v ws ih=>
      intro p i h
      refine ih _ _ ?_
      unfold R8
      by_cases e:w=v
      ·rw[e,x9];rfl
      ·rw[D5 _ _ e];exact h
    exact key ws _ _ (by unfold R8;rw[x9];rfl)
   cases e3:get (W9 [] 0 (w::ws)) w with
   |none=>rw[e3] at h3;cases h3
   |some ps=>rw[e3] at h2;cases h2
theorem LC{ks:List Int}{f w:Str}:∀{ms:List Mk},Bn ks (ms.flatMap (cell f w))=(ms.filter fun m=>decide (m.1∈ks)).flatMap (cell f w)
 |[]=>rfl
 |m::ms=>by
  have ih:=LC (ks:=ks) (f:=f) (w:=w) (ms:=ms)
  unfold Bn at ih⊢
  rw[DS,DQ,ih]
  by_cases e:m.1∈ks
  ·rw[JH (by simp [e]),DS]
   congr 1
   exact Va.mpr fun q hq=>by rw[PD hq];simp [e]
  ·rw[JF (by simp [e])]
   rw[UZ.mpr fun q hq=>by rw[PD hq];simp [e]]
   rfl
theorem Ul{ks:List Int}{f w:Str}{left:List Mk}{l9:List (List Mk)}(ok:Ml l9)(hl:mw (-1) left)(hp:(l9.flatten.filter fun m=>decide (m.1∈ks)).Perm left):(l9.flatMap fun ms=>Bn ks (u0 ms f w)).Perm (u0 left f w):=by
 have e:∀{l:List (List Mk)},(∀ms∈l,mw (-1) ms)->(l.flatMap fun ms=>Bn ks (u0 ms f w))=(l.flatten.filter fun m=>decide (m.1∈ks)).flatMap (cell f w):=by
  intro l
  induction l with
  |nil=>intro _;rfl
  |cons ms l ih=>
   intro h
   rw[DS,ih fun x hx=>h x (B1 _ hx),Al,DQ,UY,CQ (h ms A5),LC]
 rw[e fun ms Ds=>(ok.2 ms Ds).2,CQ hl]
 exact hp.flatMap_right _
theorem TD:∀{ms:List Mk} {p:Int},mw p ms->(ms.map (·.1)).Pairwise (· < ·)
 |[],_,_=>List.Pairwise.nil
 |m::ms,p,h=>by
  rw[List.map_cons,Cw]
  refine⟨fun k hk=> ?_,TD h.2.2⟩
  obtain⟨x,hx,rfl⟩:=n8.mp hk
  exact(P6 h.2.2).1 x hx
theorem Qau{ms:List Mk}(hm:mw (-1) ms)(fl wd:Str):((u0 ms fl wd).map (·.1)).Pairwise (· < ·):=by
 unfold u0 Z0
 cases e:get (J8 [] ms) fl with
 |none=>exact List.Pairwise.nil
 |some D=>
  rw[V6]
  cases e2:get D wd with
  |none=>exact List.Pairwise.nil
  |some r=>
   obtain⟨M,hM⟩:=Fn (F:=[]) hm fun y hy=>(by cases hy)
   exact(hM _ (D6 e) _ (D6 e2)).1
def AY(C:Addr)(H:Hp)(xs:List V)(l9:List (List Mk)):Prop:=xs.length=l9.length/\∀(i:Nat) (x:V),xs[i]? =some x->∃p ms,x= .ref p/\l9[i]? =some ms/\W4 C H p ms
theorem AY.same{C:Addr}{H L:Hp}{xs:List V}{l9:List (List Mk)}(h:AY C H xs l9)(s:i6 H L):AY C L xs l9:=⟨h.1,fun i x hx=>by
 obtain⟨p,ms,e,h1,h2⟩:=h.2 i x hx
 exact⟨p,ms,e,h1,h2.same s⟩⟩
structure Lft(l9:List (List Mk))(ks:List Int)(left:List Mk):Prop where
 nd:(l9.flatten.map (·.1)).Nodup
 up:mw (-1) left
 pm:(l9.flatten.filter fun m=>decide (m.1∈ks)).Perm left
def Lb(C:Addr):Sp:=fun vs H Q _=>∃(a k:Addr) (xs:List V) (l9:List (List Mk)) (ks:List Int) (left:List Mk),vs=[.ref a, .ref k]/\H a=some (.lst xs)/\AY C H xs l9/\Ml l9/\H k=some (.dK (VS ks))/\ks.length<64/\Lft l9 ks left/\ks.Perm (left.map (·.1))/\
 ∀x M H',W4 C M x left->i6 M H'->(∀a,H a≠none->M a=none)->i6 H H'->Q (.ref x) H'
def ZZ{C:Addr}{v0:Addr}{v1:Addr}{H:Hp}{Q:VK}{E:XK}:=show Lb C [.ref v0, .ref v1] H Q E=_ by
 simpa only[Lb]
 rfl
def GS(H:Hp)(B N:Addr)(l9:List (List Mk))(ks:List Int)(R:Str->Str->Rw)(cov:Mk->Str->Prop)(n:Nat)(X:Addr->HO->Prop)(L:Hp):Prop:=∃da ra pa F T,TAt Rp H L B da ra pa F/\pa N=some BU/\L N=some (.dT T)/\T.length<=n/\Gd F/\(∀f w,G5 F f w=R f w)/\(∀a u,X a u->L a=some u/\pa a=none/\H a=none)/\
 (∀m f,LV T m f= .int 0\/∃x∈l9.flatten,x.1=m/\m∈ks/\LV T m f= .int (EM x.2 f))/\∀x f,cov x f->x.1∈ks->LV T x.1 f= .int (EM x.2 f)
theorem Jc{ms:List Mk}(nd:(ms.map (·.1)).Nodup){x y:Mk}(hx:x∈ms)(hy:y∈ms)(e:x.1=y.1):x=y:=by
 have h1:=S8 nd x hx
 rw[e,S8 nd y hy] at h1
 exact Ej e (R7 h1).symm
theorem Lh:FnScope ["pieces","kept","by_field","lengths","piece","field"] ["pieces","kept"] (i3 Qam):=by ac_rfl
def Qbi(l9:List (List Mk))(i:Nat)(x:Mk)(f:Str):Prop:=∃ms∈l9.take i,x∈ms/\f∈(J8 [] ms).map (·.1)
def YV(H:Hp)(a k B N:Addr)(l9:List (List Mk))(ks:List Int)(i:Nat)(σ:St)(L:Hp):Prop:=∃v4 v5:Option V,σ=[some (.ref a),some (.ref k),some (.ref B),some (.ref N),v4,v5]/\GS H B N l9 ks (fun f w=>(l9.take i).flatMap fun ms=>Bn ks (u0 ms f w)) (Qbi l9 i) (8000*i) (fun _ _=>False) L
def Qck(H:Hp)(a k B N x r:Addr)(l9:List (List Mk))(ks:List Int)(ms:List Mk)(ys:List Str)(i j:Nat)(σ:St)(L:Hp):Prop:=∃v5:Option V,σ=[some (.ref a),some (.ref k),some (.ref B),some (.ref N),some (.ref x),v5]/\GS H B N l9 ks (fun f w=>((l9.take i).flatMap fun ms=>Bn ks (u0 ms f w))++if f∈ys.take j then Bn ks (u0 ms f w) else []) (fun y f=>Qbi l9 i y f\/(y∈ms/\f∈ys.take j)) (8000*i+20*j) (fun a u=>a=r/\u= .lst (ys.map V.str)) L
theorem QaT{C gf ga gl go gp:Addr}{df AW dl do' dp:FuncData}(F:Fun K "gathered" "gathered" Qam f fd)(T:Txt mg)(cl:Cls K C)
  (mPF:Meth K C "fields" gf)(GPF:FnOk P w K mg bs0 D7 1 gf df ["self"] (IG C))(bPF:Binds K df ["self"] [])
  (GAp:FnOk P w K mg bs0 D7 2 ga AW ["by_field","piece","field","kept"] (Ld C))(bAp:Binds K AW ["by_field","piece","field","kept"] [])(kAp:PySem.W.keepIn K (.ref ga)=true)(mAp:mg "add_field_postings"=some (.ref ga))
  (GAl:FnOk P w K mg bs0 D7 2 gl dl ["lengths","piece","field","kept"] (Le C))(bAl:Binds K dl ["lengths","piece","field","kept"] [])(kAl:PySem.W.keepIn K (.ref gl)=true)(mAl:mg "add_field_lengths"=some (.ref gl))
  (GIo:FnOk P w K mg bs0 D7 1 go do' ["by_field"] La)(bIo:Binds K do' ["by_field"] [])(kIo:PySem.W.keepIn K (.ref go)=true)(mIo:mg "in_order"=some (.ref go))
  (GPo:FnOk P w K mg bs0 D7 8 gp dp ["makes","by_field","lengths"] (KR C))(bPo:Binds K dp ["makes","by_field","lengths"] [])(kPo:PySem.W.keepIn K (.ref gp)=true)(mPo:mg "piece_of_parts"=some (.ref gp)):FnOk P w K mg bs0 D7 9 f fd ["pieces","kept"] (Lb C):=by
 refine F.ok Lh (fun vs H Q E h=> ?_) (fun E6 A outer s H vs Q E hr h=> ?_)
 ·obtain⟨a,k,xs,l9,ks,left,rfl,_⟩:=h
  rfl
 obtain⟨a,k,xs,l9,ks,left,rfl,ha,FM,ok,hk,hk64,lf,kl,q⟩:=h
 have hr1:Room 1 _:=hr.mono (by decide)
 have hr2:Room 2 _:=hr.mono (by decide)
 have szl:=B9
 refine⟨_,(e7 (k8 (i:=2) Lh.nd rfl (Or.inl rfl) C5)
  (e7 (k8 (i:=3) Lh.nd rfl (Or.inl rfl) Lq)
  (e7 (y7 B3 rfl (l6 K (i9 0)) (i5 (i:=4) Lh.nd rfl (Or.inl rfl))
   (h8 (y7 B3 rfl (l6 K (U7 (i9 4) cl mPF GPF hr1 bPF .nil k9)) (i5 (i:=5) Lh.nd rfl (Or.inl rfl))
   (e7 (D4 (j7 GAp hr2 rfl mAp kAp bAp .nil k9 (c5 (i9 2) (c5 (i9 4) (c5 (i9 5) (c5 (i9 1) e6))))))
  (h8 (D4 (j7 GAl hr2 rfl mAl kAl bAl .nil k9 (c5 (i9 3) (c5 (i9 4) (c5 (i9 5) (c5 (i9 1) e6)))))))))))
  (h8 (q9 (j7 GPo hr rfl mPo kPo bPo .nil k9 (c5 (n9 (Hf) rfl T.sorted (by decide+kernel) (c5 (LZ K Bz Vs PySem.F.type_dict_values Xc (i9 1)) e6)) (c5 (j7 GIo hr1 rfl mIo kIo bIo .nil k9 (c5 (i9 2) e6)) (c5 (i9 3) e6))))))))),?_⟩
 and_intros
 simpa only[↓K9,↓MF]
 intro B hB N hN
 have hNH:H N=none:=(c7 hB _).free hN
 have nBN:B≠N:=fun e=>by rw[<-e,c6] at hN;cases hN
 have nrow:∀i f w,((l9.take i).flatMap fun ms=>Bn ks (u0 ms f w)).length<=180+20/\∀{ms:List Mk},ms∈l9->(Bn ks (u0 ms f w)).length<=20:=fun i f w=>by
  have h1:∀{ms:List Mk},ms∈l9->(Bn ks (u0 ms f w)).length<=20:=fun{ms} h=>E7 (DR _ _) (IM (ok.2 ms h).1 (ok.2 ms h).2 f w).few
  have h2:=P7 (l:=l9.take i) (k:=20) (g:=fun ms=>Bn ks (u0 ms f w)) fun ms h=>h1 (Y1 h)
  have h3:=ok.1
  rw[A4] at h2
  exact⟨E7 h2 (E7 (NO 20 (E7 (UM _ _) h3)) (by decide)),h1⟩
 have i0:YV H a k B N l9 ks 0 [some (.ref a),some (.ref k),some (.ref B),some (.ref N),none,none] (i8 (i8 H B (.dK [])) N (.dT [])):=by
  have z1:(i8 (i8 H B (.dK [])) N (.dT [])) B=some (.dK []):=by rw[g9 nBN];exact c6
  refine⟨_,_,rfl,fun _=>0,fun _ _=>0,W6 (W6 (fun _=>none) B (some [])) N (some BU),[],[],⟨((i6.refl H).newer hB _).newer hNH _,fun c hc=> ?_,⟨z1,by rw[B2 nBN,E4]⟩,fun f D h=>(by cases h),fun f D w r h=>(by cases h)⟩,E4,c6,o8 _,Bq,fun f w=>rfl,fun a u h=>h.elim,fun m f=> .inl rfl,fun x f h=> ?_⟩
  ·by_cases e1:c=N
   ·exact⟨by rw[e1];exact hNH,by rw[e1,c6];intro z;cases z⟩
   ·rw[B2 e1] at hc
    by_cases e2:c=B
    ·exact⟨by rw[e2];exact hB,by rw[e2,z1];intro z;cases z⟩
    ·rw[B2 e2] at hc;exact absurd rfl hc
  ·obtain⟨ms,h1,_⟩:=h
   cases h1
 have s0:i6 H (i8 (i8 H B (.dK [])) N (.dT [])):=((i6.refl H).newer hB _).newer hNH _
 generalize i8 (i8 H B (.dK [])) N (.dT [])=L0 at i0 s0⊢
 refine⟨⟨_,l7.of (s0 _ _ ha)⟩,w4 xs (YV H a k B N l9 ks) i0 ?_ ?_ ?_⟩
 ·rintro i σ L hi ⟨v4,v5,rfl,da,ra,pa,F,T,t,_⟩
  exact l7.of (t.base _ _ ha)
 ·rintro i y σ L hy ⟨v4,v5,rfl,da,ra,pa,F,T,t,pN,hNv,hTl,g,X5,_,snd,cmp⟩
  obtain⟨x,ms,rfl,Ds,AX⟩:=FM.2 i y hy
  have EK:ms∈l9:=E8 Ds
  have Ac:=(ok.2 ms EK).1
  have V0:=(ok.2 ms EK).2
  have EB:i<l9.length:=(u4.mp Ds).1
  have hi10:=ok.1
  have hff:=XD Ac V0
  obtain⟨dx,fs,hx,TM,lk2,lk3,lk4,lk5⟩:=AX.ins
  simpa only[↓Sw,IG,↓O5]
  refine⟨dx,fs,t.base _ _ hx,TM,ms,AX.same t.base,by omega,fun r ys L1 s1 hr1' p1 o1 hv1=> ?_⟩
  have Pm:ys.length<=400:=by have:=p1.length_eq;rw[i4] at this;omega
  have hpr:pa r=none:=G2 fun e=>(t.own r e).2 hr1'
  have ndy:ys.Nodup:=p1.nodup_iff.mpr (Z1 (ms:=ms) Bq).kf
  refine⟨⟨_,l7.of hv1⟩,w4 (ys.map V.str) (Qck H a k B N x r l9 ks ms ys i) ⟨_,rfl,da,ra,pa,F,T,t.same Aw s1,pN,s1 _ _ hNv,hTl,g,fun f w=>by rw[X5];simp,fun c u h=>by rw[h.1,h.2];exact⟨hv1,hpr,t.base.free hr1'⟩,snd,fun y f h=>h.elim (cmp y f) fun h=>(by simp at h)⟩ ?_ ?_ ?_⟩
  ·rintro j σ L2' hj ⟨v5,rfl,da,ra,pa,F,T,t,pN,hNv,hTl,g,X5,hX,snd,cmp⟩
   exact l7.of (hX r _ ⟨rfl,rfl⟩).1
  ·rintro j y σ L3 hy ⟨v5,rfl,da,ra,pa,F,T,t,pN,hNv,hTl,g,X5,hX,snd,cmp⟩
   rw[u8] at hy
   obtain⟨fl,CG,rfl⟩:=o7.mp hy
   have VW:=(u4.mp CG).1
   have hsz:=szP g ok (fun f w h=>by
    rw[X5] at h
    dsimp only at h
    have:(∃ms∈l9.take i,Bn ks (u0 ms f w)≠[])\/Bn ks (u0 ms f w)≠[]:=G2 fun z=>h (by
     have z1:Bn ks (u0 ms f w)=[]:=G2 fun e=>z (.inr e)
     have z2:((l9.take i).flatMap fun ms=>Bn ks (u0 ms f w))=[]:=JE.mpr fun ms' h'=>G2 fun e=>z (.inl ⟨ms',h',e⟩)
     show ((l9.take i).flatMap fun ms=>Bn ks (u0 ms f w))++(if f∈ys.take j then Bn ks (u0 ms f w) else [])=[]
     rw[z1,z2]
     simp)
    rcases this with ⟨ms',h1,h2⟩|h2
    ·exact⟨ms',Y1 h1,fun e=>h2 (by rw[e];rfl)⟩
    ·exact⟨ms,EK,fun e=>h2 (by rw[e];rfl)⟩) fun f w=>by
     rw[X5]
     dsimp only
     rw[y9]
     have h1:=P7 (l:=l9.take i) (k:=20) (g:=fun ms=>Bn ks (u0 ms f w)) fun ms h=>(nrow i f w).2 (Y1 h)
     rw[A4,Eg (by omega)] at h1
     have h2:(if f∈ys.take j then Bn ks (u0 ms f w) else []).length<=20:=by
      split
      ·exact(nrow i f w).2 EK
      ·exact o8 _
     have h3:i*20<=9*20:=NO 20 (by omega)
     omega
   simpa only[↓Qab,Ld,↓Qac,Le]
   refine⟨H,da,ra,pa,F,t,ms,AX,Ac,V0,ks,hk,g,200000,hsz,by decide,fun da2 ra2 pa2 F2 L4 t2 fr g2 hrow2=> ?_⟩
   obtain⟨hN4,pN4⟩:=fr.far N _ pN (by show 2<3;decide)
   rw[hNv] at hN4
   refine⟨H,t2.base,hNH,T,hN4,by omega,ms,AX,Ac.1,ks,hk,fun T2 L5 s5 hN5 hTl5 hLV=> ?_⟩
   have hni:fl∉ys.take j:=fun hm=>by
    obtain⟨l,hl⟩:=BA.mp hm
    rw[Y3] at hl
    split at hl
    ·rename_i hlj
     exact Ee.mp ndy l j (by omega) VW hlj (by rw[(u4.mp hl).2,(u4.mp CG).2])
    ·cases hl
   have etk:ys.take (j+1)=ys.take j++[fl]:=by rw[x6,CG];rfl
   have hflat:∀{z:Mk},z∈ms->z∈l9.flatten:=fun hz=>Cq.mpr ⟨ms,EK,hz⟩
   have G1:∀{z:Mk} {f:Str},z∈ms->LV (AD [] ms) z.1 f= .int (EM z.2 f):=fun{z f} hz=>by
    obtain⟨l,hl⟩:=BA.mp hz
    exact EW (T:=[]) (P6 V0).2 (U8 (Lw V0 hl).2.1).2 hz rfl
   refine⟨_,rfl,da2,ra2,pa2,F2,T2,t2.but Aw pN4 (by show 2<3;decide) hN4 s5 hN5,pN4,hN5,by omega,g2,fun f w=> ?_,fun c u h=> ?_,fun m f=> ?_,fun z f h hzk=> ?_⟩
   ·rw[hrow2,X5,etk]
    dsimp only
    by_cases e:f=fl
    ·subst e
     simp [hni]
    ·simp [e]
   ·obtain⟨h1,h2,h3⟩:=hX c u h
    obtain⟨h4,h5⟩:=fr.at_ h1 h3 h2
    exact⟨s5 c u (fun e=>by rw[e,pN4] at h5;cases h5) h4,h5,h3⟩
   ·rw[hLV]
    by_cases c:f=fl/\m∈ms.map (·.1)/\m∈ks
    ·rw[if_pos c]
     obtain⟨z,hz,rfl⟩:=n8.mp c.2.1
     exact .inr ⟨z,hflat hz,rfl,c.2.2,G1 hz⟩
    ·rw[if_neg c]
     exact snd m f
   ·rw[hLV]
    by_cases c:f=fl/\z.1∈ms.map (·.1)/\z.1∈ks
    ·rw[if_pos c]
     obtain⟨z',hz',e⟩:=n8.mp c.2.1
     have hzf:z∈l9.flatten:=by
      rcases h with ⟨ms',h1,h2,_⟩|h
      ·exact Cq.mpr ⟨ms',Y1 h1,h2⟩
      ·exact hflat h.1
     have:=Jc lf.nd (hflat hz') hzf e
     subst this
     exact G1 hz'
    ·rw[if_neg c]
     refine cmp z f ?_ hzk
     rcases h with h|⟨h1,h2⟩
     ·exact .inl h
     ·rw[etk] at h2
      rcases D8.mp h2 with h2|h2
      ·exact .inr ⟨h1,h2⟩
      ·exact absurd ⟨x8.mp h2,n8.mpr ⟨z,h1,rfl⟩,hzk⟩ c
  ·rintro σ L3 ⟨v5,rfl,da,ra,pa,F,T,t,pN,hNv,hTl,g,X5,hX,snd,cmp⟩
   rw[i4,y8] at X5 cmp
   refine⟨_,_,rfl,da,ra,pa,F,T,t,pN,hNv,by rw[i4] at hTl;omega,g,fun f w=> ?_,fun a u h=>h.elim,snd,fun y f h=>cmp y f ?_⟩
   ·rw[X5]
    dsimp only
    rw[x6,Ds,Cr,UY]
    congr 1
    rw[DS,List.flatMap_nil,List.append_nil]
    split
    ·rfl
    ·rename_i hn
     have:u0 ms f w=[]:=G2 fun z=>hn (p1.mem_iff.mpr ((Z1 (ms:=ms) Bq).fld.mpr ⟨w,z⟩))
     rw[this]
     rfl
   ·obtain⟨ms',h1,h2,h3⟩:=h
    rw[x6,Ds,Cr] at h1
    rcases D8.mp h1 with h1|h1
    ·exact .inl ⟨ms',h1,h2,h3⟩
    ·rw[x8.mp h1] at h2 h3
     exact .inr ⟨h2,p1.mem_iff.mpr h3⟩
 ·rintro σ L ⟨v4,v5,rfl,da,ra,pa,F,T,t,pN,hNv,hTl,g,X5,_,snd,cmp⟩
  simpa only[↓ZV,KR,↓ZY,La,↓Yv]
  rw[FM.1,y8] at X5
  have hcov:∀{ms:List Mk} {z:Mk} {f:Str},ms∈l9->z∈ms->f∈(J8 [] ms).map (·.1)->Qbi l9 xs.length z f:=fun{ms z f} h1 h2 h3=>⟨ms,by rw[FM.1,y8];exact h1,h2,h3⟩
  have hkL:=t.base _ _ hk
  have hpm:∀f w,(G5 F f w).Perm (u0 left f w):=fun f w=>by rw[X5];exact Ul ok lf.up lf.pm
  have hup:=Qau lf.up
  have hndl:∀f w,((u0 left f w).map (·.1)).Nodup:=fun f w=>(hup f w).imp fun h=>Int.ne_of_lt h
  refine⟨Hr hkL,_,hkL,fun vw hvw=>⟨k,c6,_,c7 hvw _ _ _ hkL,ks,(by unfold VS;rw[N7];rfl),hk64,fun om ns' VV pk pw=> ?_⟩⟩
  have en:ns'=left.map (·.1):=JQ (le:=(· <= ·)) (fun a b _ _ h h'=>JP h h') pw ((TD lf.up).imp fun h=>Gq h) (pk.trans kl)
  subst en
  have s5:=c7 hvw (VVo vw k)
  have s6:=s5.trans (c7 VV (.lst ((left.map (·.1)).map V.int)))
  have homL:L om=none:=s5.free VV
  have pom:pa om=none:=G2 fun e=>(t.own om e).2 homL
  have hov:(i8 (i8 L vw (VVo vw k)) om (.lst ((left.map (·.1)).map V.int))) om=_:=c6
  generalize i8 (i8 L vw (VVo vw k)) om (.lst ((left.map (·.1)).map V.int))=M6 at s6 hov⊢
  refine⟨H,da,ra,pa,F,t.same Aw s6,g,fun f w=>((hpm f w).map _).nodup_iff.mpr (hndl f w),200000,szP g ok (fun f w h=> ?_) (fun f w=> ?_),by decide,fun o AW V3 G8 F' L' t' sf keep=> ?_⟩
  ·rw[X5] at h
   refine G2 fun z=>h (JE.mpr fun ms Ds=> ?_)
   have:u0 ms f w=[]:=G2 fun e=>z ⟨ms,Ds,e⟩
   rw[this]
   rfl
  ·rw[X5]
   have:=(nrow l9.length f w).1
   rw[y8] at this
   exact this
  ·obtain⟨ho1,_⟩:=keep om _ hov fun q hq=>by rw[pom] at hq;cases hq
   obtain⟨hn1,_⟩:=keep N _ (s6 _ _ hNv) fun q hq=>by rw[pN] at hq;cases hq;show 2<3;decide
   refine⟨H,AW,V3,G8,F',T,left,by rw[ho1,N7];rfl,t.base.free homL,t',Qcz (sf.gd g) (Z1 Bq) fun f w=> ?_,hn1,hNH,fun m f=> ?_,q⟩
   ·obtain⟨h1,h2⟩:=sf.row (f:=f) (w:=w)
    have h3:=h1.trans (hpm f w)
    refine JQ (le:=fun a b=>a.1<=b.1) (fun a b ha hb e1 e2=> ?_) (Gm.mp h2) ((Gm.mp (hup f w)).imp fun h=>Gq h) h3
    have e:=JP e1 e2
    have i1:=S8 (hndl f w) a (h3.mem_iff.mp ha)
    rw[e,S8 (hndl f w) b hb] at i1
    exact Ej e (R7 i1).symm
   ·by_cases hm:m∈left.map (·.1)
    ·obtain⟨z,hz,rfl⟩:=n8.mp hm
     obtain⟨l,hl⟩:=BA.mp hz
     rw[EW (T:=[]) (P6 lf.up).2 (U8 (Lw lf.up hl).2.1).2 hz rfl]
     obtain⟨hzf,hzk⟩:=V9.mp (lf.pm.mem_iff.mpr hz)
     have hzk':z.1∈ks:=A2 hzk
     obtain⟨ms,h1,h2⟩:=Cq.mp hzf
     by_cases hf:f∈(J8 [] ms).map (·.1)
     ·exact cmp z f (hcov h1 h2 hf) hzk'
     ·have h0:=Uv (ok.2 ms h1).2 h2 hf
      rcases snd z.1 f with h|⟨y,hy,e,_,h⟩
      ·rw[h,h0];rfl
      ·rw[h,Jc lf.nd hy hzf e]
    ·rw[Je hm]
     rcases snd m f with h|⟨y,hy,e,hk',h⟩
     ·exact h
     ·exact absurd (n8.mpr ⟨y,lf.pm.mem_iff.mp (V9.mpr ⟨hy,B7 (by rw[e];exact hk')⟩),e⟩) hm
def VO(C:Addr)(n:Int)(H:Hp)(E:XK):Prop:=∀e dx H',i6 H H'->H e=none->H' e=some (XO e (.ref C) (some dx))->H' dx=some (.xd [("place", .int n)])->E (.ref e) none H'
def K5(seen:List Int):List Int->List Int
 |[]=>[]
 |m::l=>(if m∈seen then [m] else [])++K5 (seen++[m]) l
theorem HV{m:Int}:∀{l seen:List Int},K5 seen (l++[m])=K5 seen l++if m∈seen++l then [m] else []
 |[],seen=>by simp [K5]
 |x::l,seen=>by
  rw[List.cons_append,K5,K5,HV,C9,C9]
  rfl
theorem LM:∀{l seen:List Int},(K5 seen l).length<=l.length
 |[],_=>l8 _
 |x::l,seen=>by
  have:=LM (l:=l) (seen:=seen++[x])
  rw[K5,y9,List.length_cons]
  split<;>simp<;>omega
theorem FW:∀{l seen:List Int},l.Nodup->(∀m∈l,m∉seen)->K5 seen l=[]
 |[],_,_,_=>rfl
 |x::l,seen,nd,h=>by
  rw[O4] at nd
  rw[K5,if_neg (h x A5),FW nd.2 fun m hm hs=> ?_]
  ·rfl
  ·rcases D8.mp hs with hs|hs
   ·exact h m (B1 _ hm) hs
   ·rw[x8.mp hs] at hm;exact nd.1 hm
theorem QJ{b:Bool}{p q:Prop}(h:b=true)(x:p):if b=true then p else q:=by rw[if_pos h];exact x
theorem AG{b:Bool}{p q:Prop}(h:b=false)(x:q):if b=true then p else q:=by rw[if_neg (by rw[h];decide)];exact x
def Ss(C NM:Addr):Sp:=fun vs H Q E=>∃(a:Addr) (xs:List V) (l9:List (List Mk)),vs=[.ref a]/\H a=some (.lst xs)/\AY C H xs l9/\l9.length<=20/\(∀ms∈l9,ms.length<=20)/\
 (K5 [] (l9.flatten.map (·.1))=[]->∀H',i6 H H'->Q .non H')/\∀n,n∈K5 [] (l9.flatten.map (·.1))->(∀m∈K5 [] (l9.flatten.map (·.1)),n<=m)->VO NM n H E
def Qby{C NM:Addr}{v0:Addr}{H:Hp}{Q:VK}{E:XK}:=show Ss C NM [.ref v0] H Q E=_ by
 simpa only[Ss]
 rfl
theorem SN:FnScope ["pieces","seen","shared","piece","make"] ["pieces"] (i3 sSh):=by ac_rfl
def SeS(H:Hp)(se sh:Addr)(pr:List Int)(L:Hp):Prop:=i6 H L/\(∃kvs,L se=some (.dK kvs)/\kvs.length<=pr.length/\∀m,(A9 kvs (.inl m)).isSome=decide (m∈pr))/\L sh=some (.lst ((K5 [] pr).map V.int))
def Qb9(H:Hp)(a se sh:Addr)(l9:List (List Mk))(i:Nat)(σ:St)(L:Hp):Prop:=∃v3 v4:Option V,σ=[some (.ref a),some (.ref se),some (.ref sh),v3,v4]/\SeS H se sh ((l9.take i).flatten.map (·.1)) L
def YQ(H:Hp)(a se sh x r:Addr)(l9:List (List Mk))(ms:List Mk)(i j:Nat)(σ:St)(L:Hp):Prop:=∃v4:Option V,σ=[some (.ref a),some (.ref se),some (.ref sh),some (.ref x),v4]/\SeS H se sh ((l9.take i).flatten.map (·.1)++(ms.take j).map (·.1)) L/\L r=some (.lst (ms.map fun m=> .int m.1))/\H r=none/\r≠se/\r≠sh
theorem QbP{C NM FE fI gm:Addr}{dI dm:FuncData}(F:Fun K "look_at_shared_makes" "look_at_shared_makes" sSh f fd)(T:Txt mg)(cl:Cls K C)
  (mPM:Meth K C "makes" gm)(GPM:FnOk P w K mg bs0 D7 1 gm dm ["self"] (Dx C))(bPM:Binds K dm ["self"] [])
  (xcM:XCls K NM FE)(hiM:PySem.W.findIn K (.ref NM) "__init__"=some (some (.ref fI)))(hfM:PySem.W.isFn K (.ref fI)=true)(hkM:PySem.W.keepIn K (.ref NM)=true)(hnM:PySem.W.findIn K (.ref NM) "place"=some none)
  (GXM:FnOk P w K mg bs0 D7 1 fI dI ["self","place"] (ER K "place"))(bXM:Binds K dI ["self","place"] [])(mNM:mg "NoMake"=some (.ref NM)):FnOk P w K mg bs0 (Kt P w) 3 f fd ["pieces"] (Ss C NM):=by
 refine F.okX SN (fun vs H Q E h=> ?_) (fun E6 A outer s H vs Q E hr h=> ?_)
 ·obtain⟨a,xs,l9,rfl,_⟩:=h
  rfl
 obtain⟨a,xs,l9,rfl,ha,FM,hml,hms20,q,qe⟩:=h
 have hr1:Room 1 _:=hr.mono (by decide)
 have hr2:Room 2 _:=hr
 have szl:=B9
 refine⟨_,(e7 (k8 (i:=1) SN.nd rfl (Or.inl rfl) C5)
  (e7 (k8 (i:=2) SN.nd rfl (Or.inl rfl) (u6 e6))
  (e7 (y7 Gk rfl (l6 K (i9 0)) (i5 (i:=3) SN.nd rfl (Or.inl rfl))
   (h8 (y7 Gk rfl (l6 K (U7 (i9 3) cl mPM GPM hr1 bPM .nil k9)) (i5 (i:=4) SN.nd rfl (Or.inl rfl))
   (e7 (G9 (IP (MW (E3 hr) (i9 4) (i9 1))) (h8 (D4 (Ms K T4 V5 V4 G4 (i9 2) (c5 (i9 4) e6)))) A3)
  (h8 (U4 (E3 hr) (i9 1) (i9 4) S7 rfl))))))
  (h8 (G9 (FC (i9 2) (fun _=>rfl)) (h8 (Qn xcM hiM hfM hkM hnM GXM hr2 bXM rfl mNM (c5 (n9 (Rn K) rfl T.min Vk (c5 (i9 2) e6)) e6))) A3))))),?_⟩
 and_intros
 simpa only[↓K9]
 intro se Zh
 refine⟨o8 _,fun sh hsh=> ?_⟩
 have nss:se≠sh:=fun e=>by rw[<-e,c6] at hsh;cases hsh
 have hshH:H sh=none:=(c7 Zh _).free hsh
 have s0:=(c7 Zh (.dK [])).trans (c7 hsh (.lst []))
 have i0:SeS H se sh [] (i8 (i8 H se (.dK [])) sh (.lst [])):=⟨s0,⟨[],by rw[g9 nss,c6],l8 _,fun m=>by simp [KA]⟩,c6⟩
 have Fb:∀i,((l9.take i).flatten.map (·.1)).length<=400:=fun i=>by
  have h1:=P7 (l:=l9.take i) (k:=20) (g:=id) fun ms h=>hms20 ms (Y1 h)
  rw[List.flatMap_id,A4] at h1
  rw[i4]
  exact E7 h1 (E7 (NO 20 (E7 (UM _ _) hml)) (by decide))
 generalize i8 (i8 H se (.dK [])) sh (.lst [])=L0 at i0 s0⊢
 refine⟨⟨_,l7.of (s0 _ _ ha)⟩,w4 xs (Qb9 H a se sh l9) ⟨_,_,rfl,i0⟩ ?_ ?_ ?_⟩
 ·rintro i σ L hi ⟨v3,v4,rfl,sL,_⟩
  exact l7.of (sL _ _ ha)
 ·rintro i y σ L hy ⟨v3,v4,rfl,sL,⟨kvs,hk1,hk2,hk3⟩,RC⟩
  obtain⟨x,ms,rfl,Ds,AX⟩:=FM.2 i y hy
  have EK:ms∈l9:=E8 Ds
  have h20:=hms20 ms EK
  obtain⟨dx,fs,hx,TM,lk2,lk3,lk4,lk5⟩:=AX.ins
  simpa only[↓KS,Dx,↓O5]
  refine⟨dx,fs,sL _ _ hx,lk5,ms,AX.same sL,fun r L1 s1 hr' hv1=> ?_⟩
  refine⟨⟨_,l7.of hv1⟩,w4 (ms.map fun m=>V.int m.1) (YQ H a se sh x r l9 ms i) ⟨_,rfl,⟨sL.trans s1,⟨kvs,s1 _ _ hk1,by rw[Aj];simpa using hk2,fun m=>by rw[hk3];simp⟩,by rw[s1 _ _ RC];simp⟩,hv1,sL.free hr',(j4 hk1 hr').symm,(j4 RC hr').symm⟩ ?_ ?_ ?_⟩
  ·rintro j σ L2' hj ⟨v4,rfl,_,hv,_⟩
   exact l7.of hv
  ·rintro j y σ L3 hy ⟨v4,rfl,⟨sL3,⟨kvs,hk1,hk2,hk3⟩,RC⟩,hv,hrH,n1,n2⟩
   rw[u8] at hy
   obtain⟨m,hm,rfl⟩:=o7.mp hy
   have VW:=(u4.mp hm).1
   have hpi:=Fb i
   have etk:(ms.take (j+1)).map (·.1)=(ms.take j).map (·.1)++[m.1]:=by rw[x6,hm,n6];rfl
   have hprl:((l9.take i).flatten.map (·.1)++(ms.take j).map (·.1)).length<=420:=by rw[y9,i4 (as:=ms.take j),A4];omega
   unfold YQ
   rw[etk,<-C9]
   generalize (l9.take i).flatten.map (·.1)++(ms.take j).map (·.1)=pr at hk2 hk3 RC hprl⊢
   have VZ:=LM (l:=pr) (seen:=[])
   have fin:∀L4,i6 H L4->L4 se=some (.dK kvs)->L4 sh=some (.lst ((K5 [] (pr++[m.1])).map V.int))->L4 r=some (.lst (ms.map fun m=> .int m.1))->SeS H se sh (pr++[m.1]) (i8 L4 se (.dK (D3 kvs (.inl m.1) (.bl true))))/\(i8 L4 se (.dK (D3 kvs (.inl m.1) (.bl true)))) r=some (.lst (ms.map fun m=> .int m.1)):=fun L4 s4 h4 h5 h6=>⟨⟨s4.newer Zh _,⟨_,c6,by have:=K4 kvs (.inl m.1:A0) (V.bl true);rw[y9,G3];omega,fun m'=>by
    rw[Bb]
    by_cases e:m'=m.1
    ·rw[if_pos (by rw[e]),e];simp
    ·rw[if_neg (fun z=>e (NN z)),hk3];simp [e]⟩,by rw[g9 nss.symm];exact h5⟩,by rw[g9 n1];exact h6⟩
   simpa only[↓Sj,↓AN]
   refine⟨_,V7.k (k:= .inl m.1) hk1,?_⟩
   rw[hk3]
   have hsn:=HV (m:=m.1) (l:=pr) (seen:=[])
   rw[List.nil_append] at hsn
   by_cases e:m.1∈pr
   ·rw[if_pos e] at hsn
    have h3:(i8 L3 sh (.lst ((K5 [] pr).map V.int++[.int m.1]))) se=some (.dK kvs):=by rw[g9 nss];exact hk1
    refine QJ (B7 e) ⟨.inl ⟨rfl,_,l7.of RC⟩,_,RC,by rw[i4];omega,_,BG.k (k:= .inl m.1) h3 (by omega),?_⟩
    have:=fin _ (sL3.newer hshH (.lst ((K5 [] pr).map V.int++[.int m.1]))) h3 (by rw[c6,hsn,n6];rfl) (by rw[g9 n2];exact hv)
    exact⟨this.1,this.2,hrH,n1,n2⟩
   ·rw[if_neg e,List.append_nil] at hsn
    refine AG (X8 e) ⟨_,BG.k (k:= .inl m.1) hk1 (by omega),?_⟩
    have:=fin L3 sL3 hk1 (by rw[hsn];exact RC) hv
    exact⟨this.1,this.2,hrH,n1,n2⟩
  ·rintro σ L3 ⟨v4,rfl,sS,hv,_⟩
   rw[i4,y8] at sS
   refine⟨_,_,rfl,?_⟩
   rw[x6,Ds,Cr,Cp,n6,Al,List.flatten_nil,List.append_nil]
   exact sS
 ·rintro σ L ⟨v3,v4,rfl,sL,_,RC⟩
  rw[FM.1,y8] at RC
  simpa only[↓Se]
  refine⟨!((K5 [] (l9.flatten.map (·.1))).map V.int).isEmpty, .inl ⟨_,l7.of RC,rfl⟩,?_⟩
  generalize K5 [] (l9.flatten.map (·.1))=ds at q qe RC⊢
  cases ds with
  |nil=>exact Ni (q rfl L sL)
  |cons d ds=>exact Xm ⟨_,l7.of RC,Nat.succ_pos _,fun M hM Ue=>fun e dx H' z1 z2 _ z3 z4=>qe M hM Ue e dx H' (sL.trans z1) (sL.free z2) z3 z4⟩
def RB(gs l:List Int):List Int:=l.filter fun m=> !decide (m∈gs)
theorem TU{gs l:List Int}{m:Int}:RB gs (l++[m])=RB gs l++if m∈gs then [] else [m]:=by
 unfold RB
 rw[DQ]
 congr 1
 by_cases h:m∈gs
 ·rw[if_pos h];simp [h]
 ·rw[if_neg h];simp [h]
theorem Pd{gs l:List Int}{m:Int}:m∈RB gs l↔m∈l/\m∉gs:=by unfold RB;simp
theorem Qa3{gs:List Int}{l:List Mk}:l.filter (fun m=>decide (m.1∈RB gs (l.map (·.1))))=l.filter fun m=>decide (m.1∉gs):=
 Gj fun m hm=>JD.mpr (Pd.trans ⟨fun h=>h.2,fun h=>⟨n8.mpr ⟨m,hm,rfl⟩,h⟩⟩)
theorem Pe{gs:List Int}{l:List Mk}:RB gs (l.map (·.1))=(l.filter fun m=>decide (m.1∉gs)).map (·.1):=by
 unfold RB
 rw[List.filter_map]
 congr 1
 exact Gj fun m _=>by simp
def Hv(C NM:Addr):Sp:=fun vs H Q E=>∃(a gA:Addr) (xs:List V) (l9:List (List Mk)) (gs:List Int),vs=[.ref a, .ref gA]/\H a=some (.lst xs)/\AY C H xs l9/\Ml l9/\H gA=some (.lst (gs.map V.int))/\gs.length<=1000/\
 ((∃left,(l9.flatten.map (·.1)).Nodup/\mw (-1) left/\left.length<64/\(l9.flatten.filter fun m=>decide (m.1∉gs)).Perm left/\∀x M H',W4 C M x left->i6 M H'->(∀a,H a≠none->M a=none)->i6 H H'->Q (.ref x) H')\/
 (K5 [] (l9.flatten.map (·.1))≠[]/\∀n,n∈K5 [] (l9.flatten.map (·.1))->(∀m∈K5 [] (l9.flatten.map (·.1)),n<=m)->VO NM n H E))
def ZU{C NM:Addr}{v0:Addr}{v1:Addr}{H:Hp}{Q:VK}{E:XK}:=show Hv C NM [.ref v0, .ref v1] H Q E=_ by
 simpa only[Hv]
 rfl
theorem Hz:FnScope ["pieces","gone","left_out","make","kept","piece"] ["pieces","gone"] (i3 Qai):=by ac_rfl
def Lo(lo:Addr)(gs:List Int)(L:Hp):Prop:=∃kvs,L lo=some (.dK kvs)/\kvs.length<=gs.length/\∀m,(A9 kvs (.inl m)).isSome=decide (m∈gs)
def YR(H:Hp)(a gA lo:Addr)(gs:List Int)(i:Nat)(σ:St)(L:Hp):Prop:=∃v3:Option V,σ=[some (.ref a),some (.ref gA),some (.ref lo),v3,none,none]/\i6 H L/\Lo lo (gs.take i) L
def Qcc(H1 H2:Hp)(a gA lo kp:Addr)(gs:List Int)(l9:List (List Mk))(i:Nat)(σ:St)(L:Hp):Prop:=∃v3 v5:Option V,σ=[some (.ref a),some (.ref gA),some (.ref lo),v3,some (.ref kp),v5]/\i6 H2 L/\L kp=some (.dK (VS (RB gs ((l9.take i).flatten.map (·.1)))))
def YS(H2:Hp)(a gA lo kp x r:Addr)(gs:List Int)(l9:List (List Mk))(ms:List Mk)(i j:Nat)(σ:St)(L:Hp):Prop:=∃v3:Option V,σ=[some (.ref a),some (.ref gA),some (.ref lo),v3,some (.ref kp),some (.ref x)]/\i6 H2 L/\L kp=some (.dK (VS (RB gs ((l9.take i).flatten.map (·.1)++(ms.take j).map (·.1)))))/\L r=some (.lst (ms.map fun m=> .int m.1))/\r≠kp
theorem QaN{C NM gs' gm gg:Addr}{ds dm dg:FuncData}(F:Fun K "poured" "poured" Qai f fd)(T:Txt mg)(cl:Cls K C)
  (mPM:Meth K C "makes" gm)(GPM:FnOk P w K mg bs0 D7 1 gm dm ["self"] (Dx C))(bPM:Binds K dm ["self"] [])
  (GSh:FnOk P w K mg bs0 (Kt P w) 3 gs' ds ["pieces"] (Ss C NM))(bSh:Binds K ds ["pieces"] [])(kSh:PySem.W.keepIn K (.ref gs')=true)(mSh:mg "look_at_shared_makes"=some (.ref gs'))
  (GGa:FnOk P w K mg bs0 D7 9 gg dg ["pieces","kept"] (Lb C))(bGa:Binds K dg ["pieces","kept"] [])(kGa:PySem.W.keepIn K (.ref gg)=true)(mGa:mg "gathered"=some (.ref gg)):FnOk P w K mg bs0 (Kt P w) 10 f fd ["pieces","gone"] (Hv C NM):=by
 refine F.okX Hz (fun vs H Q E h=> ?_) (fun E6 A outer s H vs Q E hr h=> ?_)
 ·obtain⟨a,gA,xs,l9,gs,rfl,_⟩:=h
  rfl
 obtain⟨a,gA,xs,l9,gs,rfl,ha,FM,ok,hg,hgl,h⟩:=h
 have hr1:Room 1 _:=hr.mono (by decide)
 have hr3:Room 3 _:=hr.mono (by decide)
 have szl:=B9
 refine⟨_,(e7 (D4 (j7 GSh hr3 rfl mSh kSh bSh .nil QbL (c5 (i9 0) e6)))
  (e7 (k8 (i:=2) Hz.nd rfl (Or.inl rfl) C5)
  (e7 (y7 Gk rfl (l6 K (i9 1)) (i5 (i:=3) Hz.nd rfl (Or.inl rfl))
   (h8 (U4 (E3 hr) (i9 2) (i9 3) S7 rfl)))
  (e7 (k8 (i:=4) Hz.nd rfl (Or.inl rfl) C5)
  (e7 (y7 Gk rfl (l6 K (i9 0)) (i5 (i:=5) Hz.nd rfl (Or.inl rfl))
   (h8 (y7 Gk rfl (l6 K (U7 (i9 5) cl mPM GPM hr1 bPM .nil k9)) (i5 (i:=3) Hz.nd rfl (Or.inl rfl))
   (h8 (G9 (IP (Qu (E3 hr) (i9 3) (i9 2))) (h8 (U4 (E3 hr) (i9 4) (i9 3) (i9 3) rfl)) A3)))))
  (h8 (q9 (j7 GGa hr rfl mGa kGa bGa .nil k9 (c5 (i9 0) (c5 (i9 4) e6)))))))))),?_⟩
 and_intros
 simpa only[↓K9,↓Qby,Ss]
 refine⟨xs,ha,l9,FM,E7 ok.1 (by decide),fun ms h=>(ok.2 ms h).1.1,fun hd H0 s0=> ?_,fun n hn Ue=> ?_⟩
 rotate_left
 ·rcases h with ⟨left,nd,_⟩|⟨_,qe⟩
  ·rw[FW nd fun m _ z=>by cases z] at hn
   cases hn
  ·exact qe n hn Ue
 rcases h with ⟨left,nd,lup,l64,lpm,q⟩|⟨hn,_⟩
 rotate_left
 ·exact absurd hd hn
 intro lo hlo
 have hloH:H lo=none:=s0.free hlo
 have i0:YR H a gA lo gs 0 [some (.ref a),some (.ref gA),some (.ref lo),none,none,none] (i8 H0 lo (.dK [])):=⟨_,rfl,s0.trans (c7 hlo _),[],c6,o8 _,fun m=>by simp [KA]⟩
 refine⟨⟨_,l7.of (i0.choose_spec.2.1 _ _ hg)⟩,w4 (gs.map V.int) (YR H a gA lo gs) i0 ?_ ?_ ?_⟩
 ·rintro i σ L hi ⟨v3,rfl,sL,_⟩
  exact l7.of (sL _ _ hg)
 ·rintro i y σ L hy ⟨v3,rfl,sL,kvs,hk1,hk2,hk3⟩
  rw[u8] at hy
  obtain⟨m,hm,rfl⟩:=o7.mp hy
  have EB:=(u4.mp hm).1
  have etk:gs.take (i+1)=gs.take i++[m]:=by rw[x6,hm];rfl
  rw[A4] at hk2
  simpa only[↓AN]
  refine⟨_,BG.k (k:= .inl m) hk1 (by omega),_,rfl,sL.newer hloH _,_,c6,?_,fun m'=> ?_⟩
  ·have:=K4 kvs (.inl m:A0) (V.bl true)
   rw[A4]
   omega
  ·rw[Bb,etk]
   by_cases e:m'=m
   ·rw[if_pos (by rw[e]),e];simp
   ·rw[if_neg (fun z=>e (NN z)),hk3];simp [e]
 ·rintro σ H1 ⟨v3,rfl,s1,kvs,hk1,hk2,hk3⟩
  rw[i4,y8] at hk3
  simpa only[↓K9]
  intro kp Xu
  have hkpH:=s1.free Xu
  have s2:=s1.trans (c7 Xu (.dK []))
  have ha2:=s2 _ _ ha
  have hkv:=c7 Xu (.dK []) _ _ hk1
  have nlk:lo≠kp:=j4 hk1 Xu
  refine⟨⟨_,l7.of ha2⟩,w4 xs (Qcc H1 H1 a gA lo kp gs l9) ⟨_,_,rfl,c7 Xu _,c6⟩ ?_ ?_ ?_⟩
  ·rintro i σ L hi ⟨v3,v5,rfl,sL,_⟩
   exact l7.of (sL _ _ (s1 _ _ ha))
  ·rintro i y σ L hy ⟨v3,v5,rfl,sL,Uf⟩
   obtain⟨x,ms,rfl,Ds,AX⟩:=FM.2 i y hy
   have EK:ms∈l9:=E8 Ds
   have h20:=(ok.2 ms EK).1.1
   have sHL:=s1.trans sL
   obtain⟨dx,fs,hx,TM,lk2,lk3,lk4,lk5⟩:=AX.ins
   simpa only[↓KS,Dx,↓O5]
   refine⟨dx,fs,sHL _ _ hx,lk5,ms,AX.same sHL,fun r L1 s1' hr' hv1=> ?_⟩
   refine⟨⟨_,l7.of hv1⟩,w4 (ms.map fun m=>V.int m.1) (YS H1 a gA lo kp x r gs l9 ms i) ⟨_,rfl,sL.trans s1',by rw[s1' _ _ Uf];simp,hv1,(j4 Uf hr').symm⟩ ?_ ?_ ?_⟩
   ·rintro j σ L2' hj ⟨v3,rfl,_,_,hv,_⟩
    exact l7.of hv
   ·rintro j y σ L3 hy ⟨v3,rfl,sL3,QN,hv,n1⟩
    rw[u8] at hy
    obtain⟨m,hm,rfl⟩:=o7.mp hy
    have etk:(ms.take (j+1)).map (·.1)=(ms.take j).map (·.1)++[m.1]:=by rw[x6,hm,n6];rfl
    have No:((l9.take i).flatten.map (·.1)++(ms.take j).map (·.1)++[m.1])<+:l9.flatten.map (·.1):=by
     rw[C9,<-etk,<-n6]
     refine List.IsPrefix.map _ ?_
     have e1:l9.flatten=(l9.take i).flatten++(ms++(l9.drop (i+1)).flatten):=by
      rw[<-Al,<-Cp]
      congr 1
      conv=>lhs;rw[<-O8 i l9]
      congr 1
      have EB:=(u4.mp Ds).1
      rw[U2 EB,(u4.mp Ds).2]
     rw[e1]
     exact(List.prefix_append_right_inj _).mpr ((List.take_prefix _ _).trans (List.prefix_append _ _))
    have hln:l9.flatten.length<=200:=by
     have h1:=P7 (l:=l9) (k:=20) (g:=id) fun ms h=>(ok.2 ms h).1.1
     rw[List.flatMap_id] at h1
     have:=ok.1
     omega
    have Fb:=No.length_le
    have Xs:=No.sublist.nodup nd
    unfold YS
    rw[etk,<-C9]
    generalize (l9.take i).flatten.map (·.1)++(ms.take j).map (·.1)=pr at QN Fb Xs⊢
    have hk3':L3 lo=some (.dK kvs):=sL3 _ _ hk1
    simpa only[↓OB,↓AN]
    refine⟨_,V7.k (k:= .inl m.1) hk3',?_⟩
    rw[hk3,TU]
    have CG:(RB gs pr).length<=pr.length:=DR _ _
    rw[y9,G3,i4] at Fb
    by_cases e:m.1∈gs
    ·rw[if_pos e]
     refine AG (by rw[B7 e];rfl) ⟨sL3,by rw[List.append_nil];exact QN,hv,n1⟩
    ·rw[if_neg e]
     have hnk:m.1∉RB gs pr:=fun z=>(AL.mp Xs).2.2 _ (Pd.mp z).1 _ (x8.mpr rfl) rfl
     refine QJ (by rw[X8 e];rfl) ⟨_,BG.k (k:= .inl m.1) QN (by unfold VS;rw[i4];omega),sL3.newer Xu _,?_,by rw[g9 n1];exact hv,n1⟩
     rw[c6,P2 _ (by rw[DH,if_neg hnk])]
     unfold VS
     rw[n6]
     rfl
   ·rintro σ L3 ⟨v3,rfl,sS,QN,hv,_⟩
    rw[i4,y8] at QN
    refine⟨_,_,rfl,sS,?_⟩
    rw[x6,Ds,Cr,Cp,n6,Al,List.flatten_nil,List.append_nil]
    exact QN
  ·rintro σ L ⟨v3,v5,rfl,sL,Uf⟩
   rw[FM.1,y8] at Uf
   have sHL:=s1.trans sL
   have e2:=(lpm.map (·.1))
   simpa only[↓ZZ,Lb]
   refine⟨xs,sHL _ _ ha,l9,FM.same sHL,ok,_,Uf,?_,left,⟨nd,lup,by rw[Qa3];exact lpm⟩,by rw[Pe];exact e2,fun x M H' z1 z2 z3 z4=>q x M H' z1 z2 (fun a ha=>z3 a fun e=>ha (sHL.free e)) (sHL.trans z4)⟩
   rw[Pe,e2.length_eq,i4]
   exact l64
theorem Xb{a b:Int}(h:a<=b):∀{ms:List Mk},mw b ms->mw a ms
 |[],_=>trivial
 |m::ms,z=>⟨Int.lt_of_le_of_lt h z.1,z.2⟩
theorem Bj:∀{l ms:List Mk},l.Sublist ms->∀{a:Int},mw a ms->mw a l
 |_,_, .slnil,_,z=>z
 |_,_, .cons m s,_,z=>Xb (Gq z.1) (Bj s z.2.2)
 |_,_, .cons₂ m s,_,z=>⟨z.1,z.2.1,Bj s z.2.2⟩
theorem Fd{l ms:List Mk}(s:l.Sublist ms)(h:Z8 ms):Z8 l:=⟨E7 s.length_le h.1,fun m hm=>h.2 m (s.subset hm)⟩
def pk(ms:List Mk)(l9:List (List Mk))(gs:List Int):List Mk:=ms.filter fun m=>decide (m.1∈l9.flatten.map (·.1)/\m.1∉gs)
structure Part(ms:List Mk)(l9:List (List Mk)):Prop where
 few:l9.length<=10
 sub:∀l∈l9,l.Sublist ms
 nd:(l9.flatten.map (·.1)).Nodup
theorem WH{ms:List Mk}{l9:List (List Mk)}{gs:List Int}(hm:mw (-1) ms)(h:Part ms l9):(l9.flatten.filter fun m=>decide (m.1∉gs)).Perm (pk ms l9 gs):=by
 have hs:∀m∈l9.flatten,m∈ms:=fun m h'=>by
  obtain⟨l,h1,h2⟩:=Cq.mp h'
  exact(h.sub l h1).subset h2
 have nd:=(P6 hm).2
 refine(List.perm_ext_iff_of_nodup ?_ ?_).mpr fun m=> ?_
 ·exact(UX _ (fun a b (z:a.1≠b.1) e=>z (by rw[e])) h.nd).filter _
 ·exact(UX _ (fun a b (z:a.1≠b.1) e=>z (by rw[e])) nd).filter _
 ·unfold pk
  rw[V9,V9,UW,UW]
  refine⟨fun z=>⟨hs m z.1,n8.mpr ⟨m,z.1,rfl⟩,z.2⟩,fun z=>⟨?_,z.2.2⟩⟩
  obtain⟨y,h1,h2⟩:=n8.mp z.2.1
  rw[<-Jc nd (hs y h1) z.1 h2]
  exact h1
def GP(C:Addr):Sp:=fun vs H Q _=>∃(a gA:Addr) (xs:List V) (ms:List Mk) (l9:List (List Mk)) (gs:List Int),vs=[.ref a, .ref gA]/\H a=some (.lst xs)/\AY C H xs l9/\Ks ms/\mw (-1) ms/\Part ms l9/\H gA=some (.lst (gs.map V.int))/\gs.length<=1000/\
 ∀x H',W4 C H' x (pk ms l9 gs)->i6 H H'->Q (.ref x) H'
def Hu{C:Addr}{v0:Addr}{v1:Addr}{H:Hp}{Q:VK}{E:XK}:=show GP C [.ref v0, .ref v1] H Q E=_ by
 simpa only[GP]
 rfl
theorem Ks.mk{ms:List Mk}(h:Ks ms):Z8 ms:=⟨by have:=h.1;omega,fun m hm=>⟨by have:=(h.2 m hm).2.1;omega,fun y hy=>⟨by have:=((h.2 m hm).2.2 y hy).1.1;omega,by have:=((h.2 m hm).2.2 y hy).2.1;omega,((h.2 m hm).2.2 y hy).2.2⟩⟩⟩
theorem Part.ok{ms:List Mk}{l9:List (List Mk)}(h:Part ms l9)(hF:Ks ms)(hm:mw (-1) ms):Ml l9:=⟨h.few,fun l hl=>⟨Fd (h.sub l hl) hF.mk,Bj (h.sub l hl) hm⟩⟩
theorem FnOk.pr{C NM:Addr}{k:Nat}{ps:List Str}(F:FnOk P w K mg bs0 (Kt P w) k f fd ps (Hv C NM)):FnOk P w K mg bs0 D7 k f fd ps (GP C):=F.calm fun vs H Q E h=>by
 obtain⟨a,gA,xs,ms,l9,gs,rfl,ha,hp,hF,hm,pt,hg,hl,q⟩:=h
 refine⟨a,gA,xs,l9,gs,rfl,ha,hp,pt.ok hF hm,hg,hl, .inl ⟨pk ms l9 gs,pt.nd,Bj Gi hm,?_,WH hm pt,fun x M H' z1 z2 _ z4=>q x H' (z1.same z2) z4⟩⟩
 have:=DR (fun m=>decide (m.1∈l9.flatten.map (·.1)/\m.1∉gs)) ms
 have:=hF.1
 unfold pk
 omega
theorem QcA:FnScope ["self","place"] ["self","place"] (i3 sXM):=by ac_rfl
theorem Qy(F:Fun K "__init__" "NoMake.__init__" sXM f fd):FnOk P w K mg bs0 D7 1 f fd ["self","place"] (ER K "place"):=by
 refine F.ok QcA (fun vs H Q E h=> ?_) (fun E6 A outer s H vs Q E hr h=> ?_)
 ·obtain⟨e,C,FE,y,rfl,_⟩:=h
  rfl
 obtain⟨e,C,FE,y,rfl,he,xc,hn,q⟩:=h
 refine⟨_,h8 (WE (pv 0) (pv 1) rfl),?_⟩
 exact⟨_,rfl,_,rfl,e,C,FE,rfl,he,xc,hn,q⟩
def Be(K:j6):Sp:=fun vs H Q _=>∃(a:Addr) (ns:List Int) (k:Int),vs=[.ref a, .int k]/\l7 K H a (ns.map V.int)/\0<=k/\∀z,Q (.int z) H
def ES{K:j6}{v0:Addr}{v1:Int}{H:Hp}{Q:VK}{E:XK}:=show Be K [.ref v0, .int v1] H Q E=_ by
 simpa only[Be]
 rfl
theorem scC:FnScope ["_law_script","_law_k"] ["_law_script","_law_k"] (i3 SX):=by ac_rfl
theorem WT(F:Fun K "_law_cell_at" "_law_cell_at" SX f fd)(T:Txt mg):FnOk P w K mg bs0 D7 1 f fd ["_law_script","_law_k"] (Be K):=by
 refine F.ok scC (fun vs H Q E h=> ?_) (fun E6 A outer s H vs Q E hr h=> ?_)
 ·obtain⟨a,ns,k,rfl,_⟩:=h
  rfl
 obtain⟨a,ns,k,rfl,hS,h0,q⟩:=h
 refine⟨_,(e7 (G9 (B0 Tq (pv 1) (n9 (Nd K) rfl T.len Y0 (c5 (pv 0) e6)) (E1 _)) (h8 (q9 (N1 (QI K) (pv 0) (pv 1) (fun _ _=>rfl)))) A3)
  (h8 (q9 j5))),?_⟩
 refine⟨_,rfl,_,rfl,a,_,rfl, .inl hS,_,_,rfl,rfl,_,rfl,?_⟩
 refine X4 (fun c=> ?_) (fun c=> ?_)
 ·have c':k<(((ns.map V.int).length:Nat):Int):=A2 c
  obtain⟨v,hv,hv'⟩:=Gc h0 c'
  rw[u8] at hv'
  obtain⟨z,_,rfl⟩:=o7.mp hv'
  exact⟨_,rfl,_,rfl,a,_,_,_,rfl,rfl,hS,hv,q z⟩
 ·exact q 0
def Dl(H:Hp)(ds:List V)(l9:List (List Mk)):Prop:=ds.length=l9.length/\∀(i:Nat) (y:V),ds[i]? =some y->∃b xs ms,y= .ref b/\l9[i]? =some ms/\H b=some (.lst xs)/\c8 H (ms.map EL) xs
theorem Dl.same{H L:Hp}{xs:List V}{l9:List (List Mk)}(h:Dl H xs l9)(s:i6 H L):Dl L xs l9:=⟨h.1,fun i x hx=>by
 obtain⟨b,xs,ms,e,h1,h2,h3⟩:=h.2 i x hx
 exact⟨b,xs,ms,e,h1,s _ _ h2,c8.same s _ _ h3⟩⟩
def KY(C:Addr):Sp:=fun vs H Q _=>∃(d:Addr) (ds:List V) (l9:List (List Mk)),vs=[.ref d]/\H d=some (.lst ds)/\Dl H ds l9/\Ml l9/\∀r xs H',i6 H H'->H' r=some (.lst xs)->AY C H' xs l9->Q (.ref r) H'
def ZX{C:Addr}{v0:Addr}{H:Hp}{Q:VK}{E:XK}:=show KY C [.ref v0] H Q E=_ by
 simpa only[KY]
 rfl
theorem QbB:FnScope ["_law_dealt"] ["_law_dealt"] (i3 Wy):=by ac_rfl
def Qch(C:Addr)(H:Hp)(l9:List (List Mk))(i:Nat)(ys:List V)(σ:St)(L:Hp):Prop:=∃v0:Option V,σ=[v0]/\i6 H L/\AY C L ys (l9.take i)
def Qci(H1:Hp)(ms:List Mk)(i:Nat)(ys:List V)(σ:St)(L:Hp):Prop:=∃v0 v1:Option V,σ=[v0,v1]/\i6 H1 L/\c8 L ((ms.take i).map EL) ys
theorem QaQ{C gi:Addr}{di:FuncData}(F:Fun K "_law_pieces" "_law_pieces" Wy f fd)(T:Txt mg)(mkP:L2.Mk K C gi)(mPc:mg "Piece"=some (.ref C))
  (GIn:FnOk P w K mg bs0 D7 6 gi di ["self","makes"] (AB C))(bIn:Binds K di ["self","makes"] []):FnOk P w K mg bs0 D7 8 f fd ["_law_dealt"] (KY C):=by
 refine F.ok QbB (fun vs H Q E h=> ?_) (fun E6 A outer s H vs Q E hr h=> ?_)
 ·obtain⟨d,ds,l9,rfl,_⟩:=h
  rfl
 obtain⟨d,ds,l9,rfl,hd,dl,ok,q⟩:=h
 have szl:=B9
 have ok1:=ok.1
 refine⟨_,(h8 (q9 (J5 (N:=["_law_some"]) (pick:=[none]) (NX:=["_law_dealt"]) (sX:=i3 Wy) (by decide+kernel) rfl rfl rfl (l6 K (i9 0))
    (fun _ _ _ _=>(i5 (i:=0) (by decide+kernel:(["_law_some"]:List Str).Nodup) rfl (Or.inl rfl))) (fun _ _ _ _=>G6) (fun _ _ _ _=>(IV mkP GIn hr rfl mPc bIn .nil k9 (c5 (J5 (N:=["_law_make","_law_document_here"]) (pick:=[none,none]) (NX:=["_law_some"]) rfl rfl rfl rfl (l6 K (i9 0))
    (fun _ _ _ _=>(GV K (n:=2) rfl (j9 (i5 (i:=0) HK rfl (Or.inl rfl)) (j9 (i5 (i:=1) HK rfl (Or.inl rfl)) C4)))) (fun _ _ _ _=>G6) (fun _ _ _ _=>(X0 (c5 (i9 0) (c5 (W5 (lstK K) rfl T.list JJ (c5 (i9 1) e6)) e6))))) e6)))))),?_⟩
 and_intros
 simpa only[o9]
 refine⟨⟨_,l7.of hd⟩,C0 ds (Qch C H l9) ⟨none,rfl,i6.refl _,rfl,fun i x hx=>(by simp at hx)⟩ ?_ ?_ ?_⟩
 ·rintro i ys σ L hi ⟨v0,rfl,sL,pc⟩
  have:=pc.1
  rw[A4] at this
  exact⟨l7.of (sL _ _ hd),by omega⟩
 ·rintro i y ys σ L hy ⟨v0,rfl,sL,pc⟩
  obtain⟨b,xs,ms,rfl,Ds,hb,hD⟩:=dl.2 i y hy
  obtain⟨fit,V0⟩:=ok.2 ms (E8 Ds)
  have Fa:xs.length=ms.length:=by have:=hD.length;rwa [i4] at this
  have h20:=fit.1
  simpa only[↓ME,↓II,AB]
  refine⟨⟨_,l7.of (sL _ _ hb)⟩,C0 xs (Qci L ms) ⟨none,none,rfl,i6.refl _,c8.nil⟩ ?_ ?_ ?_⟩
  ·rintro j zs σ L1 hj ⟨v0,v1,rfl,s1,hz⟩
   have:=hz.length
   rw[i4,A4] at this
   exact⟨l7.of ((sL.trans s1) _ _ hb),by omega⟩
  ·rintro j z zs σ L1 hz ⟨v0,v1,rfl,s1,Pj⟩
   obtain⟨dv,h1,h2⟩:=hD.get hz
   rw[u8] at h1
   obtain⟨m,hm,rfl⟩:=o7.mp h1
   obtain⟨t,d',us,rfl,ht,hd',hu⟩:=Ad h2
   have sL1:=sL.trans s1
   simpa only[o9]
   refine⟨_,W3.of (sL1 _ _ ht),rfl,?_⟩
   simpa only[o9]
   refine⟨_, .inl (l7.of (sL1 _ _ hd')),fun l hl=>⟨by decide,fun p hp=> ?_⟩⟩
   have s2:=(c7 hl (.lst us)).trans (c7 hp (.tup [.int m.1, .ref l]))
   refine⟨_,_,rfl,s1.trans s2,?_⟩
   rw[x6,hm,n6]
   exact(c8.same s2 _ _ Pj).app (c8.one (Uz (m:=m) (a:=l) (xs:=us) c6 (w9 c6 hp) (c8.same (sL1.trans s2) _ _ hu)))
  ·rintro zs σ L1 ⟨v0,v1,rfl,s1,hz⟩ p hp x dx0 hx0 LI Np
   rw[Fa,y8] at hz
   have s2:=s1.trans (c7 hp (.lst zs))
   have hpv:(i8 L1 p (.lst zs)) p=_:=c6
   have hz2:=c8.same (c7 hp (.lst zs)) _ _ hz
   generalize i8 L1 p (.lst zs)=G at hx0 LI s2 hpv hz2⊢
   refine⟨G,dx0,p,rfl,((i6.refl G).newer LI _).newer hx0 _,hx0,c6,ms,zs,hpv,hz2,fit,V0,fun M H2 AX sM dj sG2=> ?_⟩
   have s3:=s2.trans sG2
   refine⟨_,rfl,sL.trans s3,?_,fun k v hv=> ?_⟩
   ·have:=pc.1
    rw[y9,this,G3,A4,A4]
    have:=(u4.mp Ds).1
    omega
   ·have hl:ys.length=i:=by have:=pc.1;rw[A4] at this;have:=(u4.mp Ds).1;omega
    rw[NL] at hv
    split at hv
    ·rename_i hk
     obtain⟨p',ms',e,h1,h2⟩:=pc.2 k v hv
     refine⟨p',ms',e,?_,h2.same s3⟩
     rw[Y3] at h1⊢
     rw[if_pos (by omega)] at h1
     rw[if_pos (by omega)]
     exact h1
    ·have hk:k=i:=by
      have:=(u4.mp hv).1
      rw[G3] at this
      omega
     subst hk
     rw[hl,JT] at hv
     cases hv
     exact⟨x,ms,rfl,by rw[Y3,if_pos (by omega)];exact Ds,AX.same sM⟩
 ·rintro ys σ L ⟨v0,rfl,sL,pc⟩ p hp
  rw[dl.1,y8] at pc
  exact q p ys _ (sL.trans (c7 hp _)) c6 (pc.same (c7 hp _))
def IH(C:Addr):Sp:=fun vs H Q _=>∃(x a:Addr) (ms:List Mk) (xs:List V),vs=[.ref x, .ref a]/\W4 C H x ms/\H a=some (.lst xs)/\c8 H (ms.map EL) xs/\Z8 ms/\mw (-1) ms/\∀H',i6 H H'->Q (.bl true) H'
def KZ{C:Addr}{v0:Addr}{v1:Addr}{H:Hp}{Q:VK}{E:XK}:=show IH C [.ref v0, .ref v1] H Q E=_ by
 simpa only[IH]
 rfl
theorem Nz(ns:List Int):Jr (.lst (ns.map DV.int))<=60:=by rw[Jr,HW];decide
theorem QcF:FnScope ["_law_piece","_law_makes_here"] ["_law_piece","_law_makes_here"] (i3 sIs):=by ac_rfl
def Qcf(ms:List Mk)(L0:Hp)(i:Nat)(ys:List V)(σ:St)(L:Hp):Prop:=∃v0 v1:Option V,σ=[v0,v1]/\L=L0/\ys=(ms.take i).map fun m=> .int m.1
theorem LX{L:Hp}{Q':VK}{σ0:St}{c:Addr}{Y8:List V}{ms:List Mk}(hc:L c=some (.lst Y8))(hcD:c8 L (ms.map EL) Y8)(h20:ms.length<=20)(hq:∀p,L p=none->Q' (.ref p) (i8 L p (.lst (ms.map fun m=> .int m.1)))):BH [none,none] (LJ K 2 (Ar (O3 0) (Ar (O3 1) Jm))) Sd (Mp 0) Q' σ0 (Rv K c) L:=by
 have HR:Y8.length=ms.length:=by have:=hcD.length;rwa [i4] at this
 have szl:=B9
 refine C0 Y8 (Qcf ms L) ⟨none,none,rfl,rfl,rfl⟩ ?_ ?_ ?_
 ·rintro i ys σ L hi ⟨v0,v1,rfl,rfl,rfl⟩
  exact⟨l7.of hc,by rw[i4,A4];omega⟩
 ·rintro i y ys σ L hy ⟨v0,v1,rfl,rfl,rfl⟩
  obtain⟨dv,h1,h2⟩:=hcD.get hy
  rw[u8] at h1
  obtain⟨m,hm,rfl⟩:=o7.mp h1
  obtain⟨b,d,zs,rfl,hb,hd,hz⟩:=Ad h2
  simpa only[o9]
  refine⟨_,W3.of hb,rfl,?_⟩
  simpa only[o9]
  exact⟨_,_,rfl,rfl,by rw[x6,hm,n6];rfl⟩
 ·rintro ys σ L ⟨v0,v1,rfl,rfl,rfl⟩ p hp
  rw[HR,y8]
  exact hq p hp
theorem QbW{C gm gt:Addr}{dm dt:FuncData}(F:Fun K "_law_is" "_law_is" sIs f fd)(T:Txt mg)(cl:Cls K C)
  (mPM:Meth K C "makes" gm)(GPM:FnOk P w K mg bs0 D7 1 gm dm ["self"] (Dx C))(bPM:Binds K dm ["self"] [])
  (GTe:FnOk P w K mg bs0 D7 3 gt dt ["_law_thing","_law_makes_here"] (KP C))(bTe:Binds K dt ["_law_thing","_law_makes_here"] [])(kTe:PySem.W.keepIn K (.ref gt)=true)(mTe:mg "_law_tells"=some (.ref gt)):FnOk P w K mg bs0 D7 4 f fd ["_law_piece","_law_makes_here"] (IH C):=by
 refine F.ok QcF (fun vs H Q E h=> ?_) (fun E6 A outer s H vs Q E hr h=> ?_)
 ·obtain⟨x,a,ms,xs,rfl,_⟩:=h
  rfl
 obtain⟨x,a,ms,xs,rfl,AX,ha,hD,fit,V0,q⟩:=h
 have hr1:Room 1 _:=hr.mono (by decide)
 have hr3:Room 3 _:=hr
 have eI:(ms.map fun m=>V.int m.1)=(ms.map (·.1)).map V.int:=by rw[N7];rfl
 obtain⟨dx,fs,hx,TM,lk2,lk3,lk4,lk5⟩:=AX.ins
 refine⟨_,(h8 (q9 (MV (OV (WK K hr1) (U7 (i9 0) cl mPM GPM hr1 bPM .nil k9) (J5 (N:=["_law_make","_law_document_here"]) (pick:=[none,none]) (NX:=["_law_piece","_law_makes_here"]) (sX:=i3 sIs) (by decide+kernel) rfl rfl rfl (l6 K (i9 1))
    (fun _ _ _ _=>(GV K (n:=2) rfl (j9 (i5 (i:=0) HK rfl (Or.inl rfl)) (j9 (i5 (i:=1) HK rfl (Or.inl rfl)) C4)))) (fun _ _ _ _=>G6) (fun _ _ _ _=>(i9 0))) (E1 _)) (IT (j7 GTe hr3 rfl mTe kTe bTe .nil k9 (c5 (i9 0) (c5 (i9 1) e6))))))),?_⟩
 and_intros
 simpa only[↓O5,↓KS,Dx,↓ZS,KP]
 refine⟨dx,fs,hx,lk5,ms,AX,fun r1 H1 s1 hr1' hv1=>⟨⟨_,l7.of (s1 _ _ ha)⟩,LX (s1 _ _ ha) (c8.same s1 _ _ hD) fit.1 fun p hp=> ?_⟩⟩
 have s2:=s1.trans (c7 hp (.lst (ms.map fun m=> .int m.1)))
 rw[eI] at hv1
 refine⟨_,_, .inl rfl,Nz (ms.map (·.1)),k7.deep _ _ (K6 (c7 hp _ _ _ hv1) (c8.ints _)),k7.deep _ _ (K6 (by rw[c6,eI]) (c8.ints _)),?_⟩
 exact⟨ms,AX.same s2,xs,s2 _ _ ha,c8.same s2 _ _ hD,fit,V0,fun H' s'=>q H' (s2.trans s')⟩
theorem Qbn{e:Addr}{C C':Value}{dx dx':Option Addr}(h:XO e C dx=XO e C' dx'):C=C'/\dx=dx':=by
 unfold XO at h
 injection h with h
 have h0:XP e C dx (({objs:=Array.replicate e default}:Heap).push {cls:=C,dict:=dx,data:= .fields #[.none, .none]}):=by
  refine⟨{cls:=C,dict:=dx,data:= .fields #[.none, .none]},_,?_,rfl,rfl,rfl,by decide⟩
  have:=C7 (o:={cls:=C,dict:=dx,data:= .fields #[.none, .none]}) ({objs:=Array.replicate e default}:Heap) rfl
  simpa using this
 rw[h] at h0
 obtain⟨oe,vs,h1,h2,h3,_⟩:=h0
 have h4:(({objs:=Array.replicate e default}:Heap).push {cls:=C,dict:=dx,data:= .fields #[.none, .none]}).get? e=some {cls:=C,dict:=dx,data:= .fields #[.none, .none]}:=by
  have:=C7 (o:={cls:=C,dict:=dx,data:= .fields #[.none, .none]}) ({objs:=Array.replicate e default}:Heap) rfl
  simpa using this
 rw[h4] at h1
 cases h1
 exact⟨h2,h3⟩
structure XKit(K:j6)(FE NF NM ND NQ:Addr):Prop where
 fe:PySem.W.mroIn K NM (.ref FE)=some true
 xa:XAttr K NM
 pl:PySem.W.findIn K (.ref NM) "place"=some none
 ve:PySem.W.kitOne K (.ref NM) (.type "ValueError")=some true
 nf:PySem.W.kitOne K (.ref NM) (.ref NF)=some false
 nq:PySem.W.kitOne K (.ref NM) (.ref NQ)=some false
 nd:PySem.W.kitOne K (.ref NM) (.ref ND)=some false
 nm:PySem.W.kitOne K (.ref NM) (.ref NM)=some true
def Lc(C:Addr):Sp:=fun vs H Q _=>∃(a gA:Addr) (xs:List V) (l9:List (List Mk)) (gs:List Int) (n:Int),vs=[.ref a, .ref gA]/\H a=some (.lst xs)/\AY C H xs l9/\Ml l9/\H gA=some (.lst (gs.map V.int))/\gs.length<=1000/\n∈K5 [] (l9.flatten.map (·.1))/\(∀m∈K5 [] (l9.flatten.map (·.1)),n<=m)/\∀H',i6 H H'->Q (.int n) H'
def Qaa{C:Addr}{v0:Addr}{v1:Addr}{H:Hp}{Q:VK}{E:XK}:=show Lc C [.ref v0, .ref v1] H Q E=_ by
 simpa only[Lc]
 rfl
theorem OH:FnScope ["_law_pieces_here","_law_gone","_law_caught_here","e"] ["_law_pieces_here","_law_gone"] (i3 Qaq):=by ac_rfl
theorem QaX{C FE NF NM ND NQ gp:Addr}{dp:FuncData}(F:Fun K "_law_caught" "_law_caught" Qaq f fd)(T:Txt mg)(mFE:mg "FindError"=some (.ref FE))(mNF:mg "NoField"=some (.ref NF))(mNM:mg "NoMake"=some (.ref NM))(mND:mg "NoDocument"=some (.ref ND))(mNQ:mg "NoPiece"=some (.ref NQ))(xFE:XCatch K FE)(kC:XKit K FE NF NM ND NQ)
  (GPr:FnOk P w K mg bs0 (Kt P w) 10 gp dp ["pieces","gone"] (Hv C NM))(bPr:Binds K dp ["pieces","gone"] [])(kPr:PySem.W.keepIn K (.ref gp)=true)(mPr:mg "poured"=some (.ref gp)):FnOk P w K mg bs0 D7 11 f fd ["_law_pieces_here","_law_gone"] (Lc C):=by
 refine F.ok OH (fun vs H Q E h=> ?_) (fun E6 A outer s H vs Q E hr h=> ?_)
 ·obtain⟨a,gA,xs,l9,gs,n,rfl,_⟩:=h
  rfl
 obtain⟨a,gA,xs,l9,gs,n,rfl,ha,hp,ok,hg,hgl,hn,Ue,q⟩:=h
 refine⟨_,(e7 (k8 (i:=2) OH.nd rfl (Or.inl rfl) IU)
  (e7 (Tg (i:=3) rfl rfl rfl mFE xFE OH.nd rfl rfl (fun _ _=>h8 (D4 (Tp GPr hr rfl mPr kPr bPr (c5 (i9 0) (c5 (i9 1) e6))))) (fun _=>h8 (k8 (i:=2) OH.nd rfl (Or.inl rfl) (i9 3))))
  (e7 (G9 (PW.pt (BY (B0 QaI (i9 2) IU (E1 _)) (BY (W8 (N0 (n9 (Au K) rfl T.isinstance (by decide+kernel) (c5 (i9 2) (c5 (EV (v:= .ty "ValueError") rfl T.valueError (by decide+kernel) rfl) e6))))) (DE (N0 (n9 (Au K) rfl T.isinstance (by decide+kernel) (c5 (i9 2) (c5 (EU rfl mNF) e6)))))))) (h8 (q9 IU)) A3)
  (e7 (G9 (PW.pt (BY (N0 (n9 (Au K) rfl T.isinstance (by decide+kernel) (c5 (i9 2) (c5 (EU rfl mNQ) e6)))) (BY (N0 (n9 (Au K) rfl T.isinstance (by decide+kernel) (c5 (i9 2) (c5 (EU rfl mND) e6)))) (DE (W8 (N0 (n9 (Au K) rfl T.isinstance (by decide+kernel) (c5 (i9 2) (c5 (EU rfl mNM) e6))))))))) (h8 (q9 IU)) A3)
  (h8 (q9 (WI (i9 2) rfl))))))),?_⟩
 and_intros
 simpa only[↓Qbw,↓Sm,↓ZU,Hv]
 refine⟨fun σ' e H'=>σ'=[some (.ref a),some (.ref gA),some .non,none]/\∃dx:Addr,i6 H H'/\H' e=some (XO e (.ref NM) (some dx))/\H' dx=some (.xd [("place", .int n)]),⟨fun v _ H'=>∃e,v= .ref e/\∃dx:Addr,i6 H H'/\H' e=some (XO e (.ref NM) (some dx))/\H' dx=some (.xd [("place", .int n)]),⟨xs,ha,l9,hp,ok,gs,hg,hgl, .inr ⟨fun e=> ?_,fun n' h1 h2=> ?_⟩⟩,?_⟩,?_⟩
 ·rw[e] at hn;cases hn
 ·have e:n'=n:=JP (h2 n hn) (Ue n' h1)
  subst e
  exact fun e dx H' sH he hH QQ=>⟨e,rfl,dx,sH,hH,QQ⟩
 ·rintro e H' ⟨e',he',h⟩
  cases he'
  exact⟨rfl,h⟩
 ·rintro σ' e Cv dx H' ⟨rfl,dx',sH,hH,QQ⟩ hC
  have hcv:Cv= .ref NM:=(Qbn (R7 (hH.symm.trans hC))).1.symm
  refine⟨NM,hcv,kC.fe,?_⟩
  have t0:TyX K H' (.ref e) (.ref NM):= .inr ⟨e,NM,some dx',rfl,rfl,hH,fun u hu=>⟨_,by cases hu;exact QQ⟩,kC.xa⟩
  simpa only[↓Yl]
  exact AG (by decide) ⟨_,t0,_, .inr ⟨_,rfl,kC.ve⟩,AG rfl ⟨_,t0,_, .inl kC.nf,AG rfl ⟨_,t0,_, .inl kC.nq,AG rfl ⟨_,t0,_, .inl kC.nd,AG rfl ⟨_,t0,_, .inl kC.nm,AG rfl ⟨NM,dx',hH,_,QQ,kC.xa,kC.pl,_,rfl,q H' sH⟩⟩⟩⟩⟩⟩
section
variable {g:TG} {ti:TT} {te:TE} {Q:VK} {σ:St} {H:Hp} {pick:List (Option Nat)} {K:j6} {t1 t2:Bool} {l1 l2:Addr} {xs zs:List V}
theorem HX(G1:xs.length=zs.length)(Pv:Nat->List V->St->Hp->Prop)(h0:Pv 0 [] (V8 pick σ) H)(hl:∀i ys σ H,i<=xs.length->Pv i ys σ H->VQ K t1 H l1 xs/\VQ K t2 H l2 zs/\ys.length<=sizeLine)
  (hs:∀(i:Nat) a b T ys σ H,xs[i]? =some a->zs[i]? =some b->Pv i ys σ H->H T=none->g (.ref T) σ (i8 H T (.tup [a,b])) fun σ3 H3=>ti σ3 H3 fun b H4=>if b=true then te σ3 H4 fun v H5=>Pv (i+1) (ys++[v]) σ3 H5 else Pv (i+1) ys σ3 H4)
  (hd:∀ys σ H,Pv xs.length ys σ H->∀p,H p=none->Q (.ref p) (i8 H p (.lst ys))):BH pick g ti te Q σ (Itz K t1 t2 l1 l2 xs zs) H:=by
 refine⟨fun i m ys σ H=>m=xs.length-i/\i<=xs.length/\Pv i ys σ H,⟨xs.length,by simp,o8 _,h0⟩,?_⟩
 rintro i m ys σ H ⟨rfl,hi,p⟩
 obtain⟨q,q1,q2⟩:=hl i ys σ H hi p
 refine⟨q2,?_⟩
 by_cases O2:i<xs.length
 ·refine .inr ⟨⟨q,q1,O2,by omega⟩,Pv (i+1),fun zs σ' H' p'=>⟨xs.length-(i+1),by omega,rfl,O2,p'⟩,fun x H' y=> ?_⟩
  obtain⟨T,a,b,hT,e1,e2,e3,e4⟩:=y
  subst e1 e2
  exact hs i a b T ys σ H e3 e4 p hT
 ·have e:i=xs.length:=by omega
  subst e
  exact .inl ⟨⟨q,q1, .inl (l8 _)⟩,hd ys σ H p⟩
end
theorem Aa{a:List Expr}{p:Pos}{es:List Expr}{env:Env}:starEach (Expr.List a p::es) env=(false,eval (Expr.List a p) env)::starEach es env:=rfl
theorem NB{xs:List V}{a:Int}(h:0<=a):Dg xs none (some a)=xs.take a.toNat:=by
 unfold Dg HT.CP
 rw[JM]
 simp only[]
 rw[if_neg (by omega),Nat.sub_zero]
 by_cases e:a.toNat<=xs.length
 ·congr 1;omega
 ·rw[Ed (by omega),Ed (by omega)]
theorem FZ{xs:List V}{a:Int}(h:0<=a):Dg xs (some a) none=xs.drop a.toNat:=by
 unfold Dg HT.CP
 simp only[]
 rw[if_neg (by omega)]
 by_cases e:a.toNat<=xs.length
 ·rw[show min a.toNat xs.length=a.toNat by omega]
  exact Ed (by rw[AQ];omega)
 ·rw[UV (by omega),UV (by omega)];simp
def UE(ms:List Mk)(T5:List Int)(k:Int):List Mk:=((ms.zip T5).filter fun p=>decide (p.2=k)).map (·.1)
def As(ms:List Mk)(T5:List Int)(n:Nat):List (List Mk):=(List.range n).map fun(k:Nat)=>UE ms T5 (k:Int)
theorem We{ms:List Mk}{T5:List Int}(hl:T5.length=ms.length)(p:Mk×Int->Bool):(((ms.zip T5).filter p).map (·.1)).Sublist ms:=by
 have:=(Gi (p:=p) (l:=ms.zip T5)).map Prod.fst
 rwa [List.map_fst_zip (by omega)] at this
theorem Rb{ms:List Mk}{T5:List Int}{n:Nat}(hl:T5.length=ms.length)(ht:∀z∈T5,0<=z/\z<(n:Int)){m:Mk}(hm:m∈ms):m∈(As ms T5 n).flatten:=by
 obtain⟨i,hi,e⟩:=Vt.mp hm
 have ht':=ht T5[i] (Oh _)
 refine Cq.mpr ⟨UE ms T5 T5[i],n8.mpr ⟨T5[i].toNat,Mj.mpr (by omega),?_⟩,n8.mpr ⟨(m,T5[i]),V9.mpr ⟨?_,B7 rfl⟩,rfl⟩⟩
 ·rw[UU ht'.1]
 ·rw[<-e,<-List.getElem_zip (h:=by rw[List.length_zip];omega)]
  exact Oh _
theorem NA{ms:List Mk}{T5:List Int}{n:Nat}(hm:mw (-1) ms)(hl:T5.length=ms.length)(hn:n<=4):Part ms (As ms T5 n):=by
 have sub:∀k,(UE ms T5 k).Sublist ms:=fun k=>We hl _
 have nd:=(P6 hm).2
 refine⟨by unfold As;rw[i4,NK];omega,fun l h=> ?_,?_⟩
 ·obtain⟨k,_,rfl⟩:=n8.mp h
  exact sub _
 ·refine Gm.mpr (List.pairwise_flatten.mpr ⟨fun l h=> ?_,Gm.mpr (List.nodup_range.imp fun{i j} Fc x hx y hy e=> ?_)⟩)
  ·obtain⟨k,_,rfl⟩:=n8.mp h
   exact Gm.mp (nd.sublist ((sub _).map _))
  ·have:=Jc nd ((sub _).subset hx) ((sub _).subset hy) e
   subst this
   obtain⟨p,h1,e1⟩:=n8.mp hx
   obtain⟨r,h2,e2⟩:=n8.mp hy
   obtain⟨h1,g1⟩:=V9.mp h1
   obtain⟨h2,g2⟩:=V9.mp h2
   have nz:(((ms.zip T5).map fun p=>(p.1.1,p.2)).map (·.1)).Nodup:=by
    rw[N7,show ((fun x:Int×Int=>x.1)∘fun p:Mk×Int=>(p.1.1,p.2))=(fun m:Mk=>m.1)∘Prod.fst from rfl,<-N7,List.map_fst_zip (by omega)]
    exact nd
   have i1:=S8 nz _ (n8.mpr ⟨p,h1,rfl⟩)
   have i2:=S8 nz _ (n8.mpr ⟨r,h2,rfl⟩)
   dsimp only at i1 i2
   rw[e1] at i1
   rw[e2,i1] at i2
   have g1:=A2 g1
   have g2:=A2 g2
   have:=R7 i2
   omega
theorem FD{ms:List Mk}{l9:List (List Mk)}{gs:List Int}(h:∀m∈ms,m∈l9.flatten):pk ms l9 gs=ms.filter fun m=>decide (m.1∉gs):=
 Gj fun m hm=>JD.mpr ⟨fun z=>z.2,fun z=>⟨n8.mpr ⟨m,h m hm,rfl⟩,z⟩⟩
theorem Tj{ms:List Mk}{gs:List Int}:pk ms [] gs=[]:=UZ.mpr fun m _ z=>(by have:=A2 z;exact absurd this.1 Bx)
theorem XE{ms:List Mk}:(ms.filter fun m=>decide (m.1∉([]:List Int)))=ms:=Va.mpr fun m _=>B7 Bx
theorem Part.one{ms l:List Mk}(hm:mw (-1) ms)(h:l.Sublist ms):Part ms [l]:=⟨by show 1<=10;decide,fun x hx=>by rw[x8.mp hx];exact h,by rw[Co];exact(P6 hm).2.sublist (h.map _)⟩
theorem Part.rev{ms:List Mk}{l9:List (List Mk)}(h:Part ms l9):Part ms l9.reverse:=⟨by rw[DP];exact h.few,fun l hl=>h.sub l (JW.mp hl),(((List.reverse_perm l9).flatten).map _).nodup_iff.mpr h.nd⟩
theorem FT{α:Type}:∀{l r:List (List α)},l.Sublist r->l.flatten.Sublist r.flatten
 |_,_, .slnil=>JI _
 |_,_, .cons a s=>(FT s).trans (List.sublist_append_right _ _)
 |_,_, .cons₂ a s=>(JI a).append (FT s)
theorem Part.cut{ms:List Mk}{l9 l:List (List Mk)}(h:Part ms l9)(s:l.Sublist l9):Part ms l:=⟨E7 s.length_le h.few,fun x hx=>h.sub x (s.subset hx),h.nd.sublist ((FT s).map _)⟩
theorem Part.two{ms:List Mk}{l9:List (List Mk)}(h:Part ms l9)(k:Nat)(hm:mw (-1) ms):Part ms [pk ms (l9.take k) [],pk ms (l9.drop k) []]:=by
 have Xs:=h.nd
 rw[<-O8 k l9,Cp,n6,AL] at Xs
 have nd:=(P6 hm).2
 have s:∀{l:List (List Mk)},(pk ms l []).Sublist ms:=Gi
 refine⟨by show 2<=10;decide,fun x hx=> ?_,?_⟩
 ·rcases C8.mp hx with e|hx
  ·rw[e];exact s
  ·rw[x8.mp hx];exact s
 ·rw[Al,Co,n6,AL]
  refine⟨nd.sublist (s.map _),nd.sublist (s.map _),fun a ha b hb=>Xs.2.2 a ?_ b ?_⟩
  ·obtain⟨m,h1,rfl⟩:=n8.mp ha
   exact(A2 (V9.mp h1).2).1
  ·obtain⟨m,h1,rfl⟩:=n8.mp hb
   exact(A2 (V9.mp h1).2).1
theorem Qaz{ms:List Mk}{l9:List (List Mk)}{k:Nat}(h:∀m∈ms,m∈l9.flatten):pk ms [pk ms (l9.take k) [],pk ms (l9.drop k) []] []=ms:=by
 rw[FD,XE]
 intro m hm
 have h1:=h m hm
 rw[<-O8 k l9,Cp] at h1
 rw[Al,Co]
 refine D8.mpr ((D8.mp h1).imp (fun z=> ?_) fun z=> ?_)
 ·exact V9.mpr ⟨hm,B7 ⟨n8.mpr ⟨m,z,rfl⟩,Bx⟩⟩
 ·exact V9.mpr ⟨hm,B7 ⟨n8.mpr ⟨m,z,rfl⟩,Bx⟩⟩
theorem WG{ms:List Mk}{gs:List Int}(hm:mw (-1) ms):pk ms [ms.filter fun m=>decide (m.1∉gs.take 2)] (gs.drop 2++gs.take 1)=ms.filter fun m=>decide (m.1∉gs):=by
 refine Gj fun m hm=>JD.mpr ⟨fun z hg=> ?_,fun z=>⟨n8.mpr ⟨m,?_,rfl⟩,fun hg=>z ?_⟩⟩
 ·rw[Co] at z
  obtain⟨y,h1,e⟩:=n8.mp z.1
  have h2:=A2 (V9.mp h1).2
  rw[e] at h2
  rw[<-O8 2 gs] at hg
  exact(D8.mp hg).elim h2 fun h3=>z.2 (D8.mpr (.inl h3))
 ·rw[Co]
  exact V9.mpr ⟨hm,B7 fun h=>z (Y1 h)⟩
 ·exact(D8.mp hg).elim Ef Y1
theorem LO:∀{l seen r:List Int},K5 seen (l++r)=K5 seen l++K5 (seen++l) r
 |[],seen,r=>by rw[List.append_nil];rfl
 |m::l,seen,r=>by
  rw[List.cons_append,K5,K5,LO,C9,C9]
  rfl
theorem LN:∀{l seen:List Int},l.Nodup->K5 seen l=l.filter fun m=>decide (m∈seen)
 |[],_,_=>rfl
 |m::l,seen,nd=>by
  rw[O4] at nd
  rw[K5,LN nd.2,List.filter_cons]
  have e:(l.filter fun x=>decide (x∈seen++[m]))=l.filter fun x=>decide (x∈seen):=Gj fun x hx=>JD.mpr ⟨fun z=>(D8.mp z).elim id fun z=>absurd (by rw[<-x8.mp z];exact hx) nd.1,fun z=>D8.mpr (.inl z)⟩
  rw[e]
  by_cases h:m∈seen
  ·rw[if_pos h,if_pos (B7 h)];rfl
  ·rw[if_neg h,if_neg (by rw[X8 h];decide)];rfl
theorem De{l r:List Int}(hl:l.Nodup)(hr:r.Nodup){m:Int}:m∈K5 [] (l++r)↔m∈l/\m∈r:=by
 have e:K5 [] (l++r)=r.filter fun m=>decide (m∈l):=by
  rw[LO,FW hl (fun m _ z=>by cases z),List.nil_append,List.nil_append]
  exact LN hr
 rw[e,V9]
 exact⟨fun z=>⟨A2 z.2,z.1⟩,fun z=>⟨z.2,B7 z.1⟩⟩
theorem QY{ms:List Mk}{l9:List (List Mk)}{k:Nat}{x:Mk}(hm:mw (-1) ms)(hp:Part ms l9)(h:∀m∈ms,m∈l9.flatten)(hx:ms[k]? =some x):(x.1∈K5 [] ((l9++[ms.drop k]).flatten.map (·.1))/\∀m∈K5 [] ((l9++[ms.drop k]).flatten.map (·.1)),x.1<=m)/\x.1∈K5 [] (([ms.drop k]++l9).flatten.map (·.1))/\∀m∈K5 [] (([ms.drop k]++l9).flatten.map (·.1)),x.1<=m:=by
 have nd:=(P6 hm).2
 have nd2:((ms.drop k).map (·.1)).Nodup:=nd.sublist ((Bs k ms).map _)
 have e:ms.drop k=x::ms.drop (k+1):=by
  have hk:=(u4.mp hx).1
  rw[U2 hk,(u4.mp hx).2]
 have in1:x.1∈l9.flatten.map (·.1):=n8.mpr ⟨x,h x (E8 hx),rfl⟩
 have in2:x.1∈(ms.drop k).map (·.1):=by rw[e];exact A5
 have le:∀m∈(ms.drop k).map (·.1),x.1<=m:=fun m hm'=>by
  have pw:=TD (Bj (Bs k ms) hm)
  rw[e,List.map_cons] at pw hm'
  rcases C8.mp hm' with z|z
  ·rw[z];exact Int.le_refl _
  ·exact Gq ((Cw.mp pw).1 m z)
 rw[Cp,Cp,Co,n6,n6]
 exact⟨⟨(De hp.nd nd2).mpr ⟨in1,in2⟩,fun m z=>le m ((De hp.nd nd2).mp z).2⟩,(De nd2 hp.nd).mpr ⟨in2,in1⟩,fun m z=>le m ((De nd2 hp.nd).mp z).1⟩
theorem AY.app{C:Addr}{H:Hp}{xs ys:List V}{l9 nss:List (List Mk)}(h:AY C H xs l9)(g:AY C H ys nss):AY C H (xs++ys) (l9++nss):=⟨by rw[y9,y9,h.1,g.1],fun i x hx=>by
 rw[NL] at hx⊢
 by_cases e:i<xs.length
 ·rw[if_pos e] at hx
  rw[if_pos (h.1▸e)]
  exact h.2 i x hx
 ·rw[if_neg e] at hx
  rw[if_neg (h.1▸e),<-h.1]
  exact g.2 _ x hx⟩
theorem AY.one{C p:Addr}{H:Hp}{ms:List Mk}(h:W4 C H p ms):AY C H [.ref p] [ms]:=⟨rfl,fun i x hx=>by
 cases i with
 |zero=>cases hx;exact⟨p,ms,rfl,rfl,h⟩
 |succ i=>simp at hx⟩
theorem AY.nil{C:Addr}{H:Hp}:AY C H [] []:=⟨rfl,fun i x hx=>(by simp at hx)⟩
theorem AY.tk{C:Addr}{H:Hp}{xs:List V}{l9:List (List Mk)}(h:AY C H xs l9)(k:Nat):AY C H (xs.take k) (l9.take k):=⟨by rw[A4,A4,h.1],fun i x hx=>by
 rw[Y3] at hx⊢
 split at hx
 ·rw[if_pos (by assumption)];exact h.2 i x hx
 ·cases hx⟩
theorem AY.dr{C:Addr}{H:Hp}{xs:List V}{l9:List (List Mk)}(h:AY C H xs l9)(k:Nat):AY C H (xs.drop k) (l9.drop k):=⟨by rw[AQ,AQ,h.1],fun i x hx=>by
 rw[Ak] at hx⊢
 exact h.2 _ x hx⟩
theorem AY.rev{C:Addr}{H:Hp}{xs:List V}{l9:List (List Mk)}(h:AY C H xs l9):AY C H xs.reverse l9.reverse:=⟨by rw[DP,DP,h.1],fun i x hx=>by
 have hi:=(u4.mp hx).1
 rw[DP] at hi
 rw[NJ hi] at hx
 rw[NJ (h.1▸hi),<-h.1]
 exact h.2 _ x hx⟩
theorem Dl.snoc{H:Hp}{ds xs:List V}{l9:List (List Mk)}{b:Addr}{ms:List Mk}(h:Dl H ds l9)(hb:H b=some (.lst xs))(hD:c8 H (ms.map EL) xs):Dl H (ds++[.ref b]) (l9++[ms]):=⟨by rw[y9,y9,h.1];rfl,fun i x hx=>by
 rw[NL] at hx⊢
 by_cases e:i<ds.length
 ·rw[if_pos e] at hx
  rw[if_pos (h.1▸e)]
  exact h.2 i x hx
 ·rw[if_neg e] at hx
  rw[if_neg (h.1▸e),<-h.1]
  have:i-ds.length=0:=by have:=(u4.mp hx).1;rw[G3] at this;omega
  rw[this] at hx⊢
  cases hx
  exact⟨b,xs,ms,rfl,rfl,hb,hD⟩⟩
def TL(N:Hp)(Bc:Addr)(GK:List V)(n:Nat)(L:Hp):Prop:=i6 N L/\L Bc=some (.lst GK)/\∀v∈GK,∃(a b:Addr) (m:Int) (ps:List V),v= .ref a/\L a=some (.tup [.int m, .ref b])/\N b=none/\b≠Bc/\L b=some (.lst ps)/\ps.length<=n
theorem TL.step{N L:Hp}{Bc b:Addr}{GK ps:List V}{n:Nat}(h:TL N Bc GK n L)(hN:N b=none)(ht:b≠Bc)(hb:L b=some (.lst ps))(hl:ps.length<=n)(v:V):TL N Bc GK (n+1) (i8 L b (.lst (ps++[v]))):=by
 refine⟨h.1.newer hN _,by rw[g9 ht.symm];exact h.2.1,fun w hw=> ?_⟩
 obtain⟨a',b',m,ps',rfl,h1,h2,h3,h4,h5⟩:=h.2.2 w hw
 have Wb:a'≠b:=Ex h1 hb (by intro z;cases z)
 by_cases e:b'=b
 ·exact⟨a',b',m,ps++[v],rfl,by rw[g9 Wb];exact h1,h2,h3,by rw[e,c6],by rw[y9,G3];omega⟩
 ·exact⟨a',b',m,ps',rfl,by rw[g9 Wb];exact h1,h2,h3,by rw[g9 e];exact h4,by omega⟩
def OF(K:j6):Sp:=fun vs H Q _=>∃(a:Addr) (ns:List Int),vs=[.ref a]/\l7 K H a (ns.map V.int)/\ns.length<=63/\∀H',Q (.bl true) H'
theorem Fz:FnScope ["_law_script","_law_makes_here","_law_many","_law_to","_law_out","_law_dealt","_law_k","_law_gone","_law_left","_law_pieces_here","_law_kept","_law_whole","_law_back","_law_two","_law_field","_law_word","_law_make","_law_places","_law_piece","_law_some","_law_at","_law_common"] ["_law_script"] (i3 Cf):=by ac_rfl
theorem RG{ms:List Mk}{T5:List Int}{i:Nat}{m:Mk}{z:Int}(h1:ms[i]? =some m)(h2:T5[i]? =some z):(ms.zip T5).take (i+1)=(ms.zip T5).take i++[(m,z)]:=by
 rw[x6,(List.getElem?_zip_eq_some (z:=(m,z))).mpr ⟨h1,h2⟩];rfl
def YZ(G L0:Hp)(ms:List Mk)(T5:List Int)(k:Int)(i:Nat)(ys:List V)(σ:St)(L:Hp):Prop:=∃v0 v1:Option V,σ=[v0,v1,some (.int k)]/\i6 L0 L/\ys.length<=i/\c8 G (((((ms.zip T5).take i).filter fun p=>decide (p.2=k)).map (·.1)).map EL) ys
theorem Ri{G L:Hp}{Q':VK}{σ0:St}{c tp:Addr}{Y8:List V}{ms:List Mk}{T5:List Int}{k:Int}(hσ:V8 [none,none,some 6] σ0=[none,none,some (.int k)])(hc:L c=some (.lst Y8))(hcD:c8 G (ms.map EL) Y8)(ht:L tp=some (.lst (T5.map V.int)))(hl:T5.length=ms.length)(h20:ms.length<=20)
  (hq:∀p ys L',L' p=none->i6 L L'->ys.length<=20->c8 G ((UE ms T5 k).map EL) ys->Q' (.ref p) (i8 L' p (.lst ys))):BH [none,none,some 6] (LJ K 2 (Ar (O3 0) (Ar (O3 1) Jm))) (Fo (Rz rEq (Mp 1) (Mp 2))) (Mp 0) Q' σ0 (Itz K false false c tp Y8 (T5.map V.int)) L:=by
 have HR:Y8.length=ms.length:=by have:=hcD.length;rwa [i4] at this
 have szl:=B9
 refine HX (by rw[i4];omega) (YZ G L ms T5 k) ⟨none,none,hσ,i6.refl _,l8 _,c8.nil⟩ ?_ ?_ ?_
 ·rintro i ys σ L1 hi ⟨v0,v1,rfl,s1,hy,_⟩
  exact⟨l7.of (s1 _ _ hc),l7.of (s1 _ _ ht),by omega⟩
 ·rintro i x y U ys σ L1 hx hy ⟨v0,v1,rfl,s1,Pm,Mq⟩ hU
  obtain⟨dv,h1,h2⟩:=hcD.get hx
  rw[u8] at h1 hy
  obtain⟨m,hm,rfl⟩:=o7.mp h1
  obtain⟨z,hz,rfl⟩:=o7.mp hy
  have s3:=s1.trans (c7 hU (.tup [x, .int z]))
  simpa only[o9]
  refine⟨_,W3.of c6,rfl,?_⟩
  simpa only[o9]
  unfold YZ
  rw[RG hm hz,DQ,n6,n6]
  by_cases e:z=k
  ·refine QJ (B7 e) ⟨_,_,rfl,s3,by rw[y9,G3];omega,?_⟩
   rw[JH (by simpa using e)]
   exact Mq.app (c8.one h2)
  ·refine AG (X8 e) ⟨_,_,rfl,s3,by omega,?_⟩
   rw[JF (by simpa using e),JG,List.map_nil,List.map_nil,List.append_nil]
   exact Mq
 ·rintro ys σ L1 ⟨v0,v1,rfl,s1,Pm,Mq⟩ p hp
  rw[Ed (by rw[List.length_zip];omega)] at Mq
  exact hq p ys L1 hp s1 (by omega) Mq
def YY(L0:Hp)(i:Nat)(ys:List V)(σ:St)(L:Hp):Prop:=∃v0 v1:Option V,σ=[v0,v1]/\i6 L0 L/\∃zs:List Int,ys=zs.map V.int/\zs.length<=i
theorem Rh{L:Hp}{Q':VK}{σ0:St}{c tp:Addr}{Y8:List V}{ms:List Mk}{T5:List Int}(hc:L c=some (.lst Y8))(hcD:c8 L (ms.map EL) Y8)(ht:L tp=some (.lst (T5.map V.int)))(hl:T5.length=ms.length)(h20:ms.length<=20)
  (hq:∀(p:Addr) (zs:List Int) (L':Hp),L' p=none->i6 L L'->zs.length<=20->Q' (.ref p) (i8 L' p (.lst (zs.map V.int)))):BH [none,none] (LJ K 2 (Ar (O3 0) (Ar (O3 1) Jm))) (Fo (Rz rEq (Mp 1) (tC (V.int 0)))) (Rz (Ll K) (Mp 0) (tC (V.int 0))) Q' σ0 (Itz K false false c tp Y8 (T5.map V.int)) L:=by
 have HR:Y8.length=ms.length:=by have:=hcD.length;rwa [i4] at this
 have szl:=B9
 refine HX (by rw[i4];omega) (YY L) ⟨none,none,rfl,i6.refl _,[],rfl,l8 _⟩ ?_ ?_ ?_
 ·rintro i ys σ L1 hi ⟨v0,v1,rfl,s1,zs,rfl,hy⟩
  exact⟨l7.of (s1 _ _ hc),l7.of (s1 _ _ ht),by rw[i4];omega⟩
 ·rintro i x y U ys σ L1 hx hy ⟨v0,v1,rfl,s1,zs,rfl,Pm⟩ hU
  obtain⟨dv,h1,h2⟩:=hcD.get hx
  rw[u8] at h1 hy
  obtain⟨m,hm,rfl⟩:=o7.mp h1
  obtain⟨z,hz,rfl⟩:=o7.mp hy
  obtain⟨b,d,us,rfl,hb,hd,hu⟩:=Ad h2
  have s3:=s1.trans (c7 hU (.tup [.ref b, .int z]))
  simpa only[o9]
  refine⟨_,W3.of c6,rfl,?_⟩
  simpa only[o9]
  unfold YY
  by_cases e:z=0
  ·refine QJ (B7 e) ⟨_,W3.of (s3 _ _ hb),_,rfl,_,_,rfl,s3,zs++[m.1],by rw[n6];rfl,by rw[y9,G3];omega⟩
  ·exact AG (X8 e) ⟨_,_,rfl,s3,zs,rfl,by omega⟩
 ·rintro ys σ L1 ⟨v0,v1,rfl,s1,zs,rfl,Pm⟩ p hp
  exact hq p zs L1 hp s1 (by omega)
def YX(L0:Hp)(ms:List Mk)(gs:List Int)(g:Addr)(i:Nat)(ys:List V)(σ:St)(L:Hp):Prop:=∃v0:Option V,σ=[v0,some (.ref g)]/\L0=L/\c8 L0 (((ms.take i).filter fun m=>decide (m.1∉gs)).map EL) ys
theorem Pg{m:Int}:∀{gs:List Int},inV (.int m) (gs.map V.int)=decide (m∈gs)
 |[]=>rfl
 |x::gs=>by
  have ih:=Pg (m:=m) (gs:=gs)
  unfold inV at ih⊢
  rw[List.map_cons,BC,ih]
  show (decide (x=m)||decide (m∈gs))=_
  by_cases e:x=m
  ·simp [e]
  ·simp [e,D9 e]
theorem Rg{L:Hp}{Q':VK}{σ0:St}{c g:Addr}{Y8:List V}{ms:List Mk}{gs:List Int}(hσ:V8 [none,some 7] σ0=[none,some (.ref g)])(hc:L c=some (.lst Y8))(hcD:c8 L (ms.map EL) Y8)(hg:L g=some (.lst (gs.map V.int)))(h20:ms.length<=20)
  (hq:∀p ys,L p=none->c8 L ((ms.filter fun m=>decide (m.1∉gs)).map EL) ys->Q' (.ref p) (i8 L p (.lst ys))):BH [none,some 7] (O3 0) (Fo (Rz (rIn K true) (Rz (Ll K) (Mp 0) (tC (V.int 0))) (Mp 1))) (Mp 0) Q' σ0 (Rv K c) L:=by
 have HR:Y8.length=ms.length:=by have:=hcD.length;rwa [i4] at this
 have szl:=B9
 refine C0 Y8 (YX L ms gs g) ⟨none,hσ,rfl,c8.nil⟩ ?_ ?_ ?_
 ·rintro i ys σ L1 hi ⟨v0,rfl,rfl,hy⟩
  have h1:=hy.length
  have h2:=DR (fun m=>decide (m.1∉gs)) (ms.take i)
  rw[i4] at h1
  rw[A4] at h2
  exact⟨l7.of hc,by omega⟩
 ·rintro i x ys σ L1 hx ⟨v0,rfl,rfl,Mq⟩
  obtain⟨dv,h1,h2⟩:=hcD.get hx
  rw[u8] at h1
  obtain⟨m,hm,rfl⟩:=o7.mp h1
  obtain⟨b,d,us,rfl,hb,hd,hu⟩:=Ad h2
  simpa only[↓rIn]
  refine⟨_,W3.of hb,_,rfl,_, .inl (l7.of hg),rfl,by rw[List.all_map];exact Em.mpr fun _ _=>rfl,?_⟩
  rw[Pg]
  unfold YX
  rw[x6,hm,Cr,DQ,n6]
  by_cases e:m.1∈gs
  ·refine AG (by rw[B7 e];rfl) ⟨_,rfl,rfl,?_⟩
   rw[JF (by simpa using e),JG,List.map_nil,List.append_nil]
   exact Mq
  ·refine QJ (by rw[X8 e];rfl) ⟨_,rfl,rfl,?_⟩
   rw[JH (by simpa using e)]
   exact Mq.app (c8.one h2)
 ·rintro ys σ L1 ⟨v0,rfl,rfl,Mq⟩ p hp
  rw[HR,y8] at Mq
  exact hq p ys hp Mq
theorem Xw{G L:Hp}{a:Addr}(h:G a=none)(s:i6 G L):i6 G (X6 a L):=fun b u hb=>by
 unfold X6
 rw[if_neg (fun e=>by rw[e,h] at hb;cases hb)]
 exact s b u hb
def YW(H2:Hp)(a c tp op de:Addr)(mn:Int)(ms:List Mk)(T5:List Int)(i:Nat)(σ:St)(L:Hp):Prop:=∃(v6:Option V) (RD:List V),σ=[some (.ref a),some (.ref c),some (.int mn),some (.ref tp),some (.ref op),some (.ref de),v6,none,none,none,none,none,none,none,none,none,none,none,none,none,none,none]/\i6 H2 L/\L de=some (.lst RD)/\Dl (X6 de L) RD (As ms T5 i)
theorem c8.drop{H:Hp}:∀{ds:List DV} {xs:List V} (k:Nat),c8 H ds xs->c8 H (ds.drop k) (xs.drop k)
 |_,_,0,h=>h
 |[],xs,k+1,h=>by
  rw[c8] at h
  subst h
  exact c8.nil
 |d::ds,xs,k+1,h=>by
  rw[c8] at h
  obtain⟨y,ys,rfl,hy,hr⟩:=h
  exact c8.drop k hr
abbrev ML(a c:Addr)(mn:Int)(tp op de:Addr)(v6:Option V)(g lf p kp wh bk tw:Addr)(l:St):St:=some (.ref a)::some (.ref c)::some (.int mn)::some (.ref tp)::some (.ref op)::some (.ref de)::v6::some (.ref g)::some (.ref lf)::some (.ref p)::some (.ref kp)::some (.ref wh)::some (.ref bk)::some (.ref tw)::l
def Qca(M2:Hp)(q:Addr)(n:Int)(i:Nat)(ys:List V)(σ:St)(L:Hp):Prop:=∃v0:Option V,σ=[v0,some (.ref q)]/\i6 M2 L/\ys=List.replicate i (.int n)
def Qcb(Ew:List V)(L0:Hp)(i:Nat)(ys:List V)(σ:St)(L:Hp):Prop:=∃v0:Option V,σ=[v0]/\L0=L/\ys=Ew.reverse.take i
set_option maxHeartbeats 4000000 in
theorem QaR{C gi gm gf gw gp gpr gis gca glp gc gd gk:Addr}{di dm df dw' dp dpr dis dca dlp dc dd dk:FuncData}(F:Fun K "law" "law" Cf f fd)(T:Txt mg)(cl:Cls K C)(mkP:L2.Mk K C gi)(mPc:mg "Piece"=some (.ref C))
  (GIn:FnOk P w K mg bs0 D7 6 gi di ["self","makes"] (AB C))(bIn:Binds K di ["self","makes"] [])
  (mPM:Meth K C "makes" gm)(GPM:FnOk P w K mg bs0 D7 1 gm dm ["self"] (Dx C))(bPM:Binds K dm ["self"] [])
  (mPF:Meth K C "fields" gf)(GPF:FnOk P w K mg bs0 D7 1 gf df ["self"] (IG C))(bPF:Binds K df ["self"] [])
  (mPW:Meth K C "words" gw)(GPW:FnOk P w K mg bs0 D7 1 gw dw' ["self","field"] (IE C))(bPW:Binds K dw' ["self","field"] [])
  (mPP:Meth K C "postings" gp)(GPP:FnOk P w K mg bs0 D7 1 gp dp ["self","field","word"] (IF C))(bPP:Binds K dp ["self","field","word"] [])
  (GPr:FnOk P w K mg bs0 D7 10 gpr dpr ["pieces","gone"] (GP C))(bPr:Binds K dpr ["pieces","gone"] [])(kPr:PySem.W.keepIn K (.ref gpr)=true)(mPr:mg "poured"=some (.ref gpr))
  (GIs:FnOk P w K mg bs0 D7 4 gis dis ["_law_piece","_law_makes_here"] (IH C))(bIs:Binds K dis ["_law_piece","_law_makes_here"] [])(kIs:PySem.W.keepIn K (.ref gis)=true)(mIs:mg "_law_is"=some (.ref gis))
  (GCa:FnOk P w K mg bs0 D7 11 gca dca ["_law_pieces_here","_law_gone"] (Lc C))(bCa:Binds K dca ["_law_pieces_here","_law_gone"] [])(kCa:PySem.W.keepIn K (.ref gca)=true)(mCa:mg "_law_caught"=some (.ref gca))
  (GLp:FnOk P w K mg bs0 D7 8 glp dlp ["_law_dealt"] (KY C))(bLp:Binds K dlp ["_law_dealt"] [])(kLp:PySem.W.keepIn K (.ref glp)=true)(mLp:mg "_law_pieces"=some (.ref glp))
  (GC:FnOk P w K mg bs0 D7 1 gc dc ["_law_script","_law_k"] (Be K))(bC:Binds K dc ["_law_script","_law_k"] [])(kC:PySem.W.keepIn K (.ref gc)=true)(mC:mg "_law_cell_at"=some (.ref gc))
  (GD:FnOk P w K mg bs0 D7 1 gd dd ["_law_cell","_law_many","_law_base","_law_free"] U3)(bD:Binds K dd ["_law_cell","_law_many","_law_base","_law_free"] [])(kD:PySem.W.keepIn K (.ref gd)=true)(mD:mg "_law_draws"=some (.ref gd))
  (GMk:FnOkT P w K mg bs0 4 gk dk ["_law_script"] (KU K))(bMk:Binds K dk ["_law_script"] [])(kMk:PySem.W.keepIn K (.ref gk)=true)(mMk:mg "_law_makes"=some (.ref gk)):FnOkL P w K mg bs0 D7 12 f fd ["_law_script"] (OF K):=by
 refine F.okL Fz (fun vs H Q E h=> ?_) (fun E6 A outer s H vs Q E hr h=> ?_)
 ·obtain⟨a,ns,rfl,_⟩:=h
  rfl
 obtain⟨a,ns,rfl,hS,G1,q⟩:=h
 have hr1:Room 1 _:=hr.mono (by decide)
 have hr4:Room 4 _:=hr.mono (by decide)
 have hr7:Room 7 _:=hr.mono (by decide)
 have hr8:Room 8 _:=hr.mono (by decide)
 have hr10:Room 10 _:=hr.mono (by decide)
 have szl:=B9
 refine⟨_,(Ql (Qq (E:=E0) (i:=1) (iy:=0) GMk hr4 rfl mMk kMk bMk Fz.nd rfl (Or.inl rfl) rfl rfl)
  (@e7 _ _ _ _ _ (k8 (i:=2) Fz.nd rfl (Or.inl rfl) (u5 X2 j5 (u5 T8 (j7 GC hr1 rfl mC kC bC .nil k9 (@c5 _ _ _ _ _ (i9 0) (@c5 _ _ _ _ _ j5 e6 AA) w5)) j5)))
  (@e7 _ _ _ _ _ (k8 (i:=3) Fz.nd rfl (Or.inl rfl) (j7 GD hr1 rfl mD kD bD .nil k9 (@c5 _ _ _ _ _ (j7 GC hr1 rfl mC kC bC .nil k9 (@c5 _ _ _ _ _ (i9 0) (@c5 _ _ _ _ _ j5 e6 AA) w5)) (@c5 _ _ _ _ _ (n9 (Nd K) rfl T.len Y0 (@c5 _ _ _ _ _ (i9 1) e6 w5)) (@c5 _ _ _ _ _ (i9 2) (@c5 _ _ _ _ _ S7 e6 AA) w5) V2) V2)))
  (@e7 _ _ _ _ _ (k8 (i:=4) Fz.nd rfl (Or.inl rfl) (j7 GD hr1 rfl mD kD bD .nil k9 (@c5 _ _ _ _ _ (j7 GC hr1 rfl mC kC bC .nil k9 (@c5 _ _ _ _ _ (i9 0) (@c5 _ _ _ _ _ j5 e6 AA) w5)) (@c5 _ _ _ _ _ (n9 (Nd K) rfl T.len Y0 (@c5 _ _ _ _ _ (i9 1) e6 w5)) (@c5 _ _ _ _ _ j5 (@c5 _ _ _ _ _ S7 e6 AA) AA) V2) V2)))
  (@e7 _ _ _ _ _ (k8 (i:=5) Fz.nd rfl (Or.inl rfl) (@u6 _ _ _ _ e6))
  (@e7 _ _ _ _ _ (y7 B3 rfl (HG rfl T.range (@c5 _ _ _ _ _ (i9 2) e6 w5)) (i5 (i:=6) Fz.nd rfl (Or.inr rfl))
   (@h8 _ _ _ (D4 (Ms K T4 V5 V4 G4 (i9 5) (c5 (J5 (N:=["_law_one","_law_at","_law_k"]) (pick:=[none,none,some 6]) (NX:=QB) (sX:=i3 Cf) (by decide+kernel) rfl rfl rfl (MU K false false rfl T.zip (c5 (i9 1) (c5 (i9 3) e6)))
    (fun _ _ _ _=>(GV K (n:=2) rfl (j9 (i5 (i:=0) YG rfl (Or.inl rfl)) (j9 (i5 (i:=1) YG rfl (Or.inl rfl)) C4)))) (fun _ _ _ _=>(Bg (@B0 _ _ _ _ _ _ _ _ OX (i9 1) (i9 2) (E1 _)))) (fun _ _ _ _=>(i9 0))) e6)))))
  (@e7 _ _ _ _ _ (k8 (i:=7) Fz.nd rfl (Or.inr rfl) (u5 X1 (J5 (N:=["_law_one","_law_bit"]) (pick:=[none,none]) (NX:=QB) (sX:=i3 Cf) (by decide+kernel) rfl rfl rfl (MU K false false rfl T.zip (c5 (i9 1) (c5 (i9 4) e6)))
    (fun _ _ _ _=>(GV K (n:=2) rfl (j9 (i5 (i:=0) YF rfl (Or.inl rfl)) (j9 (i5 (i:=1) YF rfl (Or.inl rfl)) C4)))) (fun _ _ _ _=>(Bg (@B0 _ _ _ _ _ _ _ _ OX (i9 1) j5 (E1 _)))) (fun _ _ _ _=>(N1 (YK K) (i9 0) j5 (fun _ _=>rfl)))) (@u6 _ _ _ _ (@c5 _ _ _ _ _ (u5 MX j5 j5) (@c5 _ _ _ _ _ (To IA j5) e6 ZR) Fv))))
  (@e7 _ _ _ _ _ (IQ (i:=8) Fz.nd rfl rfl (N:=["_law_one","_law_gone"]) (pick:=[none,some 7]) (NX:=QB) (sX:=i3 Cf) (by decide+kernel) rfl rfl rfl (l6 K (i9 1))
    (fun _ _ _ _=>(i5 (i:=0) (by decide+kernel:(["_law_one","_law_gone"]:List Str).Nodup) rfl (Or.inl rfl))) (fun _ _ _ _=>(Bg (@B0 _ _ _ _ _ _ _ _ (Qa2 K) (N1 (YK K) (i9 0) j5 (fun _ _=>rfl)) (i9 1) rfl))) (fun _ _ _ _=>(i9 0)))
  (@e7 _ _ _ _ _ (k8 (i:=9) Fz.nd rfl (Or.inl rfl) (j7 GLp hr8 rfl mLp kLp bLp .nil k9 (@c5 _ _ _ _ _ (i9 5) e6 w5)))
  (@e7 _ _ _ _ _ (k8 (i:=10) Fz.nd rfl (Or.inl rfl) (W5 (lstK K) rfl T.list JJ (@c5 _ _ _ _ _ (i9 7) e6 w5)))
  (@e7 _ _ _ _ _ (k8 (i:=11) Fz.nd rfl (Or.inl rfl) (j7 GPr hr10 rfl mPr kPr bPr .nil k9 (@c5 _ _ _ _ _ (i9 9) (@c5 _ _ _ _ _ (i9 7) e6 w5) w5)))
  (@e7 _ _ _ _ _ (@G9 _ _ _ _ _ _ _ _ (@PW.pt _ _ _ (@BY _ _ _ _ _ _ _ (W8 (N0 (j7 GIs hr4 rfl mIs kIs bIs .nil k9 (@c5 _ _ _ _ _ (i9 11) (@c5 _ _ _ _ _ (i9 8) e6 w5) w5)))) (@BY _ _ _ _ _ _ _ (@B0 _ _ _ _ _ _ _ _ (CW K hr1) (i9 7) (i9 10) (E1 _)) (@DE _ _ _ _ (W8 (N0 (j7 GIs hr4 rfl mIs kIs bIs .nil k9 (@c5 _ _ _ _ _ (j7 GPr hr10 rfl mPr kPr bPr .nil k9 (@c5 _ _ _ _ _ (@u6 _ _ _ _ e6) (@c5 _ _ _ _ _ (i9 7) e6 w5) Aa)) (@c5 _ _ _ _ _ (@u6 _ _ _ _ e6) e6 Aa) V2)))))))) (@h8 _ _ _ (@q9 _ _ _ _ S7)) A3)
  (@e7 _ _ _ _ _ (IQ (i:=12) Fz.nd rfl rfl (N:=["_law_piece"]) (pick:=[none]) (NX:=QB) (sX:=i3 Cf) (by decide+kernel) rfl rfl rfl (QaA rfl T.reversed (c5 (i9 9) e6))
    (fun _ _ _ _=>(i5 (i:=0) (by decide+kernel:(["_law_piece"]:List Str).Nodup) rfl (Or.inl rfl))) (fun _ _ _ _=>G6) (fun _ _ _ _=>(i9 0)))
  (@e7 _ _ _ _ _ (k8 (i:=13) Fz.nd rfl (Or.inl rfl) (j7 GPr hr10 rfl mPr kPr bPr .nil k9 (@c5 _ _ _ _ _ (@u6 _ _ _ _ (@c5 _ _ _ _ _ (j7 GPr hr10 rfl mPr kPr bPr .nil k9 (@c5 _ _ _ _ _ (@P4 _ _ _ _ _ _ _ _ _ _ (Wq K) (i9 12) BN (M5 (u5 Z5 (i9 2) j5))) (@c5 _ _ _ _ _ (@u6 _ _ _ _ e6) e6 Aa) Dw)) (@c5 _ _ _ _ _ (j7 GPr hr10 rfl mPr kPr bPr .nil k9 (@c5 _ _ _ _ _ (@P4 _ _ _ _ _ _ _ _ _ _ (Wq K) (i9 12) (M5 (u5 Z5 (i9 2) j5)) BN) (@c5 _ _ _ _ _ (@u6 _ _ _ _ e6) e6 Aa) Dw)) e6 V2) V2)) (@c5 _ _ _ _ _ (@u6 _ _ _ _ e6) e6 Aa) Aa)))
  (@e7 _ _ _ _ _ (@G9 _ _ _ _ _ _ _ _ (@PW.pt _ _ _ (@BY _ _ _ _ _ _ _ (W8 (N0 (j7 GIs hr4 rfl mIs kIs bIs .nil k9 (@c5 _ _ _ _ _ (j7 GPr hr10 rfl mPr kPr bPr .nil k9 (@c5 _ _ _ _ _ (i9 12) (@c5 _ _ _ _ _ (i9 7) e6 w5) w5)) (@c5 _ _ _ _ _ (i9 8) e6 w5) V2)))) (@BY _ _ _ _ _ _ _ (W8 (N0 (j7 GIs hr4 rfl mIs kIs bIs .nil k9 (@c5 _ _ _ _ _ (i9 13) (@c5 _ _ _ _ _ (i9 1) e6 w5) w5)))) (@DE _ _ _ _ (W8 (N0 (j7 GIs hr4 rfl mIs kIs bIs .nil k9 (@c5 _ _ _ _ _ (j7 GPr hr10 rfl mPr kPr bPr .nil k9 (@c5 _ _ _ _ _ (@u6 _ _ _ _ (@c5 _ _ _ _ _ (i9 13) e6 w5)) (@c5 _ _ _ _ _ (i9 7) e6 w5) Aa)) (@c5 _ _ _ _ _ (i9 8) e6 w5) V2)))))))) (@h8 _ _ _ (@q9 _ _ _ _ S7)) A3)
  (@e7 _ _ _ _ _ (@G9 _ _ _ _ _ _ _ _ (W8 (N0 (j7 GIs hr4 rfl mIs kIs bIs .nil k9 (@c5 _ _ _ _ _ (j7 GPr hr10 rfl mPr kPr bPr .nil k9 (@c5 _ _ _ _ _ (@u6 _ _ _ _ (@c5 _ _ _ _ _ (j7 GPr hr10 rfl mPr kPr bPr .nil k9 (@c5 _ _ _ _ _ (i9 9) (@c5 _ _ _ _ _ (@P4 _ _ _ _ _ _ _ _ _ _ (Wq K) (i9 7) BN (M5 j5)) e6 Dw) w5)) e6 V2)) (@c5 _ _ _ _ _ (u5 X1 (@P4 _ _ _ _ _ _ _ _ _ _ (Wq K) (i9 7) (M5 j5) BN) (@P4 _ _ _ _ _ _ _ _ _ _ (Wq K) (i9 7) BN (M5 j5))) e6 Fv) Aa)) (@c5 _ _ _ _ _ (i9 8) e6 w5) V2)))) (@h8 _ _ _ (@q9 _ _ _ _ S7)) A3)
  (@e7 _ _ _ _ _ (y7 B3 rfl (l6 K (U7 (i9 11) cl mPF GPF hr1 bPF .nil k9)) (i5 (i:=14) Fz.nd rfl (Or.inl rfl))
   (@h8 _ _ _ (y7 B3 rfl (l6 K (Z3 (i9 11) cl mPW GPW hr1 bPW .nil k9 (@c5 _ _ _ _ _ (i9 14) e6 w5))) (i5 (i:=15) Fz.nd rfl (Or.inl rfl))
   (@h8 _ _ _ (y7 B3 rfl (l6 K (Z3 (i9 11) cl mPP GPP hr1 bPP .nil k9 (@c5 _ _ _ _ _ (i9 14) (@c5 _ _ _ _ _ (i9 15) e6 w5) w5))) (GV K (n:=2) rfl (j9 (i5 (i:=16) Fz.nd rfl (Or.inl rfl)) (j9 (i5 (i:=17) Fz.nd rfl (Or.inl rfl)) C4)))
   (@h8 _ _ _ (D4 (Ms K T4 V5 V4 G4 (i9 17) (@c5 _ _ _ _ _ j5 e6 AA)))))))))
  (@e7 _ _ _ _ _ (D4 (Ms K T4 V5 V4 G4 (U7 (i9 11) cl mPM GPM hr1 bPM .nil k9) (@c5 _ _ _ _ _ j5 e6 AA)))
  (@e7 _ _ _ _ _ (y7 B3 rfl (MU K false false rfl T.zip (c5 (u5 X1 (i9 9) (@u6 _ _ _ _ (c5 (i9 11) e6))) (c5 (u5 X1 (i9 5) (@u6 _ _ _ _ (c5 (i9 8) e6))) e6))) (GV K (n:=2) rfl (j9 (i5 (i:=18) Fz.nd rfl (Or.inl rfl)) (j9 (i5 (i:=19) Fz.nd rfl (Or.inr rfl)) C4)))
   (@h8 _ _ _ (@G9 _ _ _ _ _ _ _ _ (W8 (N0 (j7 GIs hr4 rfl mIs kIs bIs .nil k9 (@c5 _ _ _ _ _ (i9 18) (@c5 _ _ _ _ _ (i9 19) e6 w5) w5)))) (@h8 _ _ _ (@q9 _ _ _ _ S7)) A3)))
  (@e7 _ _ _ _ _ (@G9 _ _ _ _ _ _ _ _ (@B0 _ _ _ _ _ _ _ _ (QaJ K hr1) (i9 1) (@u6 _ _ _ _ e6) (E1 _)) (@h8 _ _ _ (@q9 _ _ _ _ S7)) A3)
  (@e7 _ _ _ _ _ (k8 (i:=20) Fz.nd rfl (Or.inl rfl) (u5 T8 (j7 GC hr1 rfl mC kC bC .nil k9 (@c5 _ _ _ _ _ (i9 0) (@c5 _ _ _ _ _ j5 e6 AA) w5)) (n9 (Nd K) rfl T.len Y0 (@c5 _ _ _ _ _ (i9 1) e6 w5))))
  (@e7 _ _ _ _ _ (k8 (i:=21) Fz.nd rfl (Or.inl rfl) (IV mkP GIn hr7 rfl mPc bIn .nil k9 (@c5 _ _ _ _ _ (@P4 _ _ _ _ _ _ _ _ _ _ (Wq K) (i9 1) (M5 (i9 20)) BN) e6 Dw)))
  (@e7 _ _ _ _ _ (y7 B3 rfl (l6 K (@u6 _ _ _ _ (@c5 _ _ _ _ _ (@u6 _ _ _ _ e6) (@c5 _ _ _ _ _ (@u6 _ _ _ _ (@c5 _ _ _ _ _ (N1 (YK K) (N1 (QI K) (i9 1) (i9 20) (fun _ _=>rfl)) j5 (fun _ _=>rfl)) e6 Dw)) (@c5 _ _ _ _ _ (u5 X1 (i9 7) (J5 (N:=["_law_make","_law_document_here"]) (pick:=[none,none]) (NX:=QB) (sX:=i3 Cf) (by decide+kernel) rfl rfl rfl (l6 K (i9 1))
    (fun _ _ _ _=>(GV K (n:=2) rfl (j9 (i5 (i:=0) HK rfl (Or.inl rfl)) (j9 (i5 (i:=1) HK rfl (Or.inl rfl)) C4)))) (fun _ _ _ _=>G6) (fun _ _ _ _=>(i9 0)))) e6 Fv) Aa) Aa))) (i5 (i:=19) Fz.nd rfl (Or.inr rfl))
   (@h8 _ _ _ (@G9 _ _ _ _ _ _ _ _ (@B0 _ _ _ _ _ _ _ _ (CW K hr1) (J5 (N:=["_law_row","_law_some"]) (pick:=[none,some 19]) (NX:=QB) (sX:=i3 Cf) (by decide+kernel) rfl rfl rfl (l6 K (@u6 _ _ _ _ (@c5 _ _ _ _ _ (u5 X1 (i9 9) (@u6 _ _ _ _ (@c5 _ _ _ _ _ (i9 21) e6 w5))) (@c5 _ _ _ _ _ (u5 X1 (@u6 _ _ _ _ (@c5 _ _ _ _ _ (i9 21) e6 w5)) (i9 9)) e6 Fv) Fv)))
    (fun _ _ _ _=>(i5 (i:=0) (by decide+kernel:(["_law_row","_law_some"]:List Str).Nodup) rfl (Or.inl rfl))) (fun _ _ _ _=>G6) (fun _ _ _ _=>(j7 GCa hr rfl mCa kCa bCa .nil k9 (@c5 _ _ _ _ _ (i9 0) (@c5 _ _ _ _ _ (i9 1) e6 w5) w5)))) (u5 QaF (@u6 _ _ _ _ (@c5 _ _ _ _ _ (N1 (YK K) (N1 (QI K) (i9 1) (i9 20) (fun _ _=>rfl)) j5 (fun _ _=>rfl)) e6 Dw)) j5) (E1 _)) (@h8 _ _ _ (@q9 _ _ _ _ S7)) A3)))
  (@h8 _ _ _ (@q9 _ _ _ _ (j7 GIs hr4 rfl mIs kIs bIs .nil k9 (@c5 _ _ _ _ _ (j7 GPr hr10 rfl mPr kPr bPr .nil k9 (@c5 _ _ _ _ _ (i9 9) (@c5 _ _ _ _ _ (i9 7) e6 w5) w5)) (@c5 _ _ _ _ _ (i9 8) e6 w5) V2))))))))))))))))))))))))))),?_⟩
 and_intros
 refine w6 (fun σ L=>∃ms c Y8,σ=[some (.ref a),some (.ref c),none,none,none,none,none,none,none,none,none,none,none,none,none,none,none,none,none,none,none,none]/\mw (-1) ms/\Ks ms/\l7 K L a (ns.map V.int)/\L c=some (.lst Y8)/\c8 L (ms.map EL) Y8) ?_ (fun N hN=> ?_)
 rotate_left
 ·simpa only[↓ZW,KU]
  exact⟨ns,hS,G1,fun ms c Y8 H1 V0 hF s1 hc0 hc hcD=>hN _ _ ⟨ms,c,Y8,rfl,V0,hF,s1.seq hS,hc,hcD⟩⟩
 rintro σ H0 ⟨ms,c,Y8,rfl,V0,hF,hS,hc,hcD⟩
 have HR:Y8.length=ms.length:=by have:=hcD.length;rwa [i4] at this
 have h10:=hF.1
 refine w6 (fun σ L=>∃mn:Int,σ=[some (.ref a),some (.ref c),some (.int mn),none,none,none,none,none,none,none,none,none,none,none,none,none,none,none,none,none,none,none]/\1<=mn/\mn<=4/\H0=L) ?_ (fun N hN=> ?_)
 rotate_left
 ·simpa only[↓ES,Be]
  exact⟨ns,hS,by decide,fun z=>⟨by decide,hN _ _ ⟨_,rfl,by omega,by omega,rfl⟩⟩⟩
 rintro σ _ ⟨mn,rfl,mn1,mn4,rfl⟩
 refine w6 (fun σ L=>∃(tp:Addr) (T5:List Int),σ=[some (.ref a),some (.ref c),some (.int mn),some (.ref tp),none,none,none,none,none,none,none,none,none,none,none,none,none,none,none,none,none,none]/\i6 H0 L/\L tp=some (.lst (T5.map V.int))/\T5.length=ms.length/\∀z∈T5,0<=z/\z<mn) ?_ (fun N hN=> ?_)
 rotate_left
 ·simpa only[↓ES,Be,↓CM,U3]
  exact⟨ns,hS,by decide,fun z=>⟨_, .inl (l7.of hc),by omega,by omega,by omega,by omega,fun r T5 H' s' hr0 hr' Xq Xr=>hN _ _ ⟨r,T5,rfl,s',hr',by omega,Xr⟩⟩⟩
 rintro σ H1 ⟨tp,T5,rfl,s1,htp,Xq,Xr⟩
 refine w6 (fun σ L=>∃(op:Addr) (outs:List Int),σ=[some (.ref a),some (.ref c),some (.int mn),some (.ref tp),some (.ref op),none,none,none,none,none,none,none,none,none,none,none,none,none,none,none,none,none]/\i6 H1 L/\L op=some (.lst (outs.map V.int))/\outs.length=ms.length) ?_ (fun N hN=> ?_)
 rotate_left
 ·simpa only[↓ES,Be,↓CM,U3]
  exact⟨ns,s1.seq hS,by decide,fun z=>⟨_, .inl (l7.of (s1 _ _ hc)),by omega,by omega,by decide,by decide,fun r T5 H' s' hr0 hr' Xq Xr=>hN _ _ ⟨r,T5,rfl,s',hr',by omega⟩⟩⟩
 rintro σ H2 ⟨op,outs,rfl,s2,hop,hol⟩
 refine w6 (fun σ L=>∃(de:Addr),σ=[some (.ref a),some (.ref c),some (.int mn),some (.ref tp),some (.ref op),some (.ref de),none,none,none,none,none,none,none,none,none,none,none,none,none,none,none,none]/\i6 H2 L/\H2 de=none/\L de=some (.lst [])) ?_ (fun N hN=> ?_)
 rotate_left
 ·simpa only[o9]
  exact⟨o8 _,fun p hp=>hN _ _ ⟨p,rfl,c7 hp _,hp,c6⟩⟩
 rintro σ H3 ⟨de,rfl,s3,hde0,hde⟩
 have s02:=s1.trans s2
 refine w6 (YW H2 a c tp op de mn ms T5 mn.toNat) ?_ (fun N hN=> ?_)
 rotate_left
 ·simpa only[o9]
  refine⟨by omega,by omega,FR (lo:=0) (YW H2 a c tp op de mn ms T5) ⟨none,[],rfl,s3,hde,rfl,fun i x hx=>(by simp at hx)⟩ ?_ ?_⟩
  ·rintro i σ L hi ⟨v6,RD,rfl,sL,hd,VZ⟩
   have hs:=s02.trans sL
   have e1:As ms T5 (i+1)=As ms T5 i++[UE ms T5 (0+i)]:=by unfold As;rw[List.range_succ,n6,NR];rfl
   have hi4:RD.length=i:=by have:=VZ.1;unfold As at this;rwa [i4,NK] at this
   simpa only[↓Xo]
   refine⟨.inl ⟨rfl,_,l7.of hd⟩,_,l7.of (hs _ _ hc),_,l7.of (sL _ _ (s2 _ _ htp)),Ri (G:=H2) rfl (hs _ _ hc) (c8.same s02 _ _ hcD) (sL _ _ (s2 _ _ htp)) Xq (by omega) fun p ys L' hp0 sL' Pm hyD=> ?_⟩
   have s5:=sL'.trans (c7 hp0 (.lst ys))
   have npd:p≠de:=fun e=>by rw[e,sL' _ _ hd] at hp0;cases hp0
   refine⟨RD,s5 _ _ hd,by omega,_,_,rfl,(sL.trans s5).newer hde0 _,c6,?_⟩
   rw[e1]
   have sx:∀{G:Hp},G de=none->i6 G L->i6 G (X6 de (i8 (i8 L' p (.lst ys)) de (.lst (RD++[.ref p])))):=fun h z=>Xw h ((z.trans s5).newer h _)
   refine(VZ.same (fun b u hb=>sx (G:=X6 de L) (by unfold X6;rw[if_pos rfl]) (Q8 _ _) b u hb)).snoc (xs:=ys) ?_ (c8.same (sx hde0 sL) _ _ hyD)
   unfold X6
   rw[if_neg npd,g9 npd,c6]
  ·exact fun σ L h=>hN _ _ h
 rintro σ H4 ⟨v6,RD,rfl,s4,hde,VZ⟩
 replace VZ:=VZ.same (Q8 _ _)
 have s04:=s02.trans s4
 have hPt:Part ms (As ms T5 mn.toNat):=NA V0 Xq (by omega)
 have hAll:∀m∈ms,m∈(As ms T5 mn.toNat).flatten:=fun m hm=>Rb Xq (fun z hz=>by have:=Xr z hz;omega) hm
 have hm4:(As ms T5 mn.toNat).length<=4:=by unfold As;rw[i4,NK];omega
 generalize As ms T5 mn.toNat=l9 at VZ hPt hAll hm4
 refine w6 (fun σ L=>∃(g:Addr) (gs:List Int),σ=[some (.ref a),some (.ref c),some (.int mn),some (.ref tp),some (.ref op),some (.ref de),v6,some (.ref g),none,none,none,none,none,none,none,none,none,none,none,none,none,none]/\i6 H4 L/\L g=some (.lst (gs.map V.int))/\gs.length<=22) ?_ (fun N hN=> ?_)
 rotate_left
 ·simpa only[↓Xo]
  refine⟨_,l7.of (s04 _ _ hc),_,l7.of (s4 _ _ hop),Rh (s04 _ _ hc) (c8.same s04 _ _ hcD) (s4 _ _ hop) hol (by omega) fun p zs L' hp0 sL' Pk=>⟨⟨by decide,by decide,by decide⟩,by decide,fun p1 hp1=>⟨_,rfl,_,w9 c6 hp1,_,c6,by rw[i4];simp only[List.length_cons,List.length_nil];omega,fun p2 hp2=>hN _ _ ⟨p2,zs++[10^Int.toNat 50,-1],rfl,((sL'.trans (c7 hp0 _)).trans (c7 hp1 _)).trans (c7 hp2 _),by rw[c6,n6];rfl,by rw[y9];simp only[List.length_cons,List.length_nil];omega⟩⟩⟩⟩
 rintro σ H5 ⟨g,gs,rfl,s5,hg,hgl⟩
 have s05:=s02.trans (s4.trans s5)
 refine w6 (fun σ L=>∃(lf:Addr) (YH:List V),σ=[some (.ref a),some (.ref c),some (.int mn),some (.ref tp),some (.ref op),some (.ref de),v6,some (.ref g),some (.ref lf),none,none,none,none,none,none,none,none,none,none,none,none,none]/\i6 H5 L/\L lf=some (.lst YH)/\c8 L ((ms.filter fun m=>decide (m.1∉gs)).map EL) YH) ?_ (fun N hN=> ?_)
 rotate_left
 ·simpa only[o9]
  exact⟨⟨_,l7.of (s05 _ _ hc)⟩,Rg rfl (s05 _ _ hc) (c8.same s05 _ _ hcD) hg (by omega) fun p ys hp0 hy=>hN _ _ ⟨p,ys,rfl,c7 hp0 _,c6,c8.same (c7 hp0 _) _ _ hy⟩⟩
 rintro σ H6 ⟨lf,YH,rfl,s6,hlf,hlD⟩
 have s46:=s5.trans s6
 refine w6 (fun σ L=>∃(p:Addr) (Ew:List V),σ=[some (.ref a),some (.ref c),some (.int mn),some (.ref tp),some (.ref op),some (.ref de),v6,some (.ref g),some (.ref lf),some (.ref p),none,none,none,none,none,none,none,none,none,none,none,none]/\i6 H6 L/\L p=some (.lst Ew)/\AY C L Ew l9) ?_ (fun N hN=> ?_)
 rotate_left
 ·simpa only[↓ZX,KY]
  exact⟨RD,s46 _ _ hde,l9,VZ.same s46,hPt.ok hF V0,fun r xs H' z1 z2 z3=>hN _ _ ⟨r,xs,rfl,z1,z2,z3⟩⟩
 rintro σ H7 ⟨p,Ew,rfl,s7,hp,AX⟩
 have s57:=s6.trans s7
 refine w6 (fun σ L=>∃(kp:Addr),σ=[some (.ref a),some (.ref c),some (.int mn),some (.ref tp),some (.ref op),some (.ref de),v6,some (.ref g),some (.ref lf),some (.ref p),some (.ref kp),none,none,none,none,none,none,none,none,none,none,none]/\i6 H7 L/\L kp=some (.lst (gs.map V.int))) ?_ (fun N hN=> ?_)
 rotate_left
 ·simpa only[o9]
  exact⟨_, .inl (l7.of (s57 _ _ hg)),fun l hl=>hN _ _ ⟨l,rfl,c7 hl _,c6⟩⟩
 rintro σ H8 ⟨kp,rfl,s8,Xu⟩
 have s58:=s57.trans s8
 have elf:=FD (gs:=gs) hAll
 generalize O2:(ms.filter fun m=>decide (m.1∉gs))=left at hlD elf
 refine w6 (fun σ L=>∃(wh:Addr),σ=[some (.ref a),some (.ref c),some (.int mn),some (.ref tp),some (.ref op),some (.ref de),v6,some (.ref g),some (.ref lf),some (.ref p),some (.ref kp),some (.ref wh),none,none,none,none,none,none,none,none,none,none]/\i6 H8 L/\W4 C L wh left) ?_ (fun N hN=> ?_)
 rotate_left
 ·simpa only[↓Hu,GP]
  refine⟨Ew,s8 _ _ hp,ms,l9,AX.same s8,hF,V0,hPt,gs,s58 _ _ hg,by omega,fun x H' z1 z2=>hN _ _ ⟨x,rfl,z2,?_⟩⟩
  rw[<-elf]
  exact z1
 rintro σ H9 ⟨wh,rfl,s9,Zf⟩
 have s79:=s8.trans s9
 have s69:=s7.trans s79
 have s59:=s6.trans s69
 have s09:=s05.trans s59
 have hS9:=s09.seq hS
 have hc9:=s09 _ _ hc
 have hcD9:=c8.same s09 _ _ hcD
 have hg9:=s59 _ _ hg
 have hl9:=s69 _ _ hlf
 have hlD9:=c8.same s69 _ _ hlD
 have hde9:=(s46.trans (s7.trans s79)) _ _ hde
 have hdl9:=VZ.same (s46.trans (s7.trans s79))
 have hp9:=s79 _ _ hp
 have Hb:=AX.same s79
 have hkp9:=s9 _ _ Xu
 have GZ:left.Sublist ms:=by rw[<-O2];exact Gi
 have Xt:=Bj GZ V0
 have hlF:=Fd GZ hF.mk
 have hh:0<=mn/2:=by omega
 have hAllR:∀m∈ms,m∈l9.reverse.flatten:=fun m hm=>by
  obtain⟨l,h1,h2⟩:=Cq.mp (hAll m hm)
  exact Cq.mpr ⟨l,JW.mpr h1,h2⟩
 clear s1 s2 s3 s4 s5 s6 s7 s8 s9 s02 s04 s05 s46 s57 s58 s79 s69 s59 s09 hS hc hcD hg hlf hlD hde VZ hp AX Xu htp Xr hop hde0
 refine w6 (fun σ L=>σ=[some (.ref a),some (.ref c),some (.int mn),some (.ref tp),some (.ref op),some (.ref de),v6,some (.ref g),some (.ref lf),some (.ref p),some (.ref kp),some (.ref wh),none,none,none,none,none,none,none,none,none,none]/\i6 H9 L) ?_ (fun N hN=> ?_)
 rotate_left
 ·simpa only[↓KZ,IH,↓Hu,GP]
  refine⟨left,Zf,YH,hl9,hlD9,hlF,Xt,fun L1 s1=>AG rfl ⟨_,Nz gs,k7.deep _ _ (K6 (s1 _ _ hg9) (c8.ints _)),k7.deep _ _ (K6 (s1 _ _ hkp9) (c8.ints _)),o8 _,fun p1 hp1=>⟨[],c6,ms,[],AY.nil,hF,V0,⟨o8 _,fun l h=>(by cases h),Ai⟩,gs,w9 (s1 _ _ hg9) hp1,by omega,fun x L2 hx s2=>⟨o8 _,fun p2 hp2=>⟨[],?_,[],c6,c8.nil,⟨o8 _,fun m h=>(by cases h)⟩,trivial,fun L3 s3=>AG rfl (hN _ _ ⟨rfl,((s1.trans (c7 hp1 _)).trans s2).trans ((c7 hp2 _).trans s3)⟩)⟩⟩⟩⟩⟩
  rw[Tj] at hx
  exact hx.same (c7 hp2 _)
 rintro σ L11 ⟨rfl,s11⟩
 refine w6 (fun σ L=>∃bk:Addr,σ=[some (.ref a),some (.ref c),some (.int mn),some (.ref tp),some (.ref op),some (.ref de),v6,some (.ref g),some (.ref lf),some (.ref p),some (.ref kp),some (.ref wh),some (.ref bk),none,none,none,none,none,none,none,none,none]/\i6 H9 L/\L bk=some (.lst Ew.reverse)) ?_ (fun N hN=> ?_)
 rotate_left
 ·simpa only[↓Qcr]
  refine⟨Ew,l7.of (s11 _ _ hp9),Rk (Qcb Ew L11) ⟨none,rfl,rfl,rfl⟩ ?_ ?_ ?_⟩
  ·rintro i ys σ L hi ⟨v0,rfl,rfl,rfl⟩
   have:=Hb.1
   have:=hPt.few
   exact⟨l7.of (s11 _ _ hp9),by rw[A4,DP];omega⟩
  ·rintro i x ys σ L hi hx ⟨v0,rfl,rfl,rfl⟩
   simpa only[o9]
   refine⟨_,rfl,rfl,?_⟩
   rw[x6,NJ hi,hx]
   rfl
  ·rintro ys σ L ⟨v0,rfl,rfl,rfl⟩ p' hp'
   rw[Ed (by rw[DP];exact l8 _)]
   exact hN _ _ ⟨p',rfl,s11.trans (c7 hp' _),c6⟩
 rintro σ L12 ⟨bk,rfl,s12,hbk⟩
 refine w6 (fun σ L=>∃tw:Addr,σ=ML a c mn tp op de v6 g lf p kp wh bk tw [none,none,none,none,none,none,none,none]/\i6 L12 L/\W4 C L tw ms) ?_ (fun N hN=> ?_)
 rotate_left
 ·simpa only[↓Hu,GP]
  refine⟨⟨by decide,by decide⟩,_,l7.of hbk,fun p1 hp1=>⟨o8 _,fun p2 hp2=> ?_⟩⟩
  rw[NB hh] at hp2⊢
  have s1:=(c7 hp1 (.lst (Ew.reverse.take (mn/2).toNat))).trans (c7 hp2 (.lst []))
  refine⟨_,w9 c6 hp2,ms,l9.reverse.take (mn/2).toNat,(Hb.same (s12.trans s1)).rev.tk _,hF,V0,hPt.rev.cut (UQ _ _),[],c6,by decide,fun x1 L1 hx1 sL1=>⟨⟨by decide,by decide⟩,_,l7.of ((s1.trans sL1) _ _ hbk),fun p3 hp3=>⟨o8 _,fun p4 hp4=> ?_⟩⟩⟩
  rw[FZ hh] at hp4⊢
  have s2:=(c7 hp3 (.lst (Ew.reverse.drop (mn/2).toNat))).trans (c7 hp4 (.lst []))
  have sA:=s12.trans (s1.trans (sL1.trans s2))
  refine⟨_,w9 c6 hp4,ms,l9.reverse.drop (mn/2).toNat,(Hb.same sA).rev.dr _,hF,V0,hPt.rev.cut (Bs _ _),[],c6,by decide,fun x2 L2 hx2 sL2=>⟨by omega,fun p5 hp5=>⟨o8 _,fun p6 hp6=> ?_⟩⟩⟩
  have s3:=(c7 hp5 (.lst [.ref x1, .ref x2])).trans (c7 hp6 (.lst []))
  refine⟨_,w9 c6 hp6,ms,[pk ms (l9.reverse.take (mn/2).toNat) [],pk ms (l9.reverse.drop (mn/2).toNat) []],(AY.one (hx1.same (s2.trans (sL2.trans s3)))).app (AY.one (hx2.same s3)),hF,V0,hPt.rev.two _ V0,[],c6,by decide,fun x3 L3 hx3 sL3=>hN _ _ ⟨x3,rfl,s1.trans (sL1.trans (s2.trans (sL2.trans (s3.trans sL3)))),?_⟩⟩
  rw[Qaz hAllR] at hx3
  exact hx3
 rintro σ L13 ⟨tw,rfl,s13,htw⟩
 refine w6 (fun σ L=>σ=ML a c mn tp op de v6 g lf p kp wh bk tw [none,none,none,none,none,none,none,none]/\i6 H9 L) ?_ (fun N hN=> ?_)
 rotate_left
 ·simpa only[↓KZ,IH,↓Hu,GP]
  have sA:=s12.trans s13
  refine⟨_,s13 _ _ hbk,ms,l9.reverse,(Hb.same sA).rev,hF,V0,hPt.rev,gs,sA _ _ hg9,by omega,fun x L1 hx s1=>⟨left,by rw[FD hAllR,O2] at hx;exact hx,YH,(sA.trans s1) _ _ hl9,c8.same (sA.trans s1) _ _ hlD9,hlF,Xt,fun L2 s2=>AG rfl ?_⟩⟩
  have sB:=sA.trans (s1.trans s2)
  refine⟨ms,htw.same (s1.trans s2),Y8,sB _ _ hc9,c8.same sB _ _ hcD9,hF.mk,V0,fun L3 s3=>AG rfl ⟨by omega,fun p1 hp1=> ?_⟩⟩
  have s4:=s3.trans (c7 hp1 (.lst [.ref tw]))
  have sC:=sB.trans s4
  refine⟨_,c6,ms,[ms],AY.one (htw.same (s1.trans (s2.trans s4))),hF,V0,Part.one V0 (JI _),gs,sC _ _ hg9,by omega,fun x' L4 hx' s5=>⟨left,?_,YH,(sC.trans s5) _ _ hl9,c8.same (sC.trans s5) _ _ hlD9,hlF,Xt,fun L5 s6=>AG rfl (hN _ _ ⟨rfl,sC.trans (s5.trans s6)⟩)⟩⟩
  rw[FD (fun m hm=>by rw[Co];exact hm),O2] at hx'
  exact hx'
 rintro σ L14 ⟨rfl,s14⟩
 refine w6 (fun σ L=>σ=ML a c mn tp op de v6 g lf p kp wh bk tw [none,none,none,none,none,none,none,none]/\i6 H9 L) ?_ (fun N hN=> ?_)
 rotate_left
 ·simpa only[↓KZ,IH,↓Hu,GP]
  have c2:∀xs,Dg xs none (some 2)=xs.take 2:=fun xs=>NB (a:=2) (by decide)
  have c1:∀xs,Dg xs none (some 1)=xs.take 1:=fun xs=>NB (a:=1) (by decide)
  have d2:∀xs,Dg xs (some 2) none=xs.drop 2:=fun xs=>FZ (a:=2) (by decide)
  simp only[c2,c1,d2]
  refine⟨_,l7.of (s14 _ _ hg9),fun p1 hp1=> ?_⟩
  rw[<-NP]
  have s1:=s14.trans (c7 hp1 (.lst ((gs.take 2).map V.int)))
  refine⟨_,s1 _ _ hp9,ms,l9,Hb.same s1,hF,V0,hPt,gs.take 2,c6,by rw[A4];omega,fun x L1 hx sL1=>⟨by omega,fun p2 hp2=> ?_⟩⟩
  have s2:=c7 hp2 (.lst [.ref x])
  have sA:=s1.trans (sL1.trans s2)
  refine⟨_,l7.of (sA _ _ hg9),fun p3 hp3=>⟨_,l7.of ((sA.trans (c7 hp3 _)) _ _ hg9),fun p4 hp4=> ?_⟩⟩
  rw[<-JK] at hp4⊢
  rw[<-NP]
  refine⟨_,w9 c6 hp4,_,c6,by rw[i4,i4,AQ,A4];omega,fun p5 hp5=> ?_⟩
  have s3:=((c7 hp3 (.lst ((gs.drop 2).map V.int))).trans (c7 hp4 (.lst ((gs.take 1).map V.int)))).trans (c7 hp5 (.lst ((gs.drop 2).map V.int++(gs.take 1).map V.int)))
  rw[FD hAll] at hx
  refine⟨_,s3 _ _ c6,ms,[_],AY.one (hx.same (s2.trans s3)),hF,V0,Part.one V0 Gi,gs.drop 2++gs.take 1,by rw[c6,n6],by rw[y9,AQ,A4];omega,fun x' L2 hx' sL2=> ?_⟩
  have sB:=sA.trans (s3.trans sL2)
  refine⟨left,?_,YH,sB _ _ hl9,c8.same sB _ _ hlD9,hlF,Xt,fun L3 sL3=>AG rfl (hN _ _ ⟨rfl,sB.trans sL3⟩)⟩
  rw[WG V0,O2] at hx'
  exact hx'
 rintro σ L15 ⟨rfl,s15⟩
 refine w6 (fun σ L=>∃v14 v15 v16 v17:Option V,σ=ML a c mn tp op de v6 g lf p kp wh bk tw [v14,v15,v16,v17,none,none,none,none]/\i6 H9 L) ?_ (fun N hN=> ?_)
 rotate_left
 ·obtain⟨dx,fs,hx,TM,lk2,lk3,_,_⟩:=Zf.ins
  have hsz:=MC hlF
  simpa only[↓Sw,IG,↓O5]
  refine⟨dx,fs,s15 _ _ hx,TM,left,Zf.same s15,E7 hsz.1 (by decide),fun r1 ys1 H1 s1 hr1' p1 o1 hv1=> ?_⟩
  refine⟨⟨_,l7.of hv1⟩,w4 (ys1.map V.str) (fun _ σ L=>∃v14 v15 v16 v17:Option V,σ=ML a c mn tp op de v6 g lf p kp wh bk tw [v14,v15,v16,v17,none,none,none,none]/\i6 H1 L) ⟨_,_,_,_,rfl,i6.refl _⟩ ?_ ?_ ?_⟩
  ·rintro i σ L hi ⟨v14,v15,v16,v17,rfl,sL⟩
   exact l7.of (sL _ _ hv1)
  ·rintro i y σ L hy ⟨v14,v15,v16,v17,rfl,sL⟩
   rw[u8] at hy
   obtain⟨fl,_,rfl⟩:=o7.mp hy
   have sA:=s15.trans (s1.trans sL)
   have hzw:(Z0 left fl).length<=400000:=(hsz.at_ (f:=fl)).1
   simpa only[↓Su,IE,↓O5]
   refine⟨dx,fs,sA _ _ hx,lk2,left,Zf.same sA,by omega,fun r4 ys4 H4 s4 hr4 p4 o4 hv4=> ?_⟩
   refine⟨⟨_,l7.of hv4⟩,w4 (ys4.map V.str) (fun _ σ L=>∃v15 v16 v17:Option V,σ=ML a c mn tp op de v6 g lf p kp wh bk tw [some (.str fl),v15,v16,v17,none,none,none,none]/\i6 H4 L) ⟨_,_,_,rfl,i6.refl _⟩ ?_ ?_ ?_⟩
   ·rintro j σ L6 hj ⟨v15,v16,v17,rfl,sL6⟩
    exact l7.of (sL6 _ _ hv4)
   ·rintro j y σ L6 hy ⟨v15,v16,v17,rfl,sL6⟩
    rw[u8] at hy
    obtain⟨wd,_,rfl⟩:=o7.mp hy
    have sB:=sA.trans (s4.trans sL6)
    have Pn:=IM hlF Xt fl wd
    simpa only[↓Sv,IF,↓O5]
    refine⟨dx,fs,sB _ _ hx,lk3,left,Zf.same sB,(by have:=Pn.few;omega),fun Bc GK N' s6 hto Ub VY=> ?_⟩
    have Xq:GK.length=(u0 left fl wd).length:=by have:=VY.length;rwa [i4] at this
    have tl0:TL L6 Bc GK (1000+0) N':=by
     refine⟨s6,Ub,fun v hv=> ?_⟩
     obtain⟨k,hk⟩:=BA.mp hv
     obtain⟨dv,g1,g2⟩:=VY.get hk
     rw[u8] at g1
     obtain⟨qq,hq,rfl⟩:=o7.mp g1
     obtain⟨a',b',rfl,ha',hb'⟩:=DN g2
     have Fb:=Pn.pl qq (E8 hq)
     have nt:b'≠Bc:=fun e=>by rw[e] at hb';unfold X6 at hb';rw[if_pos rfl] at hb';cases hb'
     have hb2:=Q8 _ _ _ _ hb'
     refine⟨a',b',qq.1,_,rfl,Z6 _ _ (Q8 _ _ _ _ ha'),G2 fun e=> ?_,nt,Z6 _ _ hb2,by rw[i4];exact Fb⟩
     rw[IZ e] at hb2
     cases hb2
    refine⟨⟨_,l7.of Ub⟩,w4 GK (fun k σ L=>∃v16 v17:Option V,σ=ML a c mn tp op de v6 g lf p kp wh bk tw [some (.str fl),some (.str wd),v16,v17,none,none,none,none]/\TL L6 Bc GK (1000+k) L) ⟨_,_,rfl,tl0⟩ ?_ ?_ ?_⟩
    ·rintro k σ L7 hk ⟨v16,v17,rfl,tl⟩
     exact l7.of tl.2.1
    ·rintro k y σ L7 hy ⟨v16,v17,rfl,tl⟩
     obtain⟨a',b',m,ps,rfl,h1,h2,h3,h4,h5⟩:=tl.2.2 y (E8 hy)
     have hkl:=(u4.mp hy).1
     have:=Pn.few
     simpa only[o9]
     refine⟨_,W3.of h1,rfl,?_⟩
     simpa only[o9]
     exact⟨.inl ⟨rfl,_,l7.of h4⟩,_,h4,by omega,tl.step h2 h3 h4 h5 _⟩
    ·rintro σ L7 ⟨v16,v17,rfl,tl⟩
     exact⟨_,_,_,rfl,sL6.trans tl.1⟩
   ·rintro σ L6 ⟨v15,v16,v17,rfl,sL6⟩
    exact⟨_,_,_,_,rfl,sL.trans (s4.trans sL6)⟩
  ·rintro σ L ⟨v14,v15,v16,v17,rfl,sL⟩
   exact hN _ _ ⟨_,_,_,_,rfl,s15.trans (s1.trans sL)⟩
 rintro σ L16 ⟨v14,v15,v16,v17,rfl,s16⟩
 refine w6 (fun σ L=>σ=ML a c mn tp op de v6 g lf p kp wh bk tw [v14,v15,v16,v17,none,none,none,none]/\i6 H9 L) ?_ (fun N hN=> ?_)
 rotate_left
 ·obtain⟨dx,fs,hx,_,_,_,_,lk5⟩:=Zf.ins
  simpa only[↓KS,Dx,↓O5]
  have:=hlF.1
  exact⟨dx,fs,s16 _ _ hx,lk5,left,Zf.same s16,fun r1 H1 s1 hr1' hv1=>⟨.inl ⟨rfl,_,l7.of hv1⟩,_,hv1,by rw[i4];omega,hN _ _ ⟨rfl,(s16.trans s1).newer (s16.free hr1') _⟩⟩⟩
 rintro σ L17 ⟨rfl,s17⟩
 refine w6 (fun σ L=>∃v18 v19:Option V,σ=ML a c mn tp op de v6 g lf p kp wh bk tw [v14,v15,v16,v17,v18,v19,none,none]/\i6 H9 L) ?_ (fun N hN=> ?_)
 rotate_left
 ·simpa only[↓Xo]
  have hl1:=Hb.1
  have hl2:=hdl9.1
  have hl3:=hPt.few
  refine⟨by omega,fun p1 hp1=> ?_⟩
  have s1:=c7 hp1 (.lst [.ref wh])
  refine⟨_,s1 _ _ (s17 _ _ hp9),_,c6,by simp only[List.length_cons,List.length_nil];omega,fun p2 hp2=>⟨by omega,fun p3 hp3=> ?_⟩⟩
  have s3:=(s1.trans (c7 hp2 (.lst (Ew++[.ref wh])))).trans (c7 hp3 (.lst [.ref lf]))
  refine⟨_,s3 _ _ (s17 _ _ hde9),_,c6,by simp only[List.length_cons,List.length_nil];omega,fun p4 hp4=> ?_⟩
  have s4:=s17.trans (s3.trans (c7 hp4 (.lst (RD++[.ref lf]))))
  have hv2:(i8 (i8 (i8 (i8 L17 p1 (.lst [.ref wh])) p2 (.lst (Ew++[.ref wh]))) p3 (.lst [.ref lf])) p4 (.lst (RD++[.ref lf]))) p2=_:=w9 (w9 c6 hp3) hp4
  have hv4:(i8 (i8 (i8 (i8 L17 p1 (.lst [.ref wh])) p2 (.lst (Ew++[.ref wh]))) p3 (.lst [.ref lf])) p4 (.lst (RD++[.ref lf]))) p4=_:=c6
  generalize i8 (i8 (i8 (i8 L17 p1 (.lst [.ref wh])) p2 (.lst (Ew++[.ref wh]))) p3 (.lst [.ref lf])) p4 (.lst (RD++[.ref lf]))=M at s4 hv2 hv4⊢
  refine⟨_,l7.of hv2,_,l7.of hv4,Ut (by rw[y9,y9,hl1,hl2];rfl) (fun _ σ L=>∃v18 v19:Option V,σ=ML a c mn tp op de v6 g lf p kp wh bk tw [v14,v15,v16,v17,v18,v19,none,none]/\i6 M L) ⟨_,_,rfl,i6.refl _⟩ ?_ ?_ ?_⟩
  ·rintro i σ L hi ⟨v18,v19,rfl,sL⟩
   exact⟨l7.of (sL _ _ hv2),l7.of (sL _ _ hv4)⟩
  ·rintro i x y U σ L hx' hy' ⟨v18,v19,rfl,sL⟩ hU
   obtain⟨p',ms',rfl,e1,hpc'⟩:=(Hb.app (AY.one Zf)).2 i x hx'
   obtain⟨b,xs,ms2,rfl,e2,hb,hD⟩:=(hdl9.snoc hl9 hlD9).2 i y hy'
   rw[e1] at e2
   cases e2
   have hok:Z8 ms'/\mw (-1) ms':=(D8.mp (E8 e1)).elim (fun h=>(hPt.ok hF V0).2 _ h) (fun h=>by rw[x8.mp h];exact⟨hlF,Xt⟩)
   have s5:=c7 hU (.tup [.ref p', .ref b])
   have sA:=s4.trans (sL.trans s5)
   simpa only[o9]
   refine⟨_,W3.of c6,rfl,?_⟩
   simpa only[↓KZ,IH]
   exact⟨ms',hpc'.same sA,xs,sA _ _ hb,c8.same sA _ _ hD,hok.1,hok.2,fun L' s'=>AG rfl (sL.trans (s5.trans s'))⟩
  ·rintro σ L ⟨v18,v19,rfl,sL⟩
   exact hN _ _ ⟨_,_,rfl,s4.trans sL⟩
 rintro σ L18 ⟨v18,v19,rfl,s18⟩
 refine w6 (fun σ L=>σ=ML a c mn tp op de v6 g lf p kp wh bk tw [v14,v15,v16,v17,v18,v19,none,none]/\i6 H9 L/\ms≠[]) ?_ (fun N hN=> ?_)
 rotate_left
 ·simpa only[o9]
  refine⟨o8 _,fun p1 hp1=>⟨Y8,l7.of (w9 (s18 _ _ hc9) hp1),l7.of c6,?_⟩⟩
  by_cases e:ms=[]
  ·have e2:Y8=[]:=Cs (by rw[HR,e];rfl)
   exact QJ (by rw[e2];rfl) (q _)
  ·exact AG (List.isEmpty_eq_false_iff.mpr fun z=>e (Cs (by rw[<-HR,z];rfl))) (hN _ _ ⟨rfl,s18.trans (c7 hp1 _),e⟩)
 rintro σ L19 ⟨rfl,s19,Np⟩
 refine w6 (fun σ L=>∃(k:Nat) (x:Mk),σ=ML a c mn tp op de v6 g lf p kp wh bk tw [v14,v15,v16,v17,v18,v19,some (.int (k:Int)),none]/\L19=L/\ms[k]? =some x) ?_ (fun N hN=> ?_)
 rotate_left
 ·simpa only[↓ES,Be]
  have hpos:0<ms.length:=List.length_pos_iff.mpr Np
  refine⟨ns,s19.seq hS9,by decide,fun z=>⟨Y8, .inl (l7.of (s19 _ _ hc9)),by omega,?_⟩⟩
  have h1:=DW z (b:=(Y8.length:Int)) (by omega)
  have h2:=DU z (b:=(Y8.length:Int)) (by omega)
  exact hN _ _ ⟨(z % (Y8.length:Int)).toNat,ms[(z % (Y8.length:Int)).toNat]'(by omega),by rw[UU h1],rfl,E5 _⟩
 rintro σ L20 ⟨k,x,rfl,rfl,hk⟩
 refine w6 (fun σ L=>∃co:Addr,σ=ML a c mn tp op de v6 g lf p kp wh bk tw [v14,v15,v16,v17,v18,v19,some (.int (k:Int)),some (.ref co)]/\i6 H9 L/\W4 C L co (ms.drop k)) ?_ (fun N hN=> ?_)
 rotate_left
 ·simpa only[↓ME,↓II,AB]
  refine⟨Y8,l7.of (s19 _ _ hc9),fun p1 hp1 x' dx0 hx0 LI hne'=> ?_⟩
  have e:Dg Y8 (some (k:Int)) none=Y8.drop k:=by rw[FZ (Int.natCast_nonneg k),Md]
  rw[e] at hx0 LI⊢
  have s1:=s19.trans (c7 hp1 (.lst (Y8.drop k)))
  have hpv:(i8 L19 p1 (.lst (Y8.drop k))) p1=_:=c6
  generalize i8 L19 p1 (.lst (Y8.drop k))=G at hx0 LI s1 hpv⊢
  have hD':=(c8.same s1 _ _ hcD9).drop k
  rw[<-JK] at hD'
  exact⟨G,((i6.refl G).newer LI _).newer hx0 _,hx0,dx0,c6,ms.drop k,Y8.drop k,hpv,hD',Fd (Bs _ _) hF.mk,Bj (Bs _ _) V0,fun M H' z1 z2 z3 z4=>hN _ _ ⟨x',rfl,s1.trans z4,z1.same z2⟩⟩
 rintro σ L21 ⟨co,rfl,s21,hco⟩
 refine w6 (fun σ L=>∃v19:Option V,σ=ML a c mn tp op de v6 g lf p kp wh bk tw [v14,v15,v16,v17,v18,v19,some (.int (k:Int)),some (.ref co)]/\i6 H9 L) ?_ (fun N hN=> ?_)
 rotate_left
 ·simpa only[o9]
  refine⟨o8 _,fun p1 hp1=> ?_⟩
  have sA:=s21.trans (c7 hp1 (.lst []))
  obtain⟨y,hy,hyD⟩:=hcD9.get' (i:=k) (d:=EL x) (by rw[u8,hk];rfl)
  obtain⟨b,d,us,rfl,hb,hd,hu⟩:=Ad hyD
  have hkl:=(u4.mp hy).1
  have hat:PJ Y8 (k:Int)=some (.ref b):=by
   obtain⟨v,hv,hv'⟩:=Gc (xs:=Y8) (k:=(k:Int)) (by omega) (by omega)
   rw[Md,hy] at hv'
   cases hv'
   exact hv
  refine⟨Y8,l7.of (sA _ _ hc9),_,hat,_,rfl,_,W3.of (sA _ _ hb),_,rfl,by omega,fun p3 hp3=> ?_⟩
  have sB:=sA.trans (c7 hp3 (.lst [.int x.1]))
  refine⟨⟨_,l7.of (sB _ _ hc9)⟩,LX (sB _ _ hc9) (c8.same sB _ _ hcD9) (by omega) fun p4 hp4=>⟨_,rfl,_,(sB.trans (c7 hp4 _)) _ _ hg9,_,c6,by rw[i4,i4];omega,fun p5 hp5=>⟨by omega,fun p6 hp6=>⟨⟨_,l7.of c6⟩,?_⟩⟩⟩⟩
  have eI:(ms.map fun m=>V.int m.1)=(ms.map (·.1)).map V.int:=by rw[N7];rfl
  rw[eI,<-n6] at hp6⊢
  rw[eI] at hp5
  have s6:=((c7 hp4 (.lst ((ms.map (·.1)).map V.int))).trans (c7 hp5 (.lst ((gs++ms.map (·.1)).map V.int)))).trans (c7 hp6 (.lst [.ref p1, .ref p3, .ref p5]))
  have sC:=s21.trans ((c7 hp1 (.lst [])).trans ((c7 hp3 (.lst [.int x.1])).trans s6))
  have QO:∀y∈[V.ref p1, .ref p3, .ref p5],∃(q:Addr) (zs:List Int),y= .ref q/\(i8 (i8 (i8 (i8 (i8 L21 p1 (.lst [])) p3 (.lst [.int x.1])) p4 (.lst ((ms.map (·.1)).map V.int))) p5 (.lst ((gs++ms.map (·.1)).map V.int))) p6 (.lst [.ref p1, .ref p3, .ref p5])) q=some (.lst (zs.map V.int))/\zs.length<=1000:=fun y hy=>by
   simp only[C8,Bx,Kb] at hy
   rcases hy with rfl|rfl|rfl
   ·exact⟨p1,[],rfl,s6 _ _ (w9 c6 hp3),by decide⟩
   ·exact⟨p3,[x.1],rfl,s6 _ _ c6,by show 1<=1000;decide⟩
   ·exact⟨p5,gs++ms.map (·.1),rfl,w9 c6 hp6,by rw[y9,i4];omega⟩
  have hv6:(i8 (i8 (i8 (i8 (i8 L21 p1 (.lst [])) p3 (.lst [.int x.1])) p4 (.lst ((ms.map (·.1)).map V.int))) p5 (.lst ((gs++ms.map (·.1)).map V.int))) p6 (.lst [.ref p1, .ref p3, .ref p5])) p6=_:=c6
  have hco6:=hco.same ((c7 hp1 (.lst [])).trans ((c7 hp3 (.lst [.int x.1])).trans s6))
  generalize i8 (i8 (i8 (i8 (i8 L21 p1 (.lst [])) p3 (.lst [.int x.1])) p4 (.lst ((ms.map (·.1)).map V.int))) p5 (.lst ((gs++ms.map (·.1)).map V.int))) p6 (.lst [.ref p1, .ref p3, .ref p5])=M at sC QO hv6 hco6⊢
  refine w4 [.ref p1, .ref p3, .ref p5] (fun _ σ L=>∃v19:Option V,σ=ML a c mn tp op de v6 g lf p kp wh bk tw [v14,v15,v16,v17,v18,v19,some (.int (k:Int)),some (.ref co)]/\i6 M L) ⟨_,rfl,i6.refl _⟩ ?_ ?_ ?_
  ·rintro i σ L hi ⟨v19,rfl,sL⟩
   exact l7.of (sL _ _ hv6)
  ·rintro i y σ L hy ⟨v19,rfl,sL⟩
   obtain⟨q1,zs,rfl,hq1,Pk⟩:=QO y (E8 hy)
   have sD:=sC.trans sL
   have hl1:=Hb.1
   simpa only[o9]
   refine⟨by omega,fun r1 hr1=> ?_⟩
   have t1:=c7 hr1 (.lst [.ref co])
   refine⟨_,t1 _ _ (sD _ _ hp9),_,c6,by simp only[List.length_cons,List.length_nil];omega,fun r2 hr2=>⟨by omega,fun r3 hr3=> ?_⟩⟩
   have t3:=(t1.trans (c7 hr2 (.lst (Ew++[.ref co])))).trans (c7 hr3 (.lst [.ref co]))
   refine⟨_,c6,_,t3 _ _ (sD _ _ hp9),by simp only[List.length_cons,List.length_nil];omega,fun r4 hr4=>⟨by omega,fun r5 hr5=>⟨⟨_,l7.of c6⟩,?_⟩⟩⟩
   have t5:=(t3.trans (c7 hr4 (.lst ([.ref co]++Ew)))).trans (c7 hr5 (.lst [.ref r2, .ref r4]))
   have hv2:(i8 (i8 (i8 (i8 (i8 L r1 (.lst [.ref co])) r2 (.lst (Ew++[.ref co]))) r3 (.lst [.ref co])) r4 (.lst ([.ref co]++Ew))) r5 (.lst [.ref r2, .ref r4])) r2=_:=w9 (w9 (w9 c6 hr3) hr4) hr5
   have hv4:(i8 (i8 (i8 (i8 (i8 L r1 (.lst [.ref co])) r2 (.lst (Ew++[.ref co]))) r3 (.lst [.ref co])) r4 (.lst ([.ref co]++Ew))) r5 (.lst [.ref r2, .ref r4])) r4=_:=w9 c6 hr5
   have hv5:(i8 (i8 (i8 (i8 (i8 L r1 (.lst [.ref co])) r2 (.lst (Ew++[.ref co]))) r3 (.lst [.ref co])) r4 (.lst ([.ref co]++Ew))) r5 (.lst [.ref r2, .ref r4])) r5=_:=c6
   generalize i8 (i8 (i8 (i8 (i8 L r1 (.lst [.ref co])) r2 (.lst (Ew++[.ref co]))) r3 (.lst [.ref co])) r4 (.lst ([.ref co]++Ew))) r5 (.lst [.ref r2, .ref r4])=M2 at t5 hv2 hv4 hv5⊢
   have sE:=sD.trans t5
   have h2:=AY.one (hco6.same (sL.trans t5))
   have h1:=Hb.same sE
   have hq2:=(sL.trans t5) _ _ hq1
   have hokD:Z8 (ms.drop k)/\mw (-1) (ms.drop k):=⟨Fd (Bs _ _) hF.mk,Bj (Bs _ _) V0⟩
   have hokP:=(hPt.ok hF V0).2
   have hd:=QY V0 hPt hAll hk
   refine C0 [.ref r2, .ref r4] (Qca M2 q1 x.1) ⟨none,rfl,i6.refl _,rfl⟩ ?_ ?_ ?_
   ·rintro i ys σ L' hi ⟨v0,rfl,s',rfl⟩
    have hi2:i<=2:=hi
    exact⟨l7.of (s' _ _ hv5),by rw[Zm];omega⟩
   ·rintro i y ys σ L' hy ⟨v0,rfl,s',rfl⟩
    have X5:∃(r:Addr) (rxs:List V) (mss':List (List Mk)),y= .ref r/\M2 r=some (.lst rxs)/\AY C M2 rxs mss'/\Ml mss'/\x.1∈K5 [] (mss'.flatten.map (·.1))/\∀m∈K5 [] (mss'.flatten.map (·.1)),x.1<=m:=by
     have hy:=E8 hy
     simp only[C8,Bx,Kb] at hy
     rcases hy with rfl|rfl
     ·exact⟨r2,_,l9++[ms.drop k],rfl,hv2,h1.app h2,⟨by rw[y9,G3];omega,fun l hl=>(D8.mp hl).elim (hokP l) fun z=>by rw[x8.mp z];exact hokD⟩,hd.1.1,hd.1.2⟩
     ·exact⟨r4,_,[ms.drop k]++l9,rfl,hv4,h2.app h1,⟨by rw[y9,G3];omega,fun l hl=>(D8.mp hl).elim (fun z=>by rw[x8.mp z];exact hokD) (hokP l)⟩,hd.2.1,hd.2.2⟩
    obtain⟨r,rxs,mss',rfl,g1,g2,g3,g4,g5⟩:=X5
    simpa only[↓Qaa,Lc]
    exact⟨rxs,s' _ _ g1,mss',g2.same s',g3,zs,s' _ _ hq2,Pk,x.1,g4,g5,fun H' s''=>⟨_,rfl,s'.trans s'',List.replicate_succ'.symm⟩⟩
   ·rintro ys σ L' ⟨v0,rfl,s',rfl⟩ p7 hp7
    have sF:=sE.trans (s'.trans (c7 hp7 (.lst (List.replicate 2 (.int x.1)))))
    refine⟨Y8,l7.of (sF _ _ hc9),_,hat,_,rfl,_,W3.of (sF _ _ hb),_,rfl,by omega,fun r8 hr8=> ?_⟩
    refine⟨r8,2,[.int x.1],rfl,rfl,c6,by decide,by decide,by show 1*2<=_;omega,fun r9 hr9=> ?_⟩
    exact⟨[x.1,x.1].map DV.int,Nz _,k7.deep _ _ (K6 (w9 (w9 c6 hr8) hr9) (c8.ints [x.1,x.1])),k7.deep _ _ (K6 c6 (c8.ints [x.1,x.1])),sL.trans (t5.trans (s'.trans (((c7 hp7 _).trans (c7 hr8 _)).trans (c7 hr9 _))))⟩
  ·rintro σ L ⟨v19,rfl,sL⟩
   exact hN _ _ ⟨_,rfl,sC.trans sL⟩
 rintro σ L22 ⟨v19,rfl,s22⟩
 simpa only[↓KZ,IH,↓Hu,GP]
 exact⟨Ew,s22 _ _ hp9,ms,l9,Hb.same s22,hF,V0,hPt,gs,s22 _ _ hg9,by omega,fun x L1 hx s1=>⟨left,by rw[elf] at hx;exact hx,YH,(s22.trans s1) _ _ hl9,c8.same (s22.trans s1) _ _ hlD9,hlF,Xt,fun H' _=>q H'⟩⟩
theorem all_mk{l:PySem.W.OpenLaw}{w:World}{K:j6}{h:Heap}{mg:Str->Option Value}{fa f1 f2 f3 f4 f5 f6 f7 f8 f9 f10 f11 f12 f13 f14 f15 f16 f17 f18 f19 f20 f21 f22 f23 f24 f25 f26 f27 f28 f29 f30 f31 fsInit fsPM fsPF fsPW fsPP fsPL fsXM PC FE NF NM ND NQ NsA:Addr}(X:K.In h)(G:h.Ns mainGlobals mg)(hfa:mg "law"=some (.ref fa))
  {od31 an31:Option Addr}{sl31:Array (Option Value)}{oc31 kV31 dc31 pm31 ct31 cd31:Value}{tk0 tk1:Tok}
  {oNM:Obj}{ddE d1E:Option Addr}{cdE:ClassData}{slE sl1E:Array (Option Value)}{c1E:Value}{esE:Array DictEntry}{nE:Nat}
  (a1:PySem.W.nsIn K mainGlobals "is_small_letter"=some (some (.ref f1)))
  (F1:∃fd,Fun K "is_small_letter" "is_small_letter" MP f1 fd)
  (a2:PySem.W.nsIn K mainGlobals "is_figure"=some (some (.ref f2)))
  (F2:∃fd,Fun K "is_figure" "is_figure" Qao f2 fd)
  (a3:PySem.W.nsIn K mainGlobals "is_word_sign"=some (some (.ref f3)))
  (F3:∃fd,Fun K "is_word_sign" "is_word_sign" SV f3 fd)
  (a4:PySem.W.nsIn K mainGlobals "is_name"=some (some (.ref f4)))
  (F4:∃fd,Fun K "is_name" "is_name" OI f4 fd)
  (a5:PySem.W.nsIn K mainGlobals "look_at_document"=some (some (.ref f5)))
  (F5:∃fd,Fun K "look_at_document" "look_at_document" SW f5 fd)
  (a6:PySem.W.nsIn K mainGlobals "end_of_word"=some (some (.ref f6)))
  (F6:∃fd,Fun K "end_of_word" "end_of_word" Qap f6 fd)
  (a7:PySem.W.nsIn K mainGlobals "words_of"=some (some (.ref f7)))
  (F7:∃fd,Fun K "words_of" "words_of" MN f7 fd)
  (a8:PySem.W.nsIn K mainGlobals "bare_words"=some (some (.ref f8)))
  (F8:∃fd,Fun K "bare_words" "bare_words" OM f8 fd)
  (a9:PySem.W.nsIn K mainGlobals "places_by_word"=some (some (.ref f9)))
  (F9:∃fd,Fun K "places_by_word" "places_by_word" IK f9 fd)
  (a10:PySem.W.nsIn K mainGlobals "is_whole_number"=some (some (.ref f10)))
  (F10:∃fd,Fun K "is_whole_number" "is_whole_number" MO f10 fd)
  (a11:PySem.W.nsIn K mainGlobals "look_at_makes"=some (some (.ref f11)))
  (F11:∃fd,Fun K "look_at_makes" "look_at_makes" MQ f11 fd)
  (a12:PySem.W.nsIn K mainGlobals "add_postings"=some (some (.ref f12)))
  (F12:∃fd,Fun K "add_postings" "add_postings" Qas f12 fd)
  (a13:PySem.W.nsIn K mainGlobals "_law_draws"=some (some (.ref f13)))
  (F13:∃fd,Fun K "_law_draws" "_law_draws" MR f13 fd)
  (a14:PySem.W.nsIn K mainGlobals "_law_text"=some (some (.ref f14)))
  (F14:∃fd,Fun K "_law_text" "_law_text" Li f14 fd)
  (a15:PySem.W.nsIn K mainGlobals "_law_document"=some (some (.ref f15)))
  (F15:∃fd,Fun K "_law_document" "_law_document" Wz f15 fd)
  (a16:PySem.W.nsIn K mainGlobals "_law_words"=some (some (.ref f16)))
  (F16:∃fd,Fun K "_law_words" "_law_words" sLW f16 fd)
  (a17:PySem.W.nsIn K mainGlobals "_law_table"=some (some (.ref f17)))
  (F17:∃fd,Fun K "_law_table" "_law_table" Qah f17 fd)
  (a18:PySem.W.nsIn K mainGlobals "_law_tells"=some (some (.ref f18)))
  (F18:∃fd,Fun K "_law_tells" "_law_tells" SU f18 fd)
  (a19:PySem.W.nsIn K mainGlobals "_law_makes"=some (some (.ref f19)))
  (F19:∃fd,Fun K "_law_makes" "_law_makes" Qak f19 fd)
  (a20:PySem.W.nsIn K mainGlobals "piece_of_parts"=some (some (.ref f20)))
  (F20:∃fd,Fun K "piece_of_parts" "piece_of_parts" Qaj f20 fd)
  (a21:PySem.W.nsIn K mainGlobals "look_at_shared_makes"=some (some (.ref f21)))
  (F21:∃fd,Fun K "look_at_shared_makes" "look_at_shared_makes" sSh f21 fd)
  (a22:PySem.W.nsIn K mainGlobals "add_field_postings"=some (some (.ref f22)))
  (F22:∃fd,Fun K "add_field_postings" "add_field_postings" WA f22 fd)
  (a23:PySem.W.nsIn K mainGlobals "add_field_lengths"=some (some (.ref f23)))
  (F23:∃fd,Fun K "add_field_lengths" "add_field_lengths" Qar f23 fd)
  (a24:PySem.W.nsIn K mainGlobals "in_order"=some (some (.ref f24)))
  (F24:∃fd,Fun K "in_order" "in_order" Qal f24 fd)
  (a25:PySem.W.nsIn K mainGlobals "gathered"=some (some (.ref f25)))
  (F25:∃fd,Fun K "gathered" "gathered" Qam f25 fd)
  (a26:PySem.W.nsIn K mainGlobals "poured"=some (some (.ref f26)))
  (F26:∃fd,Fun K "poured" "poured" Qai f26 fd)
  (a27:PySem.W.nsIn K mainGlobals "_law_cell_at"=some (some (.ref f27)))
  (F27:∃fd,Fun K "_law_cell_at" "_law_cell_at" SX f27 fd)
  (a28:PySem.W.nsIn K mainGlobals "_law_pieces"=some (some (.ref f28)))
  (F28:∃fd,Fun K "_law_pieces" "_law_pieces" Wy f28 fd)
  (a29:PySem.W.nsIn K mainGlobals "_law_is"=some (some (.ref f29)))
  (F29:∃fd,Fun K "_law_is" "_law_is" sIs f29 fd)
  (a30:PySem.W.nsIn K mainGlobals "_law_caught"=some (some (.ref f30)))
  (F30:∃fd,Fun K "_law_caught" "_law_caught" Qaq f30 fd)
  (a31:PySem.W.nsIn K mainGlobals "law"=some (some (.ref f31)))
  (l31:K.lookup f31=some ⟨oc31,od31, .func (PySem.W.fnOf "law" "law" (AJ Cf) (S9 Cf) (i3 Cf) .none kV31 dc31 pm31 an31 cd31 ct31),sl31⟩)
  (c31:PySem.W.codeIn K cd31 "law"=true)
  (k31:PySem.W.keepIn K (.ref f31)=true)
  (nPC:PySem.W.nsIn K mainGlobals "Piece"=some (some (.ref PC)))
  (nFE:PySem.W.nsIn K mainGlobals "FindError"=some (some (.ref FE)))
  (nNF:PySem.W.nsIn K mainGlobals "NoField"=some (some (.ref NF)))
  (nNM:PySem.W.nsIn K mainGlobals "NoMake"=some (some (.ref NM)))
  (nND:PySem.W.nsIn K mainGlobals "NoDocument"=some (some (.ref ND)))
  (nNQ:PySem.W.nsIn K mainGlobals "NoPiece"=some (some (.ref NQ)))
  (isInit:PySem.W.findIn K (.ref PC) "__init__"=some (some (.ref fsInit)))
  (jsInit:PySem.W.isFn K (.ref fsInit)=true)
  (FsInit:∃fd,Fun K "__init__" "Piece.__init__" OL fsInit fd)
  (isPM:PySem.W.findIn K (.ref PC) "makes"=some (some (.ref fsPM)))
  (jsPM:PySem.W.isFn K (.ref fsPM)=true)
  (FsPM:∃fd,Fun K "makes" "Piece.makes" sPM fsPM fd)
  (isPF:PySem.W.findIn K (.ref PC) "fields"=some (some (.ref fsPF)))
  (jsPF:PySem.W.isFn K (.ref fsPF)=true)
  (FsPF:∃fd,Fun K "fields" "Piece.fields" sPF fsPF fd)
  (isPW:PySem.W.findIn K (.ref PC) "words"=some (some (.ref fsPW)))
  (jsPW:PySem.W.isFn K (.ref fsPW)=true)
  (FsPW:∃fd,Fun K "words" "Piece.words" sPW fsPW fd)
  (isPP:PySem.W.findIn K (.ref PC) "postings"=some (some (.ref fsPP)))
  (jsPP:PySem.W.isFn K (.ref fsPP)=true)
  (FsPP:∃fd,Fun K "postings" "Piece.postings" sPP fsPP fd)
  (isPL:PySem.W.findIn K (.ref PC) "length"=some (some (.ref fsPL)))
  (jsPL:PySem.W.isFn K (.ref fsPL)=true)
  (FsPL:∃fd,Fun K "length" "Piece.length" sPL fsPL fd)
  (isXM:PySem.W.findIn K (.ref NM) "__init__"=some (some (.ref fsXM)))
  (jsXM:PySem.W.isFn K (.ref fsXM)=true)
  (FsXM:∃fd,Fun K "__init__" "NoMake.__init__" sXM fsXM fd)
  (p1:PySem.W.plainGet K PC Str.empty=true)
  (p2:PySem.W.hasDictIn K PC=true)
  (p3:PySem.W.plainOver K PC=true)
  (p4:PySem.W.findIn K (.ref PC) "__setattr__"=some (some (.builtin "object.__setattr__")))
  (p5:PySem.W.makesIn K PC=true)
  (p6:PySem.W.keepIn K (.ref PC)=true)
  (q1:PySem.W.findIn K (.ref PC) "own_makes"=some none)
  (q2:PySem.W.findIn K (.ref PC) "by_field"=some none)
  (q3:PySem.W.findIn K (.ref PC) "lengths"=some none)
  (kcM:PySem.W.keepIn K (.ref NM)=true)
  (eE:K.lookup FE=some ⟨.type "type",ddE, .cls cdE,slE⟩)
  (eN:cdE.ns=NsA)
  (eL:K.lookup NsA=some ⟨c1E,d1E, .dict esE nE,sl1E⟩)
  (eK:EO esE=true)
  (eI:nsFind esE "__init__"=none)
  (bE:PySem.W.mroIn K FE (.type "BaseException")=some true)
  (x1:K.lookup NM=some oNM)
  (x2:∃(nm qn:Str) (N:Addr) (bs:List Value) (sn:List Str) (sub:List Value) (ab:Bool) (col:Option Bool) (dd:Option Addr) (k0 k1 k2 k3 k5:Option Value),oNM=excClassObj nm qn NM N bs (.ref FE::RE) true sn sub ab col dd k0 k1 k2 k3 k5 "ValueError.__new__")
  (x3:PySem.W.findIn K (.ref NM) "__setattr__"=some (some (.builtin "object.__setattr__")))
  (x4:PySem.W.findIn K (.ref NM) "place"=some none)
  (x5:PySem.W.mroIn K NM (.ref FE)=some true)
  (g1:PySem.W.findIn K (.ref NM) "__getattribute__"=some (some (.builtin "BaseException.__getattribute__")))
  (g2:PySem.W.findIn K (.ref NM) "__getattr__"=some none)
  (g3:PySem.W.mroIn K NM (.type "BaseException")=some true)
  (g4:PySem.W.mroIn K NM (.type "object")=some true)
  (g5:PySem.W.hasDictIn K NM=true)
  (g6:PySem.W.findIn K (.ref NM) "__class__"=some (some (.builtin "object.__class__")))
  (g7:PySem.W.specialIn K (.builtin "object.__class__") "__get__"=some (some (.builtin "getset_descriptor.__get__")))
  (g8:PySem.W.takesIn K (.builtin "object.__class__")=some true)
  (wv:PySem.W.kitOne K (.ref NM) (.type "ValueError")=some true)
  (wf:PySem.W.kitOne K (.ref NM) (.ref NF)=some false)
  (wq:PySem.W.kitOne K (.ref NM) (.ref NQ)=some false)
  (wd:PySem.W.kitOne K (.ref NM) (.ref ND)=some false)
  (wm:PySem.W.kitOne K (.ref NM) (.ref NM)=some true)
  (s1:PySem.W.nsIn K mainGlobals "MOST_NAME_SIGNS"=some (some (.int 12 tk1)))
  (z1:PySem.W.nsIn K mainGlobals "len"=some none)
  (z2:PySem.W.nsIn K mainGlobals "range"=some none)
  (z3:PySem.W.nsIn K mainGlobals "isinstance"=some none)
  (z4:PySem.W.nsIn K mainGlobals "int"=some none)
  (z5:PySem.W.nsIn K mainGlobals "bool"=some none)
  (z6:PySem.W.nsIn K mainGlobals "list"=some none)
  (z7:PySem.W.nsIn K mainGlobals "dict"=some none)
  (z8:PySem.W.nsIn K mainGlobals "abs"=some none)
  (z9:PySem.W.nsIn K mainGlobals "min"=some none)
  (z10:PySem.W.nsIn K mainGlobals "sorted"=some none)
  (z11:PySem.W.nsIn K mainGlobals "all"=some none)
  (z12:PySem.W.nsIn K mainGlobals "enumerate"=some none)
  (z13:PySem.W.nsIn K mainGlobals "zip"=some none)
  (z14:PySem.W.nsIn K mainGlobals "reversed"=some none)
  (z15:PySem.W.nsIn K mainGlobals "ValueError"=some none)
  :∃fd:FuncData,(∀(s:Shared) (v:Value),BindsTo s fd ⟨[v],[]⟩ [("_law_script",v)])/\∀bs0:Heap,K.In bs0->bs0.Ns mainGlobals mg->FnOkL l.prog w K mg bs0 D7 12 fa fd ["_law_script"] (OF K):=by
 have e:=hfa.symm.trans (u7 X G a31)
 cases e
 have t1:=Q5 X G z1
 have t2:=Q5 X G z2
 have t3:=Q5 X G z3
 have t4:=Q5 X G z4
 have t5:=Q5 X G z5
 have t6:=Q5 X G z6
 have t7:=Q5 X G z7
 have t8:=Q5 X G z8
 have t9:=Q5 X G z9
 have t10:=Q5 X G z10
 have t11:=Q5 X G z11
 have t12:=Q5 X G z12
 have t13:=Q5 X G z13
 have t14:=Q5 X G z14
 have t15:=Q5 X G z15
 have u1:=u7 X G s1
 have mPC:=u7 X G nPC
 have mFE:=u7 X G nFE
 have mNF:=u7 X G nNF
 have mNM:=u7 X G nNM
 have mND:=u7 X G nND
 have mNQ:=u7 X G nNQ
 have T:Txt mg:={len:=t1,range:=t2,isinstance:=t3,int:=t4,bool:=t5,list:=t6,dict:=t7,abs:=t8,min:=t9,sorted:=t10,all:=t11,enumerate:=t12,zip:=t13,reversed:=t14,valueError:=t15,most:=⟨_,u1⟩}
 obtain⟨d1,F1⟩:=F1
 have m1:=u7 X G a1
 have b1:=F1.binds (ps:=["sign"]) fun _ _ _ _ _ _ us hl=>by obtain⟨_,rfl⟩:=Hq hl;rfl
 obtain⟨d2,F2⟩:=F2
 have m2:=u7 X G a2
 have b2:=F2.binds (ps:=["sign"]) fun _ _ _ _ _ _ us hl=>by obtain⟨_,rfl⟩:=Hq hl;rfl
 obtain⟨d3,F3⟩:=F3
 have m3:=u7 X G a3
 have b3:=F3.binds (ps:=["sign"]) fun _ _ _ _ _ _ us hl=>by obtain⟨_,rfl⟩:=Hq hl;rfl
 obtain⟨d4,F4⟩:=F4
 have m4:=u7 X G a4
 have b4:=F4.binds (ps:=["text"]) fun _ _ _ _ _ _ us hl=>by obtain⟨_,rfl⟩:=Hq hl;rfl
 obtain⟨d5,F5⟩:=F5
 have m5:=u7 X G a5
 have b5:=F5.binds (ps:=["document"]) fun _ _ _ _ _ _ us hl=>by obtain⟨_,rfl⟩:=Hq hl;rfl
 obtain⟨d6,F6⟩:=F6
 have m6:=u7 X G a6
 have b6:=F6.binds (ps:=["text","begin"]) fun _ _ _ _ _ _ us hl=>by obtain⟨_,_,rfl⟩:=Ry hl;rfl
 obtain⟨d7,F7⟩:=F7
 have m7:=u7 X G a7
 have b7:=F7.binds (ps:=["text"]) fun _ _ _ _ _ _ us hl=>by obtain⟨_,rfl⟩:=Hq hl;rfl
 obtain⟨d8,F8⟩:=F8
 have m8:=u7 X G a8
 have b8:=F8.binds (ps:=["text"]) fun _ _ _ _ _ _ us hl=>by obtain⟨_,rfl⟩:=Hq hl;rfl
 obtain⟨d9,F9⟩:=F9
 have m9:=u7 X G a9
 have b9:=F9.binds (ps:=["words"]) fun _ _ _ _ _ _ us hl=>by obtain⟨_,rfl⟩:=Hq hl;rfl
 obtain⟨d10,F10⟩:=F10
 have m10:=u7 X G a10
 have b10:=F10.binds (ps:=["value"]) fun _ _ _ _ _ _ us hl=>by obtain⟨_,rfl⟩:=Hq hl;rfl
 obtain⟨d11,F11⟩:=F11
 have m11:=u7 X G a11
 have b11:=F11.binds (ps:=["makes"]) fun _ _ _ _ _ _ us hl=>by obtain⟨_,rfl⟩:=Hq hl;rfl
 obtain⟨d12,F12⟩:=F12
 have m12:=u7 X G a12
 have b12:=F12.binds (ps:=["by_word","make","words"]) fun _ _ _ _ _ _ us hl=>by obtain⟨_,_,_,rfl⟩:=us3 hl;rfl
 obtain⟨d13,F13⟩:=F13
 have m13:=u7 X G a13
 have b13:=F13.binds (ps:=["_law_cell","_law_many","_law_base","_law_free"]) fun _ _ _ _ _ _ us hl=>by obtain⟨_,_,_,_,rfl⟩:=us4 hl;rfl
 obtain⟨d14,F14⟩:=F14
 have m14:=u7 X G a14
 have b14:=F14.binds (ps:=["_law_cell"]) fun _ _ _ _ _ _ us hl=>by obtain⟨_,rfl⟩:=Hq hl;rfl
 obtain⟨d15,F15⟩:=F15
 have m15:=u7 X G a15
 have b15:=F15.binds (ps:=["_law_cell","_law_more"]) fun _ _ _ _ _ _ us hl=>by obtain⟨_,_,rfl⟩:=Ry hl;rfl
 obtain⟨d16,F16⟩:=F16
 have m16:=u7 X G a16
 have b16:=F16.binds (ps:=["_law_text_here"]) fun _ _ _ _ _ _ us hl=>by obtain⟨_,rfl⟩:=Hq hl;rfl
 obtain⟨d17,F17⟩:=F17
 have m17:=u7 X G a17
 have b17:=F17.binds (ps:=["_law_makes_here"]) fun _ _ _ _ _ _ us hl=>by obtain⟨_,rfl⟩:=Hq hl;rfl
 obtain⟨d18,F18⟩:=F18
 have m18:=u7 X G a18
 have b18:=F18.binds (ps:=["_law_thing","_law_makes_here"]) fun _ _ _ _ _ _ us hl=>by obtain⟨_,_,rfl⟩:=Ry hl;rfl
 obtain⟨d19,F19⟩:=F19
 have m19:=u7 X G a19
 have b19:=F19.binds (ps:=["_law_script"]) fun _ _ _ _ _ _ us hl=>by obtain⟨_,rfl⟩:=Hq hl;rfl
 obtain⟨dsInit,FsInit⟩:=FsInit
 have bsInit:=FsInit.binds (ps:=["self","makes"]) fun _ _ _ _ _ _ us hl=>by obtain⟨_,_,rfl⟩:=Ry hl;rfl
 obtain⟨dsPM,FsPM⟩:=FsPM
 have bsPM:=FsPM.binds (ps:=["self"]) fun _ _ _ _ _ _ us hl=>by obtain⟨_,rfl⟩:=Hq hl;rfl
 obtain⟨dsPF,FsPF⟩:=FsPF
 have bsPF:=FsPF.binds (ps:=["self"]) fun _ _ _ _ _ _ us hl=>by obtain⟨_,rfl⟩:=Hq hl;rfl
 obtain⟨dsPW,FsPW⟩:=FsPW
 have bsPW:=FsPW.binds (ps:=["self","field"]) fun _ _ _ _ _ _ us hl=>by obtain⟨_,_,rfl⟩:=Ry hl;rfl
 obtain⟨dsPP,FsPP⟩:=FsPP
 have bsPP:=FsPP.binds (ps:=["self","field","word"]) fun _ _ _ _ _ _ us hl=>by obtain⟨_,_,_,rfl⟩:=us3 hl;rfl
 obtain⟨dsPL,FsPL⟩:=FsPL
 have bsPL:=FsPL.binds (ps:=["self","make","field"]) fun _ _ _ _ _ _ us hl=>by obtain⟨_,_,_,rfl⟩:=us3 hl;rfl
 obtain⟨d20,F20⟩:=F20
 have m20:=u7 X G a20
 have b20:=F20.binds (ps:=["makes","by_field","lengths"]) fun _ _ _ _ _ _ us hl=>by obtain⟨_,_,_,rfl⟩:=us3 hl;rfl
 obtain⟨d21,F21⟩:=F21
 have m21:=u7 X G a21
 have b21:=F21.binds (ps:=["pieces"]) fun _ _ _ _ _ _ us hl=>by obtain⟨_,rfl⟩:=Hq hl;rfl
 obtain⟨d22,F22⟩:=F22
 have m22:=u7 X G a22
 have b22:=F22.binds (ps:=["by_field","piece","field","kept"]) fun _ _ _ _ _ _ us hl=>by obtain⟨_,_,_,_,rfl⟩:=us4 hl;rfl
 obtain⟨d23,F23⟩:=F23
 have m23:=u7 X G a23
 have b23:=F23.binds (ps:=["lengths","piece","field","kept"]) fun _ _ _ _ _ _ us hl=>by obtain⟨_,_,_,_,rfl⟩:=us4 hl;rfl
 obtain⟨d24,F24⟩:=F24
 have m24:=u7 X G a24
 have b24:=F24.binds (ps:=["by_field"]) fun _ _ _ _ _ _ us hl=>by obtain⟨_,rfl⟩:=Hq hl;rfl
 obtain⟨d25,F25⟩:=F25
 have m25:=u7 X G a25
 have b25:=F25.binds (ps:=["pieces","kept"]) fun _ _ _ _ _ _ us hl=>by obtain⟨_,_,rfl⟩:=Ry hl;rfl
 obtain⟨d26,F26⟩:=F26
 have m26:=u7 X G a26
 have b26:=F26.binds (ps:=["pieces","gone"]) fun _ _ _ _ _ _ us hl=>by obtain⟨_,_,rfl⟩:=Ry hl;rfl
 obtain⟨d27,F27⟩:=F27
 have m27:=u7 X G a27
 have b27:=F27.binds (ps:=["_law_script","_law_k"]) fun _ _ _ _ _ _ us hl=>by obtain⟨_,_,rfl⟩:=Ry hl;rfl
 obtain⟨d28,F28⟩:=F28
 have m28:=u7 X G a28
 have b28:=F28.binds (ps:=["_law_dealt"]) fun _ _ _ _ _ _ us hl=>by obtain⟨_,rfl⟩:=Hq hl;rfl
 obtain⟨d29,F29⟩:=F29
 have m29:=u7 X G a29
 have b29:=F29.binds (ps:=["_law_piece","_law_makes_here"]) fun _ _ _ _ _ _ us hl=>by obtain⟨_,_,rfl⟩:=Ry hl;rfl
 obtain⟨d30,F30⟩:=F30
 have m30:=u7 X G a30
 have b30:=F30.binds (ps:=["_law_pieces_here","_law_gone"]) fun _ _ _ _ _ _ us hl=>by obtain⟨_,_,rfl⟩:=Ry hl;rfl
 have F31:=Uo (st:=Cf) l31 c31 k31
 have m31:=u7 X G a31
 obtain⟨dsXM,FsXM⟩:=FsXM
 have bsXM:=FsXM.binds (ps:=["self","place"]) fun _ _ _ _ _ _ us hl=>by obtain⟨_,_,rfl⟩:=Ry hl;rfl
 have cl:Cls K PC:=⟨p1,p2,p3,p4⟩
 have xc:XCls K NM FE:=⟨by obtain⟨nm,qn,N,bs,sn,sub,ab,col,dd,k0,k1,k2,k3,k5,e⟩:=x2;exact⟨nm,qn,N,bs,sn,sub,ab,col,dd,k0,k1,k2,k3,k5,by rw[x1,e]⟩,⟨_,_,_,_,_,_,_,_,_,eE,by rw[eN];exact eL,eK,eI⟩,x3⟩
 have xk:XKit K FE NF NM ND NQ:=⟨x5,⟨g1,g2,g3,g4,g5,g6,g7,g8⟩,x4,wv,wf,wq,wd,wm⟩
 refine⟨PySem.W.fnOf "law" "law" (AJ Cf) (S9 Cf) (i3 Cf) .none kV31 dc31 pm31 an31 cd31 ct31,fun s v=> .of_eq rfl,fun bs0 _ _=> ?_⟩
 have oS:=Tu (P:=l.prog) (w:=w) (mg:=mg) (bs0:=bs0) F1
 have oFg:=QaU (P:=l.prog) (w:=w) (mg:=mg) (bs0:=bs0) F2
 have oSg:=WO (P:=l.prog) (w:=w) (mg:=mg) (bs0:=bs0) F3 oS b1 F1.kp m1 oFg b2 F2.kp m2
 have oE:=QaV (P:=l.prog) (w:=w) (mg:=mg) (bs0:=bs0) F6 T oSg b3 F3.kp m3
 have oWo:=Ts (P:=l.prog) (w:=w) (mg:=mg) (bs0:=bs0) F7 T oE b6 F6.kp m6
 have oBw:=WU (P:=l.prog) (w:=w) (mg:=mg) (bs0:=bs0) F8 T oWo b7 F7.kp m7
 have oN:=WQ (P:=l.prog) (w:=w) (mg:=mg) (bs0:=bs0) F4 T oS b1 F1.kp m1
 have oLk:=WR (P:=l.prog) (w:=w) (mg:=mg) (bs0:=bs0) F5 T oN b4 F4.kp m4
 have oWh:=Tt (P:=l.prog) (w:=w) (mg:=mg) (bs0:=bs0) F10 T
 have oLm:=Tv (P:=l.prog) (w:=w) (mg:=mg) (bs0:=bs0) F11 T oWh b10 F10.kp m10 oLk b5 F5.kp m5
 have oPb:=Qz (P:=l.prog) (w:=w) (mg:=mg) (bs0:=bs0) F9 T
 have oAd:=Qa0 (P:=l.prog) (w:=w) (mg:=mg) (bs0:=bs0) F12 T oPb b9 F9.kp m9
 have oIn:=WS (P:=l.prog) (w:=w) (mg:=mg) (bs0:=bs0) FsInit T cl q1 q2 q3 oLm b11 F11.kp m11 oBw b8 F8.kp m8 oAd b12 F12.kp m12
 have oPM:=QbS (P:=l.prog) (w:=w) (mg:=mg) (bs0:=bs0) FsPM T cl q1
 have oPF:=QbU (P:=l.prog) (w:=w) (mg:=mg) (bs0:=bs0) FsPF T cl q2
 have oPW:=QbQ (P:=l.prog) (w:=w) (mg:=mg) (bs0:=bs0) FsPW T cl q2
 have oPP:=QbR (P:=l.prog) (w:=w) (mg:=mg) (bs0:=bs0) FsPP T cl q2
 have oPL:=QbT (P:=l.prog) (w:=w) (mg:=mg) (bs0:=bs0) FsPL T cl q3
 have oD:=Tw (P:=l.prog) (w:=w) (mg:=mg) (bs0:=bs0) F13 T
 have oT:=WN (P:=l.prog) (w:=w) (mg:=mg) (bs0:=bs0) F14 T oD b13 F13.kp m13
 have oDc:=QaW (P:=l.prog) (w:=w) (mg:=mg) (bs0:=bs0) F15 T oD b13 F13.kp m13 oT b14 F14.kp m14
 have oMk:=QaP (P:=l.prog) (w:=w) (mg:=mg) (bs0:=bs0) F19 T oDc b15 F15.kp m15
 have oLw:=QbV (P:=l.prog) (w:=w) (mg:=mg) (bs0:=bs0) F16 T
 have oTa:=QaM (P:=l.prog) (w:=w) (mg:=mg) (bs0:=bs0) F17 T oLw b16 F16.kp m16
 have oTe:=QaL (P:=l.prog) (w:=w) (mg:=mg) (bs0:=bs0) F18 T cl ⟨isPF,jsPF,FsPF.kp⟩ oPF bsPF ⟨isPW,jsPW,FsPW.kp⟩ oPW bsPW ⟨isPP,jsPP,FsPP.kp⟩ oPP bsPP ⟨isPL,jsPL,FsPL.kp⟩ oPL bsPL oTa b17 F17.kp m17 oLw b16 F16.kp m16
 have oAp:=QaY (P:=l.prog) (w:=w) (mg:=mg) (bs0:=bs0) F22 T cl ⟨isPW,jsPW,FsPW.kp⟩ oPW bsPW ⟨isPP,jsPP,FsPP.kp⟩ oPP bsPP
 have oAl:=QaZ (P:=l.prog) (w:=w) (mg:=mg) (bs0:=bs0) F23 T cl ⟨isPM,jsPM,FsPM.kp⟩ oPM bsPM ⟨isPL,jsPL,FsPL.kp⟩ oPL bsPL
 have oIo:=QaS (P:=l.prog) (w:=w) (mg:=mg) (bs0:=bs0) F24 T
 have oPo:=QaO (P:=l.prog) (w:=w) (mg:=mg) (bs0:=bs0) F20 T cl q1 q2 q3 ⟨p5,isInit,jsInit,p6⟩ mPC oIn bsInit
 have oGa:=QaT (P:=l.prog) (w:=w) (mg:=mg) (bs0:=bs0) F25 T cl ⟨isPF,jsPF,FsPF.kp⟩ oPF bsPF oAp b22 F22.kp m22 oAl b23 F23.kp m23 oIo b24 F24.kp m24 oPo b20 F20.kp m20
 have oSh:=QbP (P:=l.prog) (w:=w) (mg:=mg) (bs0:=bs0) F21 T cl ⟨isPM,jsPM,FsPM.kp⟩ oPM bsPM xc isXM jsXM kcM x4 (Qy FsXM) bsXM mNM
 have oPr:=QaN (P:=l.prog) (w:=w) (mg:=mg) (bs0:=bs0) F26 T cl ⟨isPM,jsPM,FsPM.kp⟩ oPM bsPM oSh b21 F21.kp m21 oGa b25 F25.kp m25
 have oC:=WT (P:=l.prog) (w:=w) (mg:=mg) (bs0:=bs0) F27 T
 have oLp:=QaQ (P:=l.prog) (w:=w) (mg:=mg) (bs0:=bs0) F28 T ⟨p5,isInit,jsInit,p6⟩ mPC oIn bsInit
 have oIs:=QbW (P:=l.prog) (w:=w) (mg:=mg) (bs0:=bs0) F29 T cl ⟨isPM,jsPM,FsPM.kp⟩ oPM bsPM oTe b18 F18.kp m18
 have oCa:=QaX (P:=l.prog) (w:=w) (mg:=mg) (bs0:=bs0) F30 T mFE mNF mNM mND mNQ ⟨⟨_,_,_,eE⟩,bE⟩ xk oPr b26 F26.kp m26
 exact QaR F31 T cl ⟨p5,isInit,jsInit,p6⟩ mPC oIn bsInit ⟨isPM,jsPM,FsPM.kp⟩ oPM bsPM ⟨isPF,jsPF,FsPF.kp⟩ oPF bsPF ⟨isPW,jsPW,FsPW.kp⟩ oPW bsPW ⟨isPP,jsPP,FsPP.kp⟩ oPP bsPP (FnOk.pr oPr) b26 F26.kp m26 oIs b29 F29.kp m29 oCa b30 F30.kp m30 oLp b28 F28.kp m28 oC b27 F27.kp m27 oD b13 F13.kp m13 oMk b19 F19.kp m19
theorem walk{l:PySem.W.OpenLaw}{q:Program}{loose:List Str}{XP:(Str->Option Value)->Heap->Prop}{YP:World->Heap->Prop}{d:DefRec}{K:Params->j6}(hn:l.most=some 63)(hdf:d.params.defaults=[])
  (hY:∀(w:World) (h:Heap),YP w h->(K w.params).In h)
  (F:∀(w:World) (mg:Str->Option Value) (fa:Addr) (h:Heap),(K w.params).In h->h.Ns mainGlobals mg->mg d.name=some (.ref fa)->
   ∃fd:FuncData,(∀(s:Shared) (u:Value),BindsTo s fd ⟨[u],[]⟩ [("_law_script",u)])/\∀bs0:Heap,(K w.params).In bs0->bs0.Ns mainGlobals mg->FnOkL l.prog w (K w.params) mg bs0 D7 12 fa fd ["_law_script"] (OF (K w.params))):
  PySem.W.WalkO q loose XP YP l.row.toRowW d [] (fun f vs=>PySem.call f vs):=
 L2.Ou (n:=63) (k:=12) (x:="_law_script") (CX:=fun _=>D7) (sp:=fun w=>OF (K w.params)) hn (by decide) hdf ⟨rfl,by decide,by decide⟩ hY F (fun _ _ a ns hl _ hS=>⟨a,ns,rfl,hS,hl,fun _=>rfl⟩) fun _ _ _ _ _ z=>z
end K16
open PySem PySem.W PyProof.Rows
local macro_rules
 | `(tactic|nofun)=> `(tactic|first|k_is|kernel_rfl)
namespace PySem.W.Fast
def tw12212939008663392384:=0
def tw5422325047624796856:=0
def tw10929652316735242340:=0
def tw13321383324312131167:=0
def tw14941753851803435052:=0
def tw16494874706600446316:=0
def tw11949386443648550211:=0
def tw11775296968386145857:=0
def tw7806861081165702619:=0
def tw17650756397061875580:=0
def tw16632171139058554497:=0
def tw11706749280938768747:=0
def tw9466392488818513001:=0
def tw6389277939060084805:=0
def tw10303659166217647759:=0
def tw2343018665122264073:=0
def tw3291938184163062679:=0
def tw15549244007972226320:=0
def tw14756216731380937901:=0
def tw11890473586893491256:=0
def tw12774117862823002221:=0
def tw9123028441638090157:=0
def tw2197256342662483406:=0
def tw11756335841672176049:=0
def tw8306933381483020739:=0
def tw3237223733309833010:=0
def tw8806466605768093668:=0
def tw10683897203568990206:=0
def tw10008461242810566582:=0
def tw2377307815273646739:=0
def tw343516782035414118:=0
def tw14380521682196101982:=0
def tw16295286228790781983:=0
def tw16038205016011591322:=0
def tw10012546208036783530:=0
def tw13126591429375292780:=0
def tw10050239583512440997:=0
def tw18039380555369427143:=0
def tw12921931849954166643:=0
def tw10074798818649590988:=0
def tw8643094745825126325:=0
def tw3928221443158218143:=0
def tw3877425596055943814:=0
def tw9904623616936719991:=0
def tw211056286458267692:=0
def tw8751195643122546626:=0
def tw6373340899250387192:=0
def tw5617214396807569638:=0
def tw1529263247593299635:=0
def tw14404227154711270726:=0
def tw5269065564658525074:=0
def tw18276040338023189906:=0
def tw2908942322852926395:=0
def tw12114437768936753669:=0
def tw6370668347291905348:=0
def tw3405051937488792755:=0
def tw13529065775388597857:=0
def tw15060806636432879332:=0
def tw3509818834656526237:=0
def tw13753100757203174683:=0
def tw5096641581652576253:=0
def tw7702841975757910113:=0
def tw6287671372465471869:=0
def tw3301382270074893964:=0
def tw8095151827068511524:=0
def tw7632965644874005485:=0
def tw17136581638884149479:=0
def tw16913019522511779328:=0
def tw17918160573545277074:=0
def tw998912878141527900:=0
def tw9567934965602089457:=0
def tw6119397730410795708:=0
def tw8871452888066927442:=0
def tw16580545352690789108:=0
def tw5488312602595107173:=0
def tw9469952034008425594:=0
def tw10670389481845347941:=0
def tw5726426169425794599:=0
def tw5284523459493421654:=0
def tw6738010566213490282:=0
def tw11026618033075390310:=0
def tw10066754922423406889:=0
def tw749309646982896078:=0
def tw667825947295531750:=0
def tw15949965986498144417:=0
def tw6800688966592468906:=0
def tw15568385139006964991:=0
def tw11201677524868531966:=0
def tw4670996769314494060:=0
def tw1245376684852506006:=0
def tw13629716655477212346:=0
def tw10628553758682974626:=0
def tw16823675650841828921:=0
def tw13074909278182239535:=0
def tw15990350371529755900:=0
def tw5732602960834445903:=0
def tw13495082597683575087:=0
def tw13954207922695399675:=0
def tw2855248685925721923:=0
def tw8658070878021479468:=0
def tw16418706835642689314:=0
def tw454370245174361485:=0
def tw16503534970969721500:=0
def tw12627310445046543958:=0
def tw13989984055630829878:=0
def tw15547227348315653377:=0
def tw5768186579395213604:=0
def tw17948701186624218421:=0
def tw13199925161440454074:=0
def tw12335805168475108558:=0
def tw8153694272852530512:=0
def tw1404502312411054049:=0
def tw9561441046749801774:=0
def tw14021861828402813546:=0
def tw15451961354424903701:=0
def tw1083729373744959934:=0
def tw15512862871835263933:=0
def tw11825084256644131801:=0
def tw7403134299307014551:=0
def tw11076617769910619432:=0
def tw650993988877225034:=0
def tw2892922606733671812:=0
def tw8451954307206286332:=0
def tw11240376116269939365:=0
def tw3498424389246494642:=0
def tw64844545212558329:=0
def tw4345864671232909656:=0
def tw7216612836189188740:=0
def tw4986946391703088013:=0
def tw15231357388582782376:=0
def tw11948955022876404073:=0
def tw13926442878569384429:=0
def tw14026433406541465272:=0
def tw15900591333121474308:=0
def tw4742605784962395711:=0
def tw18126396708671612626:=0
def tw14987295418510339081:=0
def tw5897759548375633170:=0
def tw12805944742893107799:=0
def tw4935136131773064704:=0
def tw10544425620887932507:=0
def tw18402101477044808926:=0
def tw17155323021824011945:=0
def tw1673765921198276770:=0
def tw10677844349338508991:=0
def tw13702249054692966648:=0
def tw4264855724971753655:=0
def tw15977088630911878150:=0
def tw8182905872335800440:=0
def tw6726263805217297143:=0
def tw3518284232630020446:=0
def tw2365561120458811294:=0
def tw2576790191141106169:=0
def tw4964582140138159735:=0
def tw15792987091876635168:=0
def tw12296349740984999369:=0
def tw17530198982981774922:=0
def tw11541569576966110165:=0
def tw7947714642956826542:=0
def tw6144763702521255909:=0
def tw6136221974421937713:=0
def tw4964704329093639234:=0
def tw11669298390207263581:=0
def tw4833636795231518141:=0
def tw8981117163696577780:=0
def tw11560198782711554140:=0
def tw1515725325685358750:=0
def tw10200972821716879658:=0
def tw3976872362226690061:=0
def tw13510281310704533221:=0
def tw1782295948734867298:=0
def tw2660443517324109073:=0
def tw16256400863598810188:=0
def tw9226904974796161715:=0
def tw8922305449456226109:=0
def tw5024256710486326680:=0
def tw2285700918548289850:=0
def tw15715953301962713604:=0
def tw15656746885979675661:=0
def tw8331100943362945508:=0
def tw165144153224092216:=0
def tw10187335880529459981:=0
def tw17824109340197267365:=0
def tw14591191524549412821:=0
def tw10575227343428602430:=0
def tw3749315386799718511:=0
def tw15993260618805162718:=0
def tw14392397599036563125:=0
def tw4374737349819565109:=0
def tw13173795909347588300:=0
def tw15727809616869330588:=0
def tw2825647955394881591:=0
def tw13088059607296023099:=0
def tw14904650530735553810:=0
def tw2486811240530634232:=0
def tw17681222281389026675:=0
def tw11592665855614660688:=0
def tw11365041582530500910:=0
def tw11852136868859603791:=0
def tw12530603764183235742:=0
def tw17239146332128587897:=0
def tw15711373574579442178:=0
def tw17612639658917542082:=0
def tw17163035998209771052:=0
def tw12305534694653661619:=0
def tw5858433060208296922:=0
def tw14051003895638489173:=0
def tw4140642523848827800:=0
def tw11254681186519594955:=0
def tw8242459027534240589:=0
def tw672017169209687123:=0
end PySem.W.Fast
set_option maxRecDepth 100000 in
set_option maxHeartbeats 0 in
theorem PySem.Challenge.cw_findcourt_k16_whole_pouring_holds : PySem.Challenge.rw_findcourt_k16_whole_pouring.Holds := by
 w_on;o_law;k_head;(case hw=>w_witness2)
 k_fill
 refine K16.walk (l:=PySem.Challenge.rw_findcourt_k16_whole_pouring) rfl rfl (fun w h Y=>PySem.W.kIn_of Y) ?F
 case F=>
  intro w mg fa h KX G hmg
  refine' K16.all_mk (tk0:=0) KX G hmg ?_ ?_ ?_ ?_ ?_ ?_ ?_ ?_ ?_ ?_ ?_ ?_ ?_ ?_ ?_ ?_ ?_ ?_ ?_ ?_ ?_ ?_ ?_ ?_ ?_ ?_ ?_ ?_ ?_ ?_ ?_ ?_ ?_ ?_ ?_ ?_ ?_ ?_ ?_ ?_ ?_ ?_ ?_ ?_ ?_ ?_ ?_ ?_ ?_ ?_ ?_ ?_ ?_ ?_ ?_ ?_ ?_ ?_ ?_ ?_ ?_ ?_ ?_ ?_ ?_ ?_ ?_ ?_ ?_ ?_ ?_ ?_ ?_ ?_ ?_ ?_ ?_ ?_ ?_ ?_ ?_ ?_ ?_ ?_ ?_ ?_ ?_ ?_ ?_ ?_ ?_ ?_ ?_ ?_ ?_ ?_ ?_ ?_ ?_ ?_ ?_ ?_ ?_ ?_ ?_ ?_ ?_ ?_ ?_ ?_ ?_ ?_ ?_ ?_ ?_ ?_ ?_ ?_ ?_ ?_ ?_ ?_ ?_ ?_ ?_ ?_ ?_ ?_ ?_ ?_ ?_ ?_ ?_ ?_ ?_ ?_ ?_ ?_ ?_ ?_ ?_
  all_goals try first|with_reducible exact rfl|k_is|kernel_rfl|exact L2.Qbc ⟨_,_,_,_,_,_,_,_,_,by first|k_is|kernel_rfl,by first|k_is|kernel_rfl,by first|k_is|kernel_rfl⟩|exact rfl|exact⟨_,_,_,_,_,_,_,_,_,_,_,_,_,_,rfl⟩
