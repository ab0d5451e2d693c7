import PyProof.Rows.All
import Wide.All
import OpenK.AllK
import Wide.FinOn
import HandS.ForMost
import HandS.SetKeys
import HandS.Walk
import HandS.Style
import HandS.SetFor
import HandS.IsInst
import HandS.Wide
import PyProof.Draws
import PyProof.EnumMake
import HandS.Replace
import HandS.Exc
import HandS.WordsExc
import HandS.ExcInit
import HandS.ExcField
import HandS.ExcIs
import HandS.TryOnly
import HandS.CallSlots
import HandS.ExcOwn
import PyProof.ReprRoads
import HandS.TupAny
import HandS.TupMul
import PyProof.TupleOfStr
import PyProof.NeKinds
import PyProof.EqAt
import PyProof.ReprBulk
import PyProof.Rows.StrBin
import PyProof.Rows.ReprOcc
import PyProof.ReprLen
import HandS.Ends
import HandS.EndOwn
import HandS.RaiseMore
import HandS.SetTxt0
import HandS.Set
import HandS.More
import HandS.Strs
import KE.GoesEnum
import HandS.Zip
import KE.GoesZip
import KE.GoesMore
import KE.KDictZip
import PyProof.CollectWalk
import PyProof.ListNew
import HandS.TupSets
import HandS.SortOrd
import HandS.Zip0
import HandS.SortInts
import PyProof.CollectStr
import HandS.Deep
import KE.DataFind
import KE.KExcInit
import PyProof.ExcBaseAll.OverflowError
import HandS.Evl
import KE.KEqSeq
import HandS.CallLocal
import HandS.TryMany
import HandS.DictEq
import HandS.DictComp
import PyProof.ListStr
import HandS.Iter
import HandS.Call
import HandS.Comp
import PyProof.Rows.IntBool
import PyProof.CallStr
import KE.KIndexOf
import KE.KDictSum
import PySem.Challenge.RW_mustoccur_k46_whole_lists_of_unavoidable
set_option Elab.async false
set_option linter.all false
set_option maxRecDepth 100000
set_option maxHeartbeats 8000000
/-! Rules that the laws of this program want and the layer lacks: repr and reversal of a text, enumerate of a text, the set of a text's signs and its size. -/
namespace Mo
open PySem PySem.Spec PyProof.Rows L2
/-! ### signs met, in the order of first occurrence -/
def metStep (acc : List Nat) (c : Nat) : List Nat := if c ∈ acc then acc else acc ++ [c]
def met (cs : List Nat) : List Nat := cs.foldl metStep []
theorem met_snoc (cs : List Nat) (c : Nat) : met (cs ++ [c]) = metStep (met cs) c := by
  unfold met
  rw [List.foldl_append]
  rfl
theorem mem_metStep {acc : List Nat} {c d : Nat} : d ∈ metStep acc c ↔ d ∈ acc ∨ d = c := by
  unfold metStep
  by_cases h : c ∈ acc
  · rw [if_pos h]
    constructor
    · exact Or.inl
    · rintro (q | q)
      · exact q
      · rw [q]; exact h
  · rw [if_neg h, List.mem_append, List.mem_singleton]
theorem mem_fold : ∀ (cs acc : List Nat) (d : Nat), d ∈ cs.foldl metStep acc ↔ d ∈ acc ∨ d ∈ cs
  | [], acc, d => by simp
  | c :: cs, acc, d => by
    rw [List.foldl_cons, mem_fold cs (metStep acc c) d, mem_metStep, List.mem_cons, or_assoc]
theorem mem_met {cs : List Nat} {d : Nat} : d ∈ met cs ↔ d ∈ cs := by
  unfold met
  rw [mem_fold]
  simp
theorem metStep_length (acc : List Nat) (c : Nat) : (metStep acc c).length = if c ∈ acc then acc.length else acc.length + 1 := by
  unfold metStep
  split <;> simp
theorem metStep_nodup {acc : List Nat} (h : acc.Nodup) (c : Nat) : (metStep acc c).Nodup := by
  unfold metStep
  by_cases q : c ∈ acc
  · rw [if_pos q]; exact h
  · rw [if_neg q]
    exact List.nodup_append.mpr ⟨h, by simp, by rintro a ha b hb rfl; exact q (by rw [← List.mem_singleton.mp hb]; exact ha)⟩
theorem fold_nodup : ∀ (cs acc : List Nat), acc.Nodup → (cs.foldl metStep acc).Nodup
  | [], _, h => h
  | c :: cs, _, h => fold_nodup cs _ (metStep_nodup h c)
theorem met_nodup (cs : List Nat) : (met cs).Nodup := fold_nodup cs [] List.nodup_nil
theorem met_length_le : ∀ cs : List Nat, (met cs).length ≤ cs.length := fun cs => by
  have key : ∀ (cs acc : List Nat), (cs.foldl metStep acc).length ≤ acc.length + cs.length := by
    intro cs
    induction cs with
    | nil => intro acc; simp
    | cons c cs ih =>
      intro acc
      rw [List.foldl_cons]
      have h1 := ih (metStep acc c)
      have h2 := metStep_length acc c
      rw [List.length_cons]
      split at h2 <;> omega
  have h := key cs []
  simpa [met] using h
/-- the keys that are signs of cs -/
def inS (cs : List Nat) (k : Key) : Bool := cs.any fun c => decide (k = Sum.inr (⟨#[c]⟩ : Str))
theorem sign_inj {c d : Nat} (h : (⟨#[c]⟩ : Str) = ⟨#[d]⟩) : c = d := by
  injection h with h
  simpa using h
theorem inS_sign (cs : List Nat) (c : Nat) : inS cs (Sum.inr ⟨#[c]⟩) = decide (c ∈ cs) := by
  unfold inS
  by_cases h : c ∈ cs
  · rw [decide_eq_true h]
    exact List.any_eq_true.mpr ⟨c, h, decide_eq_true rfl⟩
  · rw [decide_eq_false h]
    cases q : cs.any fun d => decide ((Sum.inr ⟨#[c]⟩ : Key) = Sum.inr ⟨#[d]⟩) with
    | false => rfl
    | true =>
      obtain ⟨d, hd, e⟩ := List.any_eq_true.mp q
      exact absurd (by rw [sign_inj (Sum.inr.inj (of_decide_eq_true e))]; exact hd) h
section
variable {P : Program} {w : World} {A : Around} {E : Value → Shared → Prop} {s : Shared}
theorem signs_loop {I : Addr} {fp wr : List Addr} {G : Array GenState → Array GenState → Prop} {n : Nat} {Pv : Nat → Value → Prop} {St : Nat → Shared → Prop} {R : Result → Shared → Prop}
    (W : WalksS P w A.in1 I fp wr G n Pv St) (D : Addr) (hD : D ∉ fp) (cs : List Nat) (hn : n = cs.length) (hb : cs.length + 1 < scanBound)
    (hval : ∀ i v, Pv i v → ∃ c t, cs[i]? = some c ∧ v = .str ⟨#[c]⟩ t) :
    ∀ (k i : Nat) (s : Shared), n - i = k → i ≤ n → St i s → s.heap.SetOf (mixKind P w) D (inS (cs.take i)) (met (cs.take i)).length →
      (∀ s', Moved (D :: wr) G s s' → s'.heap.SetOf (mixKind P w) D (inS cs) (met cs).length → R (.ok (.ret .none)) s') →
      codeAny (model P w) A (.builtin "set.update.loop" ⟨[.ref D, .ref I], []⟩) R s := by
  have hDw : D ∉ wr := fun h => hD (W.sub _ h)
  have up : ∀ b ∈ wr, b ∈ D :: wr := fun b q => List.mem_cons_of_mem _ q
  intro k
  induction k with
  | zero =>
    intro i s hk hi hst hS hR
    obtain rfl : i = n := by omega
    refine codeAny_builtin PyProof.Rows.F.entry_set_update_loop (by
      rw [Around.under_plainId PyProof.Rows.F.plain_set_update_loop _]
      show wpAny _ A.in1 (pyNext (.ref I) >>= _) _ _ s
      refine wpAny_bind (W.done s _ _ hst fun s' hm => wpAny_pure (hR s' (hm.mono up) ?_))
      rw [List.take_of_length_le (by omega)] at hS
      obtain ⟨o, es, ep, t, ho, rest⟩ := hS
      exact ⟨o, es, ep, t, hm.heap D _ hDw ho, rest⟩)
  | succ k ih =>
    intro i s hk hi hst hS hR
    have hlt : i < n := by omega
    refine codeAny_builtin PyProof.Rows.F.entry_set_update_loop (by
      rw [Around.under_plainId PyProof.Rows.F.plain_set_update_loop _]
      show wpAny _ A.in1 (pyNext (.ref I) >>= _) _ _ s
      refine wpAny_bind (W.item i s _ _ hlt hst fun v s' hP hst' hm => ?_)
      obtain ⟨c, t, hc, rfl⟩ := hval i v hP
      have hS' : s'.heap.SetOf (mixKind P w) D (inS (cs.take i)) (met (cs.take i)).length := by
        obtain ⟨o, es, ep, tb, ho, rest⟩ := hS
        exact ⟨o, es, ep, tb, hm.heap D _ hDw ho, rest⟩
      show wpAny _ A.in1 (holding [Value.str ⟨#[c]⟩ t] (setAdd D (.str ⟨#[c]⟩ t)) >>= _) _ _ s'
      refine wpAny_bind (wpAny_holding (by
        unfold setAdd
        refine wpAny_holding (wpAny_bind ((mixKind P w).pyHash (k := Sum.inr ⟨#[c]⟩) (mixKind_str _ _ _ _) ?_))
        have room : (met (cs.take i)).length + 1 < scanBound := by
          have h1 := met_length_le (cs.take i)
          rw [List.length_take] at h1
          omega
        refine wpAny_setAddHashed_of (knd := mixKind P w) (s := { s' with toks := s'.toks + 1 }) (mixKind_str _ _ _ _) rfl hS' room fun h' hsb hS2 => ?_
        have e3 : cs.take (i + 1) = cs.take i ++ [c] := by
          rw [List.take_add_one, hc]
          rfl
        have hS3 : h'.SetOf (mixKind P w) D (inS (cs.take (i + 1))) (met (cs.take (i + 1))).length := by
          have f1 : (fun k' => inS (cs.take i) k' || decide (k' = Sum.inr (⟨#[c]⟩ : Str))) = inS (cs.take (i + 1)) := by
            funext k'
            rw [e3]
            unfold inS
            rw [List.any_append]
            simp
          have f2 : (if inS (cs.take i) (Sum.inr ⟨#[c]⟩) = true then (met (cs.take i)).length else (met (cs.take i)).length + 1) = (met (cs.take (i + 1))).length := by
            rw [e3, met_snoc, metStep_length, inS_sign]
            by_cases q : c ∈ cs.take i
            · rw [if_pos (decide_eq_true q), if_pos (mem_met.mpr q)]
            · rw [if_neg (by rw [decide_eq_false q]; exact Bool.false_ne_true), if_neg (fun z => q (mem_met.mp z))]
          rw [← f1, ← f2]
          exact hS2
        refine wpAny_pure ⟨plainId_quiet PyProof.Rows.F.plain_set_update_loop _, ih (i + 1) _ (by omega) hlt (W.frame _ s' _ _ hst' (Nat.le_succ _) fun b q o e => ?_) hS3 fun s2 hm2 hS4 => ?_⟩
        · rw [hsb.2 b (fun z : b = D => hD (by rw [← z]; exact q))]
          exact e
        · refine hR s2 (Moved.trans W.gtrans ((hm.mono up).then_heap (Nat.le_succ _) fun b o q e => ?_) hm2) hS4
          rw [hsb.2 b (fun z : b = D => q (by rw [z]; exact List.mem_cons_self))]
          exact e)))

set_option maxHeartbeats 8000000 in
/-- set(a text) -/
theorem call_set_signs {z : Str} {t : Tok} {Q : Value → Shared → Prop} (hh : A.handled = none) (hb : z.cps.size + 1 < scanBound)
    (h : ∀ (h' : Heap) (tk : Nat), h'.SetOf (mixKind P w) s.heap.objs.size (inS z.cps.toList) (met z.cps.toList).length → (∀ b o, s.heap.get? b = some o → h'.get? b = some o) → Q (.ref s.heap.objs.size) { s with heap := h', toks := tk }) :
    wpAny (model P w) A (call (.type "set") [.str z t]) Q E s := by
  obtain ⟨c, tl, hmro⟩ := PySem.F.called_set.mro
  have hmade := PySem.F.called_set.made; have hsub := PySem.F.called_set.sub
  refine wpAny_call (codeAny_of_tree (by
    show wpAny _ _ (callAny (.type "set") _) _ _ _
    refine wpAny_pure ⟨Code.quiet_builtin _ (by decide +kernel), codeAny_builtin PySem.F.entry_type_call ?_⟩
    rw [Around.under_plain (weight_type_call_type "set" [.str z t] []) rfl]
    have h1 := PySem.F.called_set.notType; have h2 := PySem.F.called_set.canCreate
    have hct := PySem.F.typeCall_set_1 (.str z t)
    repeat (any_goals (first | assumption | wp_step))
    refine codeAny_mono (code_set_new_1 (.str z t) (E := E) (Q₁ := fun obj s₁ => ∃ led : Bool, obj = .ref s.heap.objs.size ∧ s₁ = { s with heap := s.heap.push { cls := .type "set", dict := none, data := .set #[] 0 (.fresh 0 0 led) } }) fun led => ⟨led, rfl, rfl⟩) fun r s₁ hr => ?_
    cases r with
    | error e => exact hr
    | ok fl =>
      cases fl with
      | ret obj =>
        obtain ⟨led, rfl, rfl⟩ := hr
        generalize hNew : ({ cls := .type "set", dict := none, data := .set #[] 0 (.fresh 0 0 led) } : Obj) = nw
        have hfr : ∀ (h : Heap) (a : Addr), h.get? a = some nw → h.SetOf (mixKind P w) a (inS []) (met []).length := by
          intro h a e
          rw [← hNew] at e
          exact ⟨_, #[], 0, _, e, ⟨rfl, rfl, rfl⟩, rfl, (fun e he => by simp at he), (fun k => by simp [inS]), (by decide), (by rfl), rfl⟩
        have hcls : nw.cls = .type "set" := by rw [← hNew]
        have hnf : nw.isFreed = false := by rw [← hNew]; rfl
        have hS : (s.heap.push nw).get? s.heap.objs.size = some nw := Heap.get?_push_size _ hnf
        have hT : Shared.TypeIs { s with heap := s.heap.push nw } (.ref s.heap.objs.size) "set" := ⟨_, hS, hcls⟩
        have hli := PySem.F.called_set.init.lookup; have hbi := PySem.F.called_set.init.bind (.ref s.heap.objs.size)
        repeat (any_goals (first | assumption | wp_step))
        refine codeAny_mono (codeAny_call_builtin (R := wants (fun r s₂ => r = .none ∧ ∃ h' tk, s₂ = { s with heap := h', toks := tk } ∧ h'.SetOf (mixKind P w) s.heap.objs.size (inS z.cps.toList) (met z.cps.toList).length ∧
          (∀ b o, s.heap.get? b = some o → h'.get? b = some o)) E) PySem.F.called_set.init.plain PySem.F.entry_set_init (check_set_init_1 hT ?_)) fun r₂ s₂ hr₂ => ?_
        · subst hNew
          have n1 : isSubtype (.type "str") (.type "set") = pure false := by rw [isSubtype_type]; kernel_rfl
          have n2 : isSubtype (.type "str") (.type "frozenset") = pure false := by rw [isSubtype_type]; kernel_rfl
          have n3 : (Value.type "str" == Value.type "dict") = false := by decide
          unfold Builtin.«set.__init__» noKeywords Builtin.Frozenset.updateFrom
          generalize hPI : pyIter = PI
          wp_walk
          subst hPI
          have hh3 : A.in1.in1.in1.handled = none := by simp [hh]
          generalize hNew : ({ cls := .type "set", data := .set #[] 0 (.fresh 0 0 led) } : Obj) = nw at *
          have hz1 : (s.heap.push nw).objs.size = s.heap.objs.size + 1 := Heap.size_push ..
          have fin : ∀ (ty : String) (wk : Walks P w A.in1.in1.in1 (s.heap.push nw).objs.size [(s.heap.push nw).objs.size] [(s.heap.push nw).objs.size] z.cps.size (SignAt z) (fun i h => h.IsStrIter (s.heap.push nw).objs.size ty z t i))
              (Rk : Result → Shared → Prop), (∀ h' tk, h'.SetOf (mixKind P w) s.heap.objs.size (inS z.cps.toList) (met z.cps.toList).length → (∀ b o, s.heap.get? b = some o → h'.get? b = some o) → Rk (.ok (.ret .none)) { s with heap := h', toks := tk }) →
              codeAny (model P w) A.in1.in1 (.builtin "set.update.loop" ⟨[.ref s.heap.objs.size, .ref (s.heap.push nw).objs.size], []⟩) Rk
                { s with heap := (s.heap.push nw).push { cls := .type ty, data := .fields #[.str z t, .int 0 0] } } := by
            intro ty wk Rk hR
            refine signs_loop (wk.toS) s.heap.objs.size (by rw [hz1]; simp) z.cps.toList (by simp) (by simpa using hb) (fun i v hv => ?_) (z.cps.size - 0) 0 _ (by omega) (Nat.zero_le _) ⟨_, Heap.get?_push_size _ rfl, rfl, rfl⟩ ?_ ?_
            · obtain ⟨c, u, hc, rfl⟩ := hv
              exact ⟨c, u, by rw [Array.getElem?_toList]; exact hc, rfl⟩
            · exact hfr _ _ (Heap.get?_push_of_some _ hS)
            · intro s' hm hS'
              obtain ⟨h', g', d', tk', os'⟩ := s'
              obtain rfl : g' = s.gens := hm.gens
              obtain rfl : d' = s.drawn := hm.drawn
              obtain rfl : os' = s.os := hm.os
              refine hR h' tk' hS' fun b o e => ?_
              have hb0 : b < s.heap.objs.size := Heap.lt_size e
              have n1 : b ∉ s.heap.objs.size :: [(s.heap.push nw).objs.size] := by
                rw [hz1]
                intro q
                rcases List.mem_cons.mp q with q | q
                · exact Nat.ne_of_lt hb0 q
                · exact Nat.ne_of_lt (Nat.lt_succ_of_lt hb0) (List.mem_singleton.mp q)
              exact hm.heap b o n1 (Heap.get?_push_of_some _ (Heap.get?_push_of_some _ e))
          cases ha : z.cps.all (· < 128)
          · refine wpAny_pyIter_wide ha (wpAny_bind (wpAny_runValue (fin _ (Walks.strWide hh3 _ z t) _ fun h' tk hS2 hk2 => wpAny_pure ?_)))
            exact wpAny_pure ⟨rfl, h', tk, rfl, hS2, hk2⟩
          · refine wpAny_pyIter_ascii ha (wpAny_bind (wpAny_runValue (fin _ (Walks.strAscii hh3 _ z t) _ fun h' tk hS2 hk2 => wpAny_pure ?_)))
            exact wpAny_pure ⟨rfl, h', tk, rfl, hS2, hk2⟩
        · cases r₂ with
          | error e => exact hr₂
          | ok fl₂ =>
            cases fl₂ with
            | ret r =>
              obtain ⟨rfl, h', tk, rfl, hS', hk'⟩ := hr₂
              repeat (any_goals (first | assumption | wp_step))
              exact h _ _ hS' hk'
            | _ => exact hr₂.elim
      | _ => exact hr.elim))
end
end Mo

namespace Mo
open PySem PySem.Spec PyProof.Rows L2
/-! ### the rules over the layer -/
section
variable {X : Cx}
def rSetS (P : Program) (w : World) : List V → Hp → VK → Prop := fun xs H Q => ∃ z : Str, xs = [.str z] ∧ z.cps.size ≤ 4000 ∧ ∀ p, H p = none → Q (.ref p) (upd H p (SetK P w p (inS z.cps.toList) (met z.cps.toList).length))
/-- set(z), z a text -/
theorem cr_setS (hc : X.calm = true) : CallR X (.type "set") (rSetS X.prog X.w) := by
  intro pins s σ H xs us Q I r h
  obtain ⟨z, rfl, hz, q⟩ := h
  obtain ⟨u, rfl, t, rfl⟩ := vals1 r
  refine call_set_signs (I.ok.hd hc) (by unfold scanBound; omega) fun h' tk hS hk => ?_
  exact ⟨.ref _, _, I.laid (t' := tk) hk (Nat.le_refl _) (setK_new hS), rfl, q _ (I.hok.fresh (Nat.le_refl _))⟩
def rLenK (P : Program) (w : World) : List V → Hp → VK → Prop := fun xs H Q => ∃ a S n, xs = [V.ref a] ∧ H a = some (SetK P w a S n) ∧ (n : Int) < 2 ^ 62 ∧ Q (.int (n : Nat)) H
/-- len(a set) -/
theorem cr_lenK : CallR X (.builtin "len") (rLenK X.prog X.w) := by
  intro pins s σ H xs us Q I r h
  obtain ⟨a, S, n, rfl, ha, hn, q⟩ := h
  obtain ⟨u, rfl, ru⟩ := vals1 r
  cases ru
  obtain ⟨o, es, ep, t, ho, hex, hd, _, _, _, hf, hes⟩ := setK_get I ha
  refine call_len_set ho hex hd hf (by rw [hes]; omega) ⟨.int (n : Nat), H, I.tok _, ⟨_, by rw [hes]⟩, q⟩
/-- repr(z), z a text -/
theorem cr_reprS : CallR X (.builtin "repr") (fun xs H Q => ∃ z : Str, xs = [.str z] ∧ (reprText z).length ≤ sizeLine ∧ Q (.str (reprText z)) H) := by
  intro pins s σ H xs us Q I r h
  obtain ⟨z, rfl, hz, q⟩ := h
  obtain ⟨u, rfl, t, rfl⟩ := vals1 r
  exact PySem.P.repr_of_str ⟨.str _, H, I.tok _, ⟨_, rfl⟩, q⟩ hz
/-! rules within a comprehension's block: the written part named, so that the reading is the same in every block -/
def rLenSq (K : PySem.W.Frag) : List V → Hp → VK → Prop := fun xs H Q => ∃ p ys, xs = [.ref p] ∧ (SqL K H p ys ∨ SqT K H p ys) ∧ Q (.int ys.length) H
theorem call_len_seqK {K : PySem.W.Frag} (h : X.K = K) : CallR X (.builtin "len") (rLenSq K) := by
  subst h
  exact call_len_seq
theorem ix_listK {K : PySem.W.Frag} (h : X.K = K) : IxR X (rIxL K) := by
  subst h
  exact ix_list
theorem op_notIn_seqK {K : PySem.W.Frag} (h : X.K = K) : OpR X (compareOp .NotIn) (rIn K true) := by
  subst h
  exact op_notIn_seq
theorem op_in_seqK {K : PySem.W.Frag} (h : X.K = K) : OpR X (compareOp .In) (rIn K false) := by
  subst h
  exact op_in_seq
theorem pg_tupK {K : PySem.W.Frag} {es : List Expr} {t : TGs} {k n : Nat} {pos : Pos} (h : X.K = K) (hc : X.calm = true) (hs : PGs X es t)
    (hn : (assignEach es X.env).length = n := by rfl) (hst : (assignEach es X.env).findIdx? (·.1) = none := by rfl) : PG X (.Tuple es k pos) (gTup K n t) := by
  subst h
  exact pg_tup hc hs hn hst
/-- z[::-1], z a text -/
def revS (z : Str) : Str := ⟨z.cps.toList.reverse.toArray⟩
def tRevS (te : TE) : TE := fun σ H Q => te σ H fun x H1 => ∃ z, x = .str z ∧ z.length ≤ sizeLine ∧ Q (.str (revS z)) H1
theorem back_idx (n : Nat) : Builtin.Str.strSliceIndices none none (-1) n = (List.range n).reverse := by
  show sliceRange ((n : Int) - 1) (-1) (-1) = _
  rw [PySem.W.krv_sliceRange, PySem.W.krv_range]
theorem back_pick (z : Str) : ((Builtin.Str.strSliceIndices none none (-1) z.length).filterMap (z.cps[·]?)).toArray = z.cps.toList.reverse.toArray := by
  rw [back_idx, List.filterMap_reverse]
  show ((List.range z.cps.size).filterMap (z.cps[·]?)).reverse.toArray = _
  rw [PySem.W.krv_all]
theorem pe_revS {e : Expr} {te : TE} {k : Nat} {p1 p2 p3 pos : Pos} (he : PE X e te) : PE X (.Subscript e (.Slice none none (some (.UnaryOp .USub (.Constant (.int 1) k p1) p2)) p3) pos) (tRevS te) := by
  refine ⟨fun pins s σ H Q I h => ?_⟩
  refine Subscript_ (thn (he.run pins s σ H _ I h) fun v s1 ⟨x, H1, I1, r1, z, ez, hz, q⟩ => ?_)
  subst ez
  obtain ⟨t, rfl⟩ := r1
  have hst : PO X (some (.UnaryOp .USub (.Constant (.int 1) k p1) p2)) (tPart (tUn (rU fun i => .int (-i)) (tC (.int 1)))) := po_some (pe_un un_neg pe_int)
  refine wpAny_Slice (thn (po_none.run pins s1 σ H1 (fun o H2 => o = none ∧ H2 = H1) I1 ⟨rfl, rfl⟩) fun vl s2 ⟨l, H2, I2, pl, el, e2⟩ => ?_)
  subst el e2
  refine thn (po_none.run pins s2 σ H2 (fun o H3 => o = none ∧ H3 = H2) I2 ⟨rfl, rfl⟩) fun vu s3 ⟨u, H3, I3, pu, eu, e3⟩ => ?_
  subst eu e3
  refine thn (hst.run pins s3 σ H3 (fun o H4 => o = some (-1) ∧ H4 = H3) I3 ⟨1, rfl, -1, rfl, rfl, rfl⟩) fun vs s4 ⟨o, H4, I4, ps, eo, e4⟩ => ?_
  subst eo e4
  have I5 : Inv X pins σ H4 { s4 with heap := s4.heap.push { cls := .type "slice", data := .fields #[vl, vu, vs] } } := I4.kept (t' := s4.toks) fun b ob q => Heap.get?_push_of_some _ q
  obtain ⟨l, rfl, el⟩ := IsPart.raw pl
  obtain ⟨u, rfl, eu⟩ := IsPart.raw pu
  obtain ⟨sp, rfl, es⟩ := IsPart.raw ps
  show wpAny (model X.prog X.w) X.A (subscriptTail e (.Slice none none (some (.UnaryOp .USub (.Constant (.int 1) k p1) p2)) p3) (.str z t) (.ref s4.heap.objs.size)) (EP X pins σ Q) X.xe { s4 with heap := s4.heap.push { cls := .type "slice", data := .fields #[partValue l, partValue u, partValue sp] } }
  refine tail_any (ops := [.str z t, .ref s4.heap.objs.size]) (typeIs_str _ _ _) (F.slot_str_getitem.lookup) ?_ (by with_unfolding_all rfl)
  refine wpAny_getItem_str_slice (l := l) (u := u) (st := sp) ⟨_, Heap.get?_push_size _ rfl, rfl, rfl⟩ (by rw [es]; rfl) ?_
  unfold sliceMade slicePicked
  rw [el, eu, es]
  show Made.post (Made.str ⟨((Builtin.Str.strSliceIndices none none (-1) z.length).filterMap (z.cps[·]?)).toArray⟩) (EP X pins σ Q) _
  rw [back_pick]
  refine ⟨?_, .str (revS z), H4, I5.tok _, ⟨_, rfl⟩, q⟩
  show (z.cps.toList.reverse.toArray).size ≤ sizeLine
  rw [List.size_toArray, List.length_reverse, Array.length_toList]
  exact hz
/-! ### enumerate(z), z a text -/
def IteS (z : Str) : It := ⟨fun i _ => i < z.cps.size, fun i H v H' => ∃ T c, v = .ref T ∧ H T = none ∧ z.cps[i]? = some c ∧ H' = upd H T (.tup [.int (i : Nat), .str ⟨#[c]⟩]), fun i _ => z.cps.size ≤ i⟩
theorem strIter_kind (z : Str) : strIterType z = "str_ascii_iterator" ∨ strIterType z = "str_iterator" := by
  unfold strIterType
  split
  · exact .inl rfl
  · exact .inr rfl
theorem draws_str {P : Program} {w : World} {A : Around} (hh : A.handled = none) (it : Addr) (z : Str) (t : Tok) :
    Draws P w A it [it] z.cps.size (fun i v => ∃ c u, z.cps[i]? = some c ∧ v = .str ⟨#[c]⟩ u) (fun i h => h.IsStrIter it (strIterType z) z t i) := by
  rcases strIter_kind z with e | e
  · rw [e]; exact Draws.strAscii hh it z t
  · rw [e]; exact Draws.strWide hh it z t
theorem turn_enumS {P : Program} {w : World} {K : PySem.W.Frag} {elts : List Expr} {kk : Nat} {tpos : Pos} (z : Str) (t : Tok) (e it : Addr) :
    Turn P w K (.Tuple elts kk tpos) (IteS z) [e, it] e (fun i h => (∃ old, IsEnum h e it ((i : Nat) : Int) old) ∧ h.IsStrIter it (strIterType z) z t i ∧ e ≠ it ∧ i ≤ z.cps.size) where
  mem := by simp
  obj := fun i h st b hb => by
    obtain ⟨⟨old, he⟩, ⟨o, ho, hc, hd⟩, _⟩ := st
    rcases (by simpa using hb : b = e ∨ b = it) with q | q
    · rw [q]; exact ⟨_, he, fun v q => nomatch q⟩
    · rw [q]; exact ⟨o, ho, fun v q => by rw [hd] at q; cases q⟩
  keep := fun i h h' st k => let ⟨⟨old, he⟩, ⟨o, ho, r⟩, hne⟩ := st; ⟨⟨old, k e (by simp) _ he⟩, ⟨o, k it (by simp) o ho, r⟩, hne⟩
  item := by
    intro X hP hw hK hc i pins s σ H E I hf st hg
    subst hP hw hK
    obtain ⟨⟨old, he⟩, hit, hne, hle⟩ := st
    have hi : i < z.cps.size := hg
    have hel : e < s.heap.objs.size := Heap.lt_size he
    have hil : it < s.heap.objs.size := by obtain ⟨_, q, _⟩ := hit; exact Heap.lt_size q
    have hh : X.A.in1.handled = none := by simpa using I.ok.hd hc
    refine wpAny_pyNext_enum_itemD (draws_str hh it z t) he hit hi hne (by simpa using hne) fun x h' tk hP ho hit' hT hsz hk => ?_
    obtain ⟨c, u, hcx, rfl⟩ := hP
    refine ⟨_, rfl, wpAny_letOwnedTupleGo_enum (s := { s with heap := h', toks := tk + 1 }) ho fun h2 he' sb => ?_⟩
    have hT2 := (sb.2 _ (Nat.ne_of_gt hel)).trans hT
    have new : ObjOk X.prog X.w (upd H s.heap.objs.size (.tup [.int (i : Nat), .str ⟨#[c]⟩])) h2 s.heap.objs.size (.tup [.int (i : Nat), .str ⟨#[c]⟩]) :=
      ⟨by show 2 ≤ sizeLine; decide, [.int i tk, .str ⟨#[c]⟩ u], .cons ⟨_, rfl⟩ (.cons ⟨_, rfl⟩ .nil), ⟨_, hT2, rfl, _, rfl⟩⟩
    have I1 : Inv X pins σ (upd H s.heap.objs.size (.tup [.int (i : Nat), .str ⟨#[c]⟩])) { s with heap := h2, toks := tk + 1 } :=
      I.turnedNew (ch := [e, it]) (fun b ob hb q => (sb.2 b (fun z => hb (by simp [z]))).trans (hk b ob (fun z => hb (by simp [z])) (fun z => hb (by simp [z])) q)) hf (Nat.le_refl _) new
    obtain ⟨oi, hoi, r⟩ := hit'
    refine ⟨.ref s.heap.objs.size, _, I1, rfl, ⟨_, c, rfl, I.hok.fresh (Nat.le_refl _), hcx, rfl⟩, ⟨⟨.str ⟨#[c]⟩ u, ?_⟩, ⟨oi, (sb.2 it (Ne.symm hne)).trans hoi, r⟩, hne, hi⟩, fun b hb => ?_⟩
    · have e1 : ((i + 1 : Nat) : Int) = (i : Int) + 1 := by omega
      rw [e1]; exact he'
    · have hb' : b < s.heap.objs.size := by
        rcases (by simpa using hb : b = e ∨ b = it) with q | q
        · rw [q]; exact hel
        · rw [q]; exact hil
      rw [upd_ne (Nat.ne_of_lt hb')]
      exact (hf b hb).1
  done := by
    intro X hP hw hK hc i pins s σ H E I hf st hg
    subst hP hw hK
    obtain ⟨⟨old, he⟩, hit, hne, hle⟩ := st
    have hi : i = z.cps.size := Nat.le_antisymm hle hg
    subst hi
    obtain ⟨f0, f1, f2, f3, f4, f5⟩ := hf it (by simp)
    have hh : X.A.in1.handled = none := by simpa using I.ok.hd hc
    exact wpAny_pyNext_enum_endD (draws_str hh it z t) he hit fun h' eb => ⟨rfl, I.turned (t' := s.toks) (fun b o hb q => eb b o hb q) f0 f1 f3 f4 f5⟩
  self := fun A i s Q E st h => let ⟨⟨_, he⟩, _⟩ := st; wpAny_pyIter_enum he h
def iEnumS (ta : TA) : TI := fun σ H R => ta σ H fun vs H1 => ∃ z : Str, vs = [.str z] ∧ R (IteS z) H1
theorem pi_enumS {e : Expr} {ta : TA} {p pos tpos : Pos} {elts : List Expr} {kk : Nat} (hg : Gl X "enumerate") (hm : X.mg "enumerate" = none) (ha : PA X [e] ta) (hs : starEach [e] X.env = [(false, eval e X.env)] := by rfl) :
    PI X (.Tuple elts kk tpos) (.Call (.Name "enumerate" p) [e] [] pos) (iEnumS ta) := by
  refine ⟨fun pins s σ H R I h => ?_⟩
  refine Call_ (ld_blt I hg hm boot_enumerate (PyProof.Rows.callWith_type1 (thn (ha.run pos pins s σ H _ I h) fun us s1 ⟨vs, H1, I1, r1, q1⟩ => ?_) hs rfl))
  obtain ⟨z, rfl, q⟩ := q1
  obtain ⟨u, rfl, t, rfl⟩ := vals1 r1
  refine call_enumerate_str fun h' he hit hsz hk => wpAny_pyIter_enum he ?_
  have I2 : Inv X pins σ H1 { s1 with heap := h' } := I1.kept (t' := s1.toks) hk
  refine ⟨s1.heap.objs.size + 1, [s1.heap.objs.size + 1, s1.heap.objs.size], _, _, H1, rfl, I2, turn_enumS z t (s1.heap.objs.size + 1) s1.heap.objs.size, ⟨⟨.none, he⟩, hit, Nat.succ_ne_self _, Nat.zero_le _⟩, fun b hb => ?_, q⟩
  have hle : s1.heap.objs.size ≤ b := by
    rcases (by simpa using hb : b = s1.heap.objs.size + 1 ∨ b = s1.heap.objs.size) with q | q
    · rw [q]; exact Nat.le_add_right _ _
    · rw [q]; exact Nat.le_refl _
  exact I1.fpOk hle (I1.hok.fresh hle)
theorem walk_enumS {z : Str} : Walk (IteS z) z.cps.size (fun _ => True) (YPair (fun i => some (.int (i : Nat))) (fun i => z.cps[i]?.map fun c => .str ⟨#[c]⟩)) :=
  ⟨fun _ _ hi _ => hi, fun _ _ => Nat.le_refl _, fun i H v H' _ _ ⟨T, c, h1, h2, h3, h4⟩ => ⟨T, .int (i : Nat), .str ⟨#[c]⟩, h1, h2, h4, rfl, by show Option.map _ z.cps[i]? = _; rw [h3]; rfl⟩⟩
end
end Mo

namespace Mo
open PySem PySem.Spec PyProof.Rows L2
/-! ### texts as lists of codes -/
def tx (cs : List Nat) : Str := ⟨cs.toArray⟩
abbrev sg (c : Nat) : V := .str ⟨#[c]⟩
theorem tx_eta (z : Str) : tx z.cps.toList = z := rfl
theorem tx_list (cs : List Nat) : (tx cs).cps.toList = cs := rfl
theorem tx_len (cs : List Nat) : (tx cs).length = cs.length := by show cs.toArray.size = _; simp
theorem tx_size (cs : List Nat) : (tx cs).cps.size = cs.length := by show cs.toArray.size = _; simp
theorem tx_inj {a b : List Nat} (h : tx a = tx b) : a = b := by
  have q := congrArg (fun z : Str => z.cps.toList) h
  exact q
theorem tx_app (a b : List Nat) : tx a ++ tx b = tx (a ++ b) := by
  show (⟨a.toArray ++ b.toArray⟩ : Str) = ⟨(a ++ b).toArray⟩
  simp
theorem tx_app1 (a : List Nat) (c : Nat) : tx a ++ (⟨#[c]⟩ : Str) = tx (a ++ [c]) := tx_app a [c]
theorem tx_get {cs : List Nat} {i : Nat} : (tx cs).cps[i]? = cs[i]? := by
  show cs.toArray[i]? = cs[i]?
  simp
theorem fits5 {n : Nat} (h : n ≤ 100000) : n ≤ sizeLine := Nat.le_trans h (by decide)
theorem fitsLt {n : Nat} (h : n ≤ 100000) : n < sizeLine := Nat.lt_of_le_of_lt h (by decide)
/-- small letters alone -/
def Low (cs : List Nat) : Prop := ∀ c ∈ cs, 97 ≤ c ∧ c ≤ 122
theorem tx_nil : Str.ofString "" = tx [] := by decide +kernel
theorem join_signs : ∀ cs : List Nat, Txt.join (Str.ofString "") (cs.map fun c => (⟨#[c]⟩ : Str)) = tx cs := by
  have key : ∀ cs : List Nat, Str.join (tx []) (cs.map fun c => (⟨#[c]⟩ : Str)) = tx cs := by
    intro cs
    induction cs with
    | nil => rfl
    | cons c r ih =>
      cases r with
      | nil => rfl
      | cons e r =>
        show (⟨#[c]⟩ : Str) ++ tx [] ++ Str.join (tx []) ((e :: r).map fun c => (⟨#[c]⟩ : Str)) = tx (c :: e :: r)
        rw [ih]
        show tx [c] ++ tx [] ++ tx (e :: r) = _
        rw [tx_app, tx_app]
        rfl
  intro cs
  show Builtin.Str.glued _ _ = _
  rw [StrLaws.glued_eq_join, tx_nil]
  exact key cs
/-! ### the pen -/
def penD (c : Addr) (t r : Int) : List (Key × V) := [(.inr "cells", .ref c), (.inr "turn", .int t), (.inr "rest", .int r)]
theorem k_ct : ¬ ((Sum.inr "cells" : Key) = (Sum.inr "turn" : Key)) := by decide +kernel
theorem k_cr : ¬ ((Sum.inr "cells" : Key) = (Sum.inr "rest" : Key)) := by decide +kernel
theorem k_tr : ¬ ((Sum.inr "turn" : Key) = (Sum.inr "rest" : Key)) := by decide +kernel
theorem pen_cells (c : Addr) (t r : Int) : valV (penD c t r) (Sum.inr "cells") = some (.ref c) := valV_pos rfl
theorem pen_turn (c : Addr) (t r : Int) : valV (penD c t r) (Sum.inr "turn") = some (.int t) := by
  unfold penD
  rw [valV_neg k_ct, valV_pos rfl]
theorem pen_rest (c : Addr) (t r : Int) : valV (penD c t r) (Sum.inr "rest") = some (.int r) := by
  unfold penD
  rw [valV_neg k_cr, valV_neg k_tr, valV_pos rfl]
theorem put_turn (c : Addr) (t r u : Int) : putK (penD c t r) (Sum.inr "turn") (.int u) = penD c u r := by
  unfold putK penD
  have k1 := k_ct
  have k2 : ¬ ((Sum.inr "rest" : Key) = (Sum.inr "turn" : Key)) := fun e => k_tr e.symm
  simp only [List.any_cons, List.map_cons, List.map_nil, k1, k2, if_false, if_true, decide_true, decide_false, Bool.true_or, Bool.or_true, Bool.false_or]
theorem put_rest (c : Addr) (t r u : Int) : putK (penD c t r) (Sum.inr "rest") (.int u) = penD c t u := by
  unfold putK penD
  have k1 := k_cr
  have k2 := k_tr
  simp only [List.any_cons, List.map_cons, List.map_nil, k1, k2, if_false, if_true, decide_true, decide_false, Bool.true_or, Bool.or_true, Bool.false_or]
theorem pen_merge (c : Addr) (t r : Int) : mergeK [] (penD c t r) = penD c t r := by
  have k1 := k_ct
  have k2 := k_cr
  have k3 := k_tr
  simp only [mergeK, penD, putK, List.foldl_cons, List.foldl_nil, List.any_nil, List.any_cons, List.nil_append, List.cons_append, k1, k2, k3, decide_false, Bool.or_false, Bool.false_eq_true, if_false]
/-- the pen at d, its cells at c, t draws done -/
def Pen (H : Hp) (d c : Addr) (t : Nat) : Prop := ∃ (ns : List Int) (r : Int), H d = some (.dK (penD c t r)) ∧ H c = some (.lst (ns.map V.int)) ∧ ns.length ≤ 63 ∧ 0 ≤ r
theorem Pen.ne {H : Hp} {d c : Addr} {t : Nat} (h : Pen H d c t) : d ≠ c := by
  obtain ⟨ns, r, h1, h2, _⟩ := h
  exact ne_of h1 h2 (by intro z; cases z)
/-- all but d is as it was -/
def But (d : Addr) (H H' : Hp) : Prop := ∀ b o, b ≠ d → H b = some o → H' b = some o
theorem But.refl (d : Addr) (H : Hp) : But d H H := fun _ _ _ h => h
theorem But.trans {d : Addr} {H H1 H2 : Hp} (a : But d H H1) (b : But d H1 H2) : But d H H2 := fun c o n h => b c o n (a c o n h)
theorem But.same {d : Addr} {H H1 : Hp} (a : Same H H1) : But d H H1 := fun c o _ h => a c o h
theorem But.none {d : Addr} {H H1 : Hp} (a : But d H H1) {p : Addr} (h : H1 p = none) (n : p ≠ d) : H p = none := by
  cases q : H p with
  | none => rfl
  | some o =>
    rw [a p o n q] at h
    cases h
theorem Pen.new {H : Hp} {d c : Addr} {t : Nat} (h : Pen H d c t) {p : Addr} (hp : H p = none) : p ≠ d ∧ p ≠ c := by
  obtain ⟨ns, r, h1, h2, _⟩ := h
  exact ⟨(ne_of_none h1 hp).symm, (ne_of_none h2 hp).symm⟩
theorem Pen.upd {H : Hp} {d c : Addr} {t : Nat} (h : Pen H d c t) {p : Addr} {o : HO} (h1 : p ≠ d) (h2 : p ≠ c) : Pen (upd H p o) d c t := by
  obtain ⟨ns, r, e1, e2, e3⟩ := h
  exact ⟨ns, r, by rw [upd_ne h1.symm]; exact e1, by rw [upd_ne h2.symm]; exact e2, e3⟩
theorem Pen.same {H H' : Hp} {d c : Addr} {t : Nat} (h : Pen H d c t) (s : Same H H') : Pen H' d c t := by
  obtain ⟨ns, r, e1, e2, e3⟩ := h
  exact ⟨ns, r, s _ _ e1, s _ _ e2, e3⟩
theorem same_new {H : Hp} {p : Addr} {o : HO} (h : H p = none) : Same H (L2.upd H p o) := fun b x e => by
  rw [upd_ne (ne_of_none e h)]
  exact e
theorem But.set {d : Addr} {H : Hp} {o : HO} : But d H (L2.upd H d o) := fun b x n e => by
  rw [upd_ne n]
  exact e
theorem But.put {d : Addr} {H H' : Hp} {o : HO} (b : But d H H') {D : Addr} (n : H D = Option.none) : But d H (L2.upd H' D o) := fun x y nx e => by
  rw [upd_ne (ne_of_none e n)]
  exact b x y nx e
theorem Same.put {H H' : Hp} {o : HO} (b : Same H H') {D : Addr} (n : H D = Option.none) : Same H (L2.upd H' D o) := fun x y e => by
  rw [upd_ne (ne_of_none e n)]
  exact b x y e
theorem pen_set {H : Hp} {d c : Addr} {t : Nat} (h : Pen H d c t) {u : Nat} {r : Int} (hr : 0 ≤ r) : Pen (L2.upd H d (.dK (penD c u r))) d c u := by
  have n := h.ne
  obtain ⟨ns, r0, e1, e2, e3, _⟩ := h
  exact ⟨ns, r, upd_same, by rw [upd_ne n.symm]; exact e2, e3, hr⟩
def spDraw : Sp := fun vs H Q _ => ∃ (d c : Addr) (n : Int) (t : Nat), vs = [.ref d, .int n] ∧ Pen H d c t ∧ 0 < n ∧ n < 1073741824 ∧ t < 1073741824 ∧
  ∀ H' k t', But d H H' → Pen H' d c t' → t' ≤ t + 1 → 0 ≤ k → k < n → Q (.int k) H'
def spPick (K : PySem.W.Frag) : Sp := fun vs H Q _ => ∃ (d c l : Addr) (xs : List V) (t : Nat), vs = [.ref d, .ref l] ∧ Pen H d c t ∧ SqL K H l xs ∧ l ≠ d ∧ 0 < xs.length ∧ xs.length < 1073741824 ∧ t < 1073741824 ∧
  ∀ H' v t', But d H H' → Pen H' d c t' → t' ≤ t + 1 → v ∈ xs → Q v H'
end Mo

namespace Mo
open PySem PySem.Spec PyProof.Rows L2
/-! ### an error that is kept behind its except suite -/
/-- at a: an error of the class cls, its own dict d -/
def exV (a : Addr) (cls : Value) (d : Option Addr) : HO := .ext fun h => ∃ oe vs, h.get? a = some oe ∧ Zc cls d oe ∧ oe.data = .fields vs
section
variable {X : Cx} {pins : List (Addr × Obj)} {σ : L2.St} {H : Hp} {s : Shared}
/-- an object that was not there at the entry is tracked from now on -/
theorem track {a : Addr} {oe : Obj} {vs : Array Value} {o : HO} (I : Inv X pins σ H s) (ha : s.heap.get? a = some oe) (hd : oe.data = .fields vs) (na : H a = none) (nL : a ≠ X.env.locals)
    (n0 : ∀ u, X.s_0.heap.get? a = some u → a ∈ X.ex) (np : ∀ p ∈ X.pn ++ pins, p.1 ≠ a) (new : ObjOk X.prog X.w (upd H a o) s.heap a o) : Inv X pins σ (upd H a o) s := by
  have ne : ∀ b u, H b = some u → b ≠ a := fun b u e => ne_of_none e na
  refine ⟨I.ok, I.os, I.bare, ⟨I.base.keep, I.base.slot, fun b u q n hx => ?_, I.base.there, fun b xs e => ?_, fun b u w e => ?_, fun b ps e => ?_⟩, I.loc, I.cell, ?_, fun x c e => ?_, fun p hp => ?_, fun b u e => ?_, I.len⟩
  · rw [upd_ne (fun z : b = a => hx (by rw [z]; exact n0 u (by rw [← z]; exact q)))]
    exact I.base.free b u q n hx
  · have q := I.base.tups b xs e
    rw [upd_ne (ne _ _ q)]
    exact q
  · have q := I.base.frzs b u w e
    rw [upd_ne (ne _ _ q)]
    exact q
  · obtain ⟨more, q⟩ := I.base.tbls b ps e
    exact ⟨more, by rw [upd_ne (ne _ _ q)]; exact q⟩
  · rw [upd_ne nL.symm]
    exact I.free
  · obtain ⟨v, oc, hoc, hcc⟩ := I.cell x c e
    have nca : c ≠ a := fun z => by
      rw [z, ha] at hoc
      cases hoc
      rw [hd] at hcc
      cases hcc
    rw [upd_ne nca]
    exact I.freeC x c e
  · obtain ⟨h1, h2, h3⟩ := I.pin p hp
    exact ⟨h1, by rw [upd_ne (np p hp)]; exact h2, h3⟩
  · by_cases hb : b = a
    · subst hb
      rw [upd_same] at e
      cases e
      exact new
    · rw [upd_ne hb] at e
      refine (I.hok b u e).stay (fun c v _ q => q) (fun c q => ?_) fun c xs q => ?_
      · rw [upd_ne (ne _ _ q)]
        exact q
      · rw [upd_ne (ne _ _ q)]
        exact q
theorem exV_ok {P : Program} {w : World} {H : Hp} {h : Heap} {a : Addr} {cls : Value} {d : Option Addr} {oe : Obj} {vs : Array Value} (e : h.get? a = some oe) (z : Zc cls d oe) (hd : oe.data = .fields vs) : ObjOk P w H h a (exV a cls d) :=
  ⟨⟨oe, vs, e, z, hd⟩, ⟨oe, e⟩, fun h1 h2 ⟨o1, v1, e1, z1, d1⟩ k => ⟨o1, v1, k _ e1, z1, d1⟩⟩
theorem exV_at {a : Addr} {cls : Value} {d : Option Addr} (I : Inv X pins σ H s) (e : H a = some (exV a cls d)) : ∃ oe vs, s.heap.get? a = some oe ∧ Zc cls d oe ∧ oe.data = .fields vs := (I.hok a _ e).1
end
/-- what 'except x as n: kept = n' wishes of an error of the body: n in slot i, kept in slot j; behind it the error is tracked -/
def wKeep (K : PySem.W.Frag) (c : Value) (i j : Nat) (Wout : WX) (D : Ends) : WX := fun cls d σ H =>
  ∃ b, PySem.W.exmOne K cls c = some b ∧ (b = true → ∀ a, H a = none → D.nx (((σ.set i (some (.ref a))).set j (some (.ref a))).set i none) (upd H a (exV a cls d))) ∧ (b = false → Wout cls d σ H)
section
variable {X : Cx} {x n kx : Str} {c : Value} {i j : Nat} {body : List Stmt} {np np2 kp ap pos pos' : Pos} {tb : WX → TS} {Wout : WX}
theorem ps_try_keep (hs : X.stack = X.env :: X.outer) (hf : X.env.frame = some X.env.locals) (hN : X.N.Nodup) (hi : X.N[i]? = some n) (hj : X.N[j]? = some kx) (hln : X.env.kindOf n = some .local) (hlk : X.env.kindOf kx = some .local) (hc : Names X x c) (tk : Takes X Wout)
    (hb : ∀ (W : WX) (pn : List (Addr × Obj)) (xe : Value → Shared → Prop), Takes (X.tr pn xe) W → PassesOwn (model X.prog X.w) X.A X.env xe → PSs (X.tr pn xe) body (tb W))
    (hsu : ∀ (a : Addr) (oe : Obj) (pn : List (Addr × Obj)), PSs (X.suite a ((a, oe) :: pn)) [.Assign [.Name kx kp] (.Name n np2) ap] (tAsg (tVar i) (gName j))) :
    PS X (.Try body [.ExceptHandler (some (.Name x np)) (some n) [.Assign [.Name kx kp] (.Name n np2) ap] pos'] [] [] pos) (fun D σ H => tb (wKeep X.K c i j Wout D) D σ H) := by
  refine ⟨fun pins s σ H D I h => ?_⟩
  have ok := I.ok
  have hfr : X.A.frames = some (X.env :: X.outer) := ok.frames.trans (by rw [hs])
  refine wpAny_Try_except (wpAny_mono ((hb (wKeep X.K c i j Wout D) (X.pn ++ pins) (fun e s₁ => wpAny (model X.prog X.w) X.A (noteFrame e X.env) (fun _ s₂ => wpAny (model X.prog X.w) X.A (setFlight e none) (fun _ s₃ =>
    wpAny (model X.prog X.w) X.A (handleBy e X.env [.ExceptHandler (some (.Name x np)) (some n) [.Assign [.Name kx kp] (.Name n np2) ap] pos']) (SP X pins D) X.xe s₃) X.xe s₂) X.xe s₁) (fun u s' xx => ?_) PassesOwn.looking).run [] s σ H D (I.toTry _) h) (fun f s1 hsp => ?_) (fun e s1 he => he))
  · obtain ⟨a, B, sI, pins', σ', H', cls, d, rfl, J', nb, up, sky, na, os, ag, b, hb1, hyes, hno⟩ := xx
    have J : Inv X pins σ' H' sI := J'.ofTry ok
    have sky' : Sky B (X.env :: X.outer) a (Zc cls d) X.env.locals s'.heap := hs ▸ sky
    show wpAny (model X.prog X.w) X.A (noteFrame (.ref a) X.env) _ _ _
    refine Sky.land Zc.steady hfr hf sky' fun h3 fl3 up3 => ?_
    have J3 : Inv X pins σ' H' { s' with heap := h3 } := J.landed nb fl3.1 (up.trans up3) os ag
    obtain ⟨oe3, vs3, he3, hz3, hd3⟩ := fl3.there
    have nfr : a ∉ frs (X.env :: X.outer) := fun hm => by
      obtain ⟨_, o', e', hnf⟩ := fl3.2.2.1.mem hm
      rw [he3] at e'
      cases e'
      exact hnf _ hd3
    have nL : a ≠ X.env.locals := fun z => nfr (List.mem_filterMap.mpr ⟨X.env, List.mem_cons_self, hf.trans (congrArg some z.symm)⟩)
    have nF : a ∉ X.fs := fun hm => by
      obtain ⟨e, he, q⟩ := List.mem_filterMap.mp hm
      exact nfr (List.mem_filterMap.mpr ⟨e, List.mem_cons_of_mem _ he, q⟩)
    have nB : B.get? a = none := fl3.2.1
    have nI : sI.heap.get? a = none := by
      cases q : sI.heap.get? a with
      | none => rfl
      | some o =>
        have z := nb a o q (by show a ∉ frs X.stack; rw [hs]; exact nfr)
        rw [nB] at z
        cases z
    have n0 : ∀ u, X.s_0.heap.get? a = some u → a ∈ X.ex := fun u q => by
      by_cases hx : a ∈ X.ex
      · exact hx
      · obtain ⟨o', z⟩ := J.base.there a u q hx
        rw [nI] at z
        cases z
    have npp : ∀ p ∈ X.pn ++ pins, p.1 ≠ a := fun p hp z => by
      have q := (J.pin p hp).1
      rw [z, nI] at q
      cases q
    have S3 := J3.suite he3 hd3 na nL nF
    refine wpAny_handleBy_cons (codeAny_handlers_test ?_) (by intro q; cases q)
    have LT : PySem.W.Looks (model X.prog X.w) h3 (typeOf (.ref a)) cls := fun A Q E s k q => wpAny_typeOf_ref (k _ _ he3) (hz3.1 ▸ q)
    have LM := PySem.W.exm_one (M := model X.prog X.w) J3.kIn LT hb1
    have test : ∀ {Q : Value → Shared → Prop} {E : Value → Shared → Prop}, Q c { s' with heap := h3 } → wpAny (model X.prog X.w) (X.A.mark (some (.ref a))) (eval (.Name x np) X.env) Q E { s' with heap := h3 } := fun {Q E} q => by
      rcases hc with ⟨hg, hdbg, hm | ⟨hm, hv, hnn⟩⟩
      · exact ld_glob (X := X.suite a ((a, oe3) :: (X.pn ++ pins))) S3 hg hm q hdbg
      · exact ld_blt (X := X.suite a ((a, oe3) :: (X.pn ++ pins))) S3 hg hm hv q hnn hdbg
    refine test (LM.here ?_)
    cases b with
    | true =>
      refine codeAny_handlers_suite_as (HandSPX.lands_againZ fl3 fun h4 fl4 up4 => ?_)
      have J4 : Inv X pins σ' H' { s' with heap := h4 } := J.landed nb fl4.1 ((up.trans up3).trans up4) os ag
      obtain ⟨oe4, vs4, he4, hz4, hd4⟩ := fl4.there
      refine store_ok (X := X.suite a ((a, oe4) :: (X.pn ++ pins))) (v := .ref a) (J4.suite he4 hd4 na nL nF) hN hi (.inl hln) rfl (fun s5 S5 => ?_) (.inr hln)
      have lenσ : i < σ'.length := by
        rw [J.len]
        exact (List.getElem?_eq_some_iff.mp hi).1
      have want : tAsg (tVar i) (gName j) { nx := fun σ6 H6 => σ6 = (σ'.set i (some (.ref a))).set j (some (.ref a)) ∧ H6 = H', rt := fun _ _ => False, bk := fun _ _ => False, ct := fun _ _ => False } (σ'.set i (some (.ref a))) H' :=
        ⟨.ref a, by rw [List.getElem?_set_self lenσ], rfl, rfl⟩
      refine wpAny_mono ((hsu a oe4 (X.pn ++ pins)).run [] s5 _ H' _ S5 want) (fun f s6 hsp => ?_) (fun _ _ z => False.elim z)
      cases f with
      | next =>
        obtain ⟨σ6, H6, S6, rfl, rfl⟩ := hsp
        obtain ⟨he6, _⟩ := S6.pin (a, oe4) (List.mem_append_left _ List.mem_cons_self)
        have J6 : Inv X pins _ H6 s6 := S6.unsuite ok
        have J7 := track J6 he6 hd4 na nL n0 npp (exV_ok he6 hz4 hd4)
        exact gone_ok J7 hN hi hln fun s7 J8 => ⟨_, _, J8, hyes rfl a na⟩
      | brk => exact hsp.elim fun _ z => z.elim fun _ z => z.2.elim
      | cont => exact hsp.elim fun _ z => z.elim fun _ z => z.2.elim
      | ret u => exact hsp.elim fun _ z => z.elim fun _ z => z.elim fun _ z => z.2.2.elim
    | false =>
      show wpAny _ X.A (handleBy (.ref a) X.env []) _ _ _
      refine wpAny_handleBy_nil ?_
      obtain ⟨k1, k2, k3, oe, vs, T, oT, ts', he, hz, hd, h1, hr⟩ := id fl3
      unfold PySem.passOn
      refine wpAny_bind (wpAny_field he hd h1 ?_)
      rw [if_neg (show ¬ ((Value.ref T == Value.none) = true) from by simp)]
      have fin : wpAny (model X.prog X.w) X.A (setFlight (.ref a) X.env.frame) (fun _ s4 => wpAny (model X.prog X.w) X.A (throw (.ref a) : Sem Flow) (SP X pins D) X.xe s4) X.xe { s' with heap := h3 } := by
        rw [hf]
        refine HandSPX.setFlight_upZ fl3 fun h4 hh4 up4 => wpAny_throw (tk _ _ ⟨a, B, sI, pins, σ', H', cls, d, rfl, J, nb, (up.trans up3).trans up4, .inr (.inr (hs ▸ hh4)), na, os, ag, hno rfl⟩)
      first
        | exact wpAny_bind (wpAny_pure (wpAny_bind fin))
        | exact wpAny_bind fin
  · cases f with
    | next => exact hsp.elim fun σ1 z => z.elim fun H1 z => wpAny_execs_nil ⟨σ1, H1, z.1.ofTry ok, z.2⟩
    | brk => exact hsp.elim fun σ1 z => z.elim fun H1 z => ⟨σ1, H1, z.1.ofTry ok, z.2⟩
    | cont => exact hsp.elim fun σ1 z => z.elim fun H1 z => ⟨σ1, H1, z.1.ofTry ok, z.2⟩
    | ret u => exact hsp.elim fun v z => z.elim fun σ1 z => z.elim fun H1 z => ⟨v, σ1, H1, z.1.ofTry ok, z.2⟩
end
end Mo

/-! ### isinstance and the fields of an error that has its own dict -/
namespace Mo
open PySem PySem.W PySem.Spec PySem.Calls PyProof.Rows
section
variable {prog : Program} {w : World} {A : Around} {E : Value → Shared → Prop} {s : Shared} {K : Frag} {x D : Addr} {ox oy : Obj}
theorem err_class {Q : Option Value → Shared → Prop} (C : L2.ExcC K D) (X : K.In s.heap) (I : PySem.W.InstAt s.heap x ox D (some oy)) (h : Q (some (.ref D)) { s with toks := s.toks + 1 }) : wpAny (model prog w) A (getAttr? (.ref x) "__class__") Q E s := by
  have hf : findObj K D (some oy) "__class__" = some (.bind (.builtin "getset_descriptor.__get__") (.builtin "object.__class__")) := findObj_data (by obtain ⟨cd, hc, _⟩ := any_some C.hd; rw [hc]; rfl) C.ha C.hn C.ht
  obtain ⟨hp, g, d, t, os⟩ := s
  have a0 := I.type (M := model prog w)
  have a1 := looks_findIn (M := model prog w) X C.hg
  have a2 := looks_findIn (M := model prog w) X C.hk
  have a3 := looks_find (M := model prog w) X I hf
  have sub : Looks (model prog w) hp (isInstance (.ref x) (.type "BaseException")) true := a0.andThen (looks_subIn X C.hs)
  have y2 : (Value.builtin "BaseException.__getattribute__" == Value.builtin "object.__getattribute__") = false := by decide +kernel
  have y1 : (onTheHeap (Value.ref D) && Value.builtin "BaseException.__getattribute__" == Value.builtin "object.__getattribute__") = false := by rw [y2]; rfl
  have y0 : (false && onTheHeap (Value.builtin "BaseException.__getattribute__")) = false := rfl
  unfold getAttr? getAttrBy? getAttrBy
  refine wpAny_bind (wpAny_mkText (wpAny_bind (wpAny_attempt (wpAny_holding (wpAny_bind (a0.at (wpAny_bind (a1.at ?_))))))))
  show wpAny _ _ (if (onTheHeap (Value.ref D) && Value.builtin "BaseException.__getattribute__" == Value.builtin "object.__getattribute__") = true then _ else _) _ _ _
  rw [y1, if_neg Bool.false_ne_true]
  unfold getAttrByItsOwn hookBefore
  refine wpAny_bind (by
    rw [if_pos (show onTheHeap (Value.ref D) = true from rfl)]
    refine a2.at (wpAny_bind (wpAny_attempt (wpAny_holding ?_)))
    unfold callGetattribute
    rw [y0, if_neg Bool.false_ne_true]
    unfold boundAndCalled
    rw [PySem.F.excAttr_ValueError.ga.bind (.ref x)]
    refine wpAny_bind (wpAny_pure (by
      show wpAny _ _ (call (.builtin "BaseException.__getattribute__") [.ref x, .str "__class__" t]) _ _ _
      refine wpAny_call (codeAny_call_builtin PySem.F.excAttr_ValueError.ga.plain PySem.F.entry_bexc_ga (@check_slot (model prog w) _ _ ⟨hp, g, d, t + 1, os⟩ "BaseException.__getattribute__" "BaseException" "__getattribute__" (.ref x) [.str "__class__" t] [] _ (by decide +kernel) (by decide +kernel) sub (PySem.F.args_bexc_ga (.ref x) (.str "__class__" t)) ?_))
      unfold Builtin.«object.__getattribute__»
      refine wpAny_bind (wpAny_of_eq (a := ((Value.ref x : Value), [Value.str "__class__" t])) (by first | rfl | (simp only [slotArgs]; rfl)) (wpAny_bind (wpAny_pure (wpAny_bind (a0.at (wpAny_bind (a3.at ?_)))))))
      show wpAny _ _ (holding [Value.builtin "object.__class__"] (call (.builtin "getset_descriptor.__get__") [.builtin "object.__class__", .ref x, .ref D]) >>= ret) _ _ _
      refine wpAny_bind (wpAny_holding (wpAny_call (class_get (s := ⟨hp, g, d, t + 1, os⟩) (ox := ox) (od := some oy) X I C.hm (wpAny_pure ?_))))
      show wpAny _ _ (handedOut (.ref D)) _ _ _
      rw [handedOut_of (v := .ref D) rfl]
      first | exact wpAny_pure (wpAny_pure h) | exact wpAny_pure h | exact wpAny_pure (wpAny_bind (wpAny_pure (wpAny_pure h))))))
theorem err_kit (C : L2.ExcC K D) : KitX K (.ref x) (.ref D) (fun h => ∃ ox oy, PySem.W.InstAt h x ox D (some oy)) where
  ty := fun _ _ _ ⟨_, _, I⟩ => I.type
  it := fun M h X _ => by
    obtain ⟨cd, hc, _⟩ := any_some C.hd
    unfold clsIn at hc
    split at hc
    · rename_i c' d' cd' sl' ho
      intro A' Q' E' s' k q
      unfold isType loadHead
      exact wpAny_bind (wpAny_loadPart (k _ _ (X _ _ ho)) (wpAny_pure q))
    · cases hc
  ne := fun h tp dd its n sl X htp => by
    obtain ⟨cd, hc, _⟩ := any_some C.hd
    refine Bool.eq_false_iff.mpr fun q => ?_
    obtain rfl : D = tp := Value.ref.inj (beq_iff_eq.mp q)
    unfold clsIn at hc
    split at hc
    · rename_i c' d' cd' sl' ho
      cases (X _ _ ho).symm.trans htp
    · cases hc
  ca := fun X ⟨_, _, I⟩ k => err_class C X I k
end
end Mo
namespace Mo
open PySem PySem.Spec PyProof.Rows L2
section
variable {X : Cx} {pins : List (Addr × Obj)} {σ : L2.St} {H : Hp} {s : Shared}
/-- an error at a, its class at C, its dict at dd with the fields fs -/
def ErrAt (H : Hp) (a C dd : Addr) (fs : List (Str × V)) : Prop := H a = some (exV a (.ref C) (some dd)) ∧ H dd = some (.xd fs)
theorem ErrAt.inst {a C dd : Addr} {fs : List (Str × V)} (e : ErrAt H a C dd fs) (I : Inv X pins σ H s) : ∃ ox od mA, PySem.W.InstAt s.heap a ox C (some od) ∧ s.heap.Ns1 dd mA ∧ (∀ f, RelO (fs.lookup f) (mA f)) ∧ ∀ f, PySem.W.lookIn f od = some (mA f) := by
  obtain ⟨oe, vs, ha, hz, hd⟩ := exV_at I e.1
  obtain ⟨mA, hns, hr⟩ := (show ObjOk X.prog X.w H s.heap dd (.xd fs) from I.hok dd _ e.2)
  obtain ⟨od, ho, hl⟩ := lookIn_ns hns
  exact ⟨oe, od, mA, ⟨ha, hz.1, by unfold PySem.W.notCls; rw [hd] <;> rfl, by rw [hz.2]; exact ho⟩, hns, hr, hl⟩
/-- isinstance(err, c) -/
def rIsX (K : PySem.W.Frag) : List V → Hp → VK → Prop := fun xs H Q => ∃ (a C dd : Addr) (fs : List (Str × V)) (c : V) (u : Value) (b : Bool), xs = [.ref a, c] ∧ ErrAt H a C dd fs ∧ ExcC K C ∧ ClsV c u ∧ PySem.W.kitOne K (.ref C) u = some b ∧ Q (.bl b) H
theorem cr_isX : CallR X (.builtin "isinstance") (rIsX X.K) := by
  intro pins s σ H xs us Q I r h
  obtain ⟨a, C, dd, fs, c, u, b, rfl, ea, T, k, e, q⟩ := h
  obtain ⟨u1, u2, rfl, r1, r2⟩ := vals2 r
  cases r1
  obtain rfl := k.eq r2
  obtain ⟨ox, od, mA, J, _⟩ := ea.inst I
  exact PySem.W.kia_one (err_kit T) I.kIn ⟨ox, od, J⟩ e (fun z => nomatch z) fun tk => ⟨.bl b, H, I.tok tk, rfl, q⟩
/-- isinstance(err, (c1, c2, ..)) -/
def rIsXT (K : PySem.W.Frag) : List V → Hp → VK → Prop := fun xs H Q => ∃ (a C dd tp : Addr) (fs : List (Str × V)) (cs : List V) (us : List Value) (b : Bool), xs = [.ref a, .ref tp] ∧ ErrAt H a C dd fs ∧ ExcC K C ∧ H tp = some (.tup cs) ∧ Paired ClsV cs us ∧ PySem.W.kitAny K (.ref C) us = some b ∧ Q (.bl b) H
theorem cr_isXT : CallR X (.builtin "isinstance") (rIsXT X.K) := by
  intro pins s σ H xs us Q I r h
  obtain ⟨a, C, dd, tp, fs, cs, ws, b, rfl, ea, T, hT, k, e, q⟩ := h
  obtain ⟨u1, u2, rfl, r1, r2⟩ := vals2 r
  cases r1
  cases (show u2 = Value.ref tp from r2)
  obtain ⟨ox, od, mA, J, _⟩ := ea.inst I
  obtain ⟨_, its, rv, ⟨oc, od', dt, sl⟩, h1, h2, n, h3⟩ := (show ObjOk X.prog X.w H s.heap tp (.tup cs) from I.hok tp _ hT)
  obtain rfl := ClsV.all k rv
  simp only at h2 h3
  subst h2 h3
  exact PySem.W.kia_tup (err_kit T) I.kIn ⟨ox, od, J⟩ h1 e (fun z => nomatch z) fun tk => ⟨.bl b, H, I.tok tk, rfl, q⟩
/-- err.f -/
def tXv (K : PySem.W.Frag) (f : Str) (te : TE) : TE := fun σ H Q => te σ H fun x H1 => ∃ (a C dd : Addr) (fs : List (Str × V)) (v : V), x = .ref a ∧ ErrAt H1 a C dd fs ∧ XfC K C ∧ PySem.W.findIn K (.ref C) f = some none ∧ fs.lookup f = some v ∧ Q v H1
theorem pe_xv {e : Expr} {te : TE} {pos : Pos} {f : Str} (he : PE X e te) (hb : attributeBase e f X.env (eval e X.env) = eval e X.env := by rfl) : PE X (.Attribute e f pos) (tXv X.K f te) := by
  refine ⟨fun pins s σ H Q I h => ?_⟩
  refine attr_of hb (thn (he.run pins s σ H _ I h) fun u s1 hh => ?_)
  obtain ⟨x, H1, I1, rx, a, C, dd, fs, v, rfl, ea, T, hno, l, q⟩ := hh
  obtain rfl : u = Value.ref a := rx
  obtain ⟨ox, od, mA, J, hns, hr, hl⟩ := ea.inst I1
  obtain ⟨u, hu, ru⟩ := RelO.some_of (v := v) (o := mA f) (by rw [← l]; exact hr f)
  exact HandSPX.exc_get I1.kIn J T.ga T.gg T.exC (PySem.W.findObj_own T.hdC hno rfl (by rw [hl, hu])) (handed_of ru) ⟨v, H1, I1.tok _, ru, q⟩
end
end Mo

/-! ### defs called where no repr is under way: then repr of lists, tuples and dicts is known to the letter -/
namespace Mo
open PySem PySem.Spec PyProof.Rows L2
/-- as FnOk, for callers under no guard -/
structure FnG (P : Program) (w : World) (K : PySem.W.Frag) (mg : Str → Option Value) (base : Heap) (CX : CXT) (k : Nat) (f : Addr) (fd : FuncData) (ps : List Str) (sp : Sp) : Prop where
  len : ∀ vs H Q E, sp vs H Q E → vs.length = ps.length
  run : ∀ (A : Around) (outer : List Env) (s : Shared) (H : Hp) (args : Args) (us : List Value) (vs : List V) (Q : VK) (E : XK), Room k A → A.guards = some [] → Env0 P w K mg base A outer s H → BindsTo s fd args (ps.zip us) → Vals vs us → sp vs H Q E →
    codeAny (model P w) A (.call (.ref f) args) (CR CX outer P w H s Q E) s
section
variable {P : Program} {w : World} {K : PySem.W.Frag} {mg : Str → Option Value} {base : Heap} {CX : CXT} {k : Nat} {f : Addr} {fd : FuncData} {ps : List Str} {sp : Sp}
theorem FnG.of (F : FnOk P w K mg base CX k f fd ps sp) : FnG P w K mg base CX k f fd ps sp := ⟨F.len, fun A o s H a us vs Q E hr _ => F.run A o s H a us vs Q E hr⟩
/-- a def by its body, its guards told -/
theorem okG_of {x qual : Str} {st : Stmt} {N : List Str} (F : Fun K x qual st f fd) (S : FnScope N ps (defScope st)) (len : ∀ vs H Q E, sp vs H Q E → vs.length = ps.length)
    (hbody : ∀ (cdv : Value) (A : Around) (outer : List Env) (s : Shared) (H : Hp) (vs : List V) (Q : VK) (E : XK), Room k (A.deeper (envOfC qual (defScope st) s.heap.objs.size f cdv)) → A.guards = some [] → sp vs H Q E →
      ∃ t, PSs (cxOf CX P w K mg base N qual (defScope st) f cdv A outer s H E) (defBody st) t ∧ t { nx := fun _ H' => Q .non H', rt := Q } (start N vs) H) : FnG P w K mg base CX (k + 1) f fd ps sp := by
  obtain ⟨oc, od, kV, doc, pm, an, cdv, ct, osl, rfl, lk, hcd⟩ := F.ex
  refine ⟨len, fun A outer s H args us vs Q E hr hg e0 hb r hsp => ?_⟩
  have kept : ∀ b o, base.get? b = some o → s.heap.get? b = some o := fun b o e => (e0.bs b o e).1
  have KX : K.In s.heap := e0.mod.kin.keeps kept
  have kinds : ∀ y ∈ ps.zip us, (defScope st).names.lookup y.1 = some .local ∨ ((defScope st).names.lookup y.1 = some .cell ∧ ((cellsFrom (s.heap.objs.size + 1) (defScope st).names []).lookup y.1).isSome = true) := fun y hy =>
    (S.par y.1 (List.of_mem_zip (a := y.1) (b := y.2) hy).1).elim .inl fun q => .inr ⟨q, PySem.W.cellsFrom_some _ _ _ (.inl q)⟩
  refine codeAny_call_function hr.depth (KX _ _ lk) rfl S.co S.gen rfl (PySem.W.codeRec_of KX hcd) (hb _ _ _ _ (wpAny_newFunctionEnv_cells S.kind kinds fun env he s1 x => ?_))
  subst he
  refine ⟨(e0.mod.nolimit.keeps kept).keeps x.toInCall.keep, codeAny_func ?_⟩
  obtain ⟨t, ht, hq⟩ := hbody cdv A outer s H vs Q E (hr.deeper _) hg hsp
  have I : Inv (cxOf CX P w K mg base N qual (defScope st) f cdv A outer s H E) [] (start N vs) H s1 := inv_start S hr.hd e0 (len _ _ _ _ hsp) r x
  refine wpAny_mono (ht.run [] s1 (start N vs) H _ I hq) (fun fl s' hs => ?_) fun e s' hs => hs
  cases fl with
  | ret u => exact hs.elim fun v z => z.elim fun σ' z => z.elim fun H' z => ⟨v, H', z.1.os, z.1.bare, z.1.base, z.1.hok, z.2.1, z.2.2⟩
  | next => exact hs.elim fun σ' z => z.elim fun H' z => ⟨V.non, H', z.1.os, z.1.bare, z.1.base, z.1.hok, rfl, z.2⟩
  | brk => exact hs.elim fun _ z => z.elim fun _ z => z.2.elim
  | cont => exact hs.elim fun _ z => z.elim fun _ z => z.2.elim
/-- a def that raises nothing -/
theorem okG {x qual : Str} {st : Stmt} {N : List Str} (F : Fun K x qual st f fd) (S : FnScope N ps (defScope st)) (len : ∀ vs H Q E, sp vs H Q E → vs.length = ps.length)
    (hbody : ∀ (cdv : Value) (A : Around) (outer : List Env) (s : Shared) (H : Hp) (vs : List V) (Q : VK) (E : XK), Room k (A.deeper (envOfC qual (defScope st) s.heap.objs.size f cdv)) → A.guards = some [] → sp vs H Q E →
      ∃ t, PSs (cxOf CX0 P w K mg base N qual (defScope st) f cdv A outer s H E).nox (defBody st) t ∧ t { nx := fun _ H' => Q .non H', rt := Q } (start N vs) H) : FnG P w K mg base CX0 (k + 1) f fd ps sp :=
  okG_of F S len fun cdv A outer s H vs Q E hr hg hsp => (hbody cdv A outer s H vs Q E hr hg hsp).elim fun t z => ⟨t, z.1.nox, z.2⟩
end
section
variable {X : Cx} {CX : CXT} {x : Str} {f : Addr} {k : Nat} {fd : FuncData} {ps : List Str} {sp : Sp} {ds : List Value} {dvs : List V} {E : XK} {e : Expr} {es : List Expr} {t : TA} {p pos : Pos}
theorem run_G {pins : List (Addr × Obj)} {σ : L2.St} {H : Hp} {s : Shared} {Q : VK} {us : List Value} {vs : List V} (F : FnG X.prog X.w X.K X.mg X.base CX k f fd ps sp) (hr : Room k X.A) (hu : X.A.guards = some []) (hb : Binds X.K fd ps ds) (hd : Vals dvs ds) (hx : Passes CX X E)
    (I : Inv X pins σ H s) (r : Vals vs us) (h : sp (vs ++ dvs) H Q E) : wpAny (model X.prog X.w) X.A (call (.ref f) us) (EP X pins σ Q) X.xe s := by
  have rr : Vals (vs ++ dvs) (us ++ ds) := r.append hd
  refine wpAny_call (codeAny_mono (F.run X.A X.stack s H ⟨us, []⟩ (us ++ ds) (vs ++ dvs) Q E hr hu I.env0 (hb s us I.kIn (rr.length.symm.trans (F.len _ _ _ _ h))) rr h) fun r s' hq => ?_)
  cases r with
  | error e => exact hx pins σ H s e s' I hq
  | ok fl =>
    cases fl with
    | ret u => exact I.after hq
    | next => exact hq.elim
    | brk => exact hq.elim
    | cont => exact hq.elim
/-- f(e, ..), f by FnG -/
theorem pe_callG (F : FnG X.prog X.w X.K X.mg X.base CX k f fd ps sp) (hr : Room k X.A) (hu : X.A.guards = some []) (hg : Gl X x) (hm : X.mg x = some (.ref f)) (hk : PySem.W.keepIn X.K (.ref f) = true) (hb : Binds X.K fd ps ds) (hd : Vals dvs ds) (hx : Passes CX X E)
    (ha : PA X (e :: es) t) (hdb : (x == ("__debug__" : Str)) = false := by decide) (he : starEach (e :: es) X.env = (false, eval e X.env) :: starEach es X.env := by rfl) (hpl : (backTo pos (starEach es X.env)).any (·.1) = false := by rfl) :
    PE X (.Call (.Name x p) (e :: es) [] pos) (tCall sp dvs E t) :=
  ⟨fun pins s σ H Q I h => wpAny_Call_Name_kw (ld_glob I hg hm (PySem.W.callWith_K (h₀ := X.base) I.ok.mod.kin hk (thn (ha.run pos pins s σ H _ I h) fun us s1 ⟨vs, H1, I1, r, q⟩ => ⟨I1.kIn, run_G F hr hu hb hd hx I1 r q⟩) he hpl) hdb)⟩
end
/-! ### repr of data -/
/-- data with the empty dict -/
def Dat (K : PySem.W.Frag) (H : Hp) (x : V) (d : PyData) : Prop := Dp K H x d ∨ ∃ a, x = .ref a ∧ H a = some (.dK []) ∧ d = .dict []
section
variable {X : Cx} {pins : List (Addr × Obj)} {σ : L2.St} {H : Hp} {s : Shared}
theorem Dat.reads {x : V} {u : Value} {d : PyData} (I : Inv X pins σ H s) (h : Dat X.K H x d) (r : RelV x u) : ∃ as, Reads s.heap u d as ∧ (d.hasDict = true → sysModules ∉ as) := by
  rcases h with h | ⟨a, rfl, ha, rfl⟩
  · obtain ⟨as, q⟩ := Dp.reads I d x u h r
    have key : ∀ {x : V} {d : PyData}, Dp X.K H x d → d.hasDict = false := by
      intro x d h
      refine Dp.rec (motive_1 := fun _ d _ => d.hasDict = false) (motive_2 := fun _ ds _ => PyData.hasDictAll ds = false) ?_ ?_ ?_ ?_ ?_ ?_ ?_ ?_ h
      · rfl
      · intro b; rfl
      · intro i; rfl
      · intro z; rfl
      · intro a xs ds _ _ ih; exact ih
      · intro a xs ds _ _ ih; exact ih
      · rfl
      · intro v vs d ds _ _ i1 i2
        show (PyData.hasDict d || PyData.hasDictAll ds) = false
        rw [i1, i2]
        rfl
    exact ⟨as, q, fun z => by rw [key h] at z; cases z⟩
  · obtain rfl : u = Value.ref a := r
    obtain ⟨_, hs, vs, kv, o, es, ep, ho, hc, hdt, hes⟩ := (show ObjOk X.prog X.w H s.heap a (.dK []) from I.hok a _ ha)
    cases kv
    have e0 : es.toList = [] := by
      obtain ⟨_, hp, _⟩ := hes
      cases q : es.toList with
      | nil => rfl
      | cons x r => rw [q] at hp; cases hp
    refine ⟨_, .dict (as := []) (bs := []) ho hc.1 hdt (by rw [e0]; exact .nil) (by rw [e0]; exact .nil), fun _ z => ?_⟩
    rw [List.append_nil, List.mem_singleton] at z
    rw [← z] at hs
    simp at hs
/-- repr(data) -/
def rReprD (K : PySem.W.Frag) : List V → Hp → VK → Prop := fun xs H Q => ∃ (x : V) (d : PyData), xs = [x] ∧ Dat K H x d ∧ d.showable = true ∧ d.depth ≤ 40 ∧ d.shown.length ≤ sizeLine ∧ Q (.str d.shown) H
theorem cr_reprD (hg : X.A.guards = some []) (hu : X.A.units + 64 < cLine) : CallR X (.builtin "repr") (rReprD X.K) := by
  intro pins s σ H xs us Q I r h
  obtain ⟨x, d, rfl, hd, hs, hdp, hz, q⟩ := h
  obtain ⟨u, rfl, ru⟩ := vals1 r
  obtain ⟨as, rd, hsm⟩ := hd.reads I ru
  cases rd with
  | none => exact PySem.P.repr_of_none ⟨.str _, H, I.tok _, ⟨_, rfl⟩, q⟩
  | bool b => exact PySem.P.repr_of_bool ⟨.str _, H, I.tok _, ⟨_, rfl⟩, q⟩
  | int i t => exact PySem.P.repr_of_int (of_decide_eq_true hs) ⟨.str _, H, I.tok _, ⟨_, rfl⟩, q⟩
  | str z t => exact PySem.P.repr_of_str ⟨.str _, H, I.tok _, ⟨_, rfl⟩, q⟩ hz
  | list a1 a2 a3 a4 => exact repr_of_reads' (.list a1 a2 a3 a4) hs hsm hg (by omega) (fun _ _ e => e) (fun h' u' tk hk => ⟨.str _, H, I.kept (t' := tk) hk, ⟨_, rfl⟩, q⟩) hz
  | tuple a1 a2 a3 a4 => exact repr_of_reads' (.tuple a1 a2 a3 a4) hs hsm hg (by omega) (fun _ _ e => e) (fun h' u' tk hk => ⟨.str _, H, I.kept (t' := tk) hk, ⟨_, rfl⟩, q⟩) hz
  | dict a1 a2 a3 a4 a5 => exact repr_of_reads' (.dict a1 a2 a3 a4 a5) hs hsm hg (by omega) (fun _ _ e => e) (fun h' u' tk hk => ⟨.str _, H, I.kept (t' := tk) hk, ⟨_, rfl⟩, q⟩) hz
end
end Mo
namespace Mo
open PySem PySem.Spec PyProof.Rows L2
/-- an own error class over ValueError with one field f, its __init__ at fI -/
structure ErrC (K : PySem.W.Frag) (C fI : Addr) (f : Str) : Prop where
  oex : OexC K C
  xf : XfC K C
  exc : ExcC K C
  no : PySem.W.findIn K (.ref C) f = some none
  te : PySem.W.exmOne K (.ref C) (.ref C) = some true
  iC : PySem.W.findIn K (.ref C) "__init__" = some (some (.ref fI))
  tI : PySem.W.typeIn K (.ref fI) = some (.type "function")
/-- its __init__: self.f = y -/
def spInit (C : Addr) (f : Str) : Sp := fun vs H Q _ => ∃ (a : Addr) (y : V), vs = [.ref a, y] ∧ H a = some (exo a C none) ∧ ∀ dx, H dx = none → dx ≠ a → Q .non (upd (upd H dx (exd dx [(f, y)])) a (exo a C (some dx)))
/-- raising it: what is left to be shown -/
theorem err_read {C : Addr} {f : Str} {H : Hp} {v : V} {Q : XK} (h : ∀ d H', H d = none → Same H H' → H' d = some (.xd [(f, v)]) → Q (.ref C) (some d) H') :
    [v].length ≤ 1000 ∧ ∀ a, H a = none → spInit C f (.ref a :: ([v] ++ [])) (upd H a (exo a C none)) (fun x H2 => x = .non ∧ ∃ (d : Addr) (fs : List (Str × V)), H2 a = some (exo a C (some d)) ∧ H2 d = some (exd d fs) ∧ H d = none ∧ Q (.ref C) (some d) (upd (del H2 a) d (.xd fs))) (fun _ _ _ => False) := by
  refine ⟨by show 1 ≤ 1000; decide, fun a na => ⟨a, v, rfl, upd_same, fun dx nd ne => ⟨rfl, dx, [(f, v)], upd_same, by rw [upd_ne ne, upd_same], ?_, ?_⟩⟩⟩
  · rw [upd_ne ne] at nd
    exact nd
  · have nd' : H dx = none := by rw [upd_ne ne] at nd; exact nd
    refine h dx _ nd' (fun b o e => ?_) upd_same
    have nb : b ≠ dx := ne_of_none e nd'
    have nba : b ≠ a := ne_of_none e na
    rw [upd_ne nb, del_ne nba, upd_ne nba, upd_ne nb, upd_ne nba]
    exact e
theorem kit1_type {K : PySem.W.Frag} {C : Addr} {T : String} {b : Bool} (h : PySem.W.subIn K (.ref C) (.type T) = some b) (hm : PySem.W.kitMeta T = true) : PySem.W.kitOne K (.ref C) (.type T) = some b := by
  show (if (Value.ref C == Value.type T) = true then some true else (if PySem.W.kitMeta T = true then PySem.W.subIn K (.ref C) (.type T) else none)) = some b
  rw [if_neg (by intro z; cases beq_iff_eq.mp z), if_pos hm]
  exact h
theorem kit1_ref {K : PySem.W.Frag} {C D : Addr} (h : PySem.W.subIn K (.ref C) (.ref D) = some false) (hs : PySem.W.subIn K (.ref C) (.ref C) = some true) (hc : PySem.W.isClsIn K D = true) (ht : PySem.W.typeIn K (.ref D) = some (.type "type")) : PySem.W.kitOne K (.ref C) (.ref D) = some false := by
  have hc2 : (PySem.W.clsIn K D).isSome = true := hc
  show (if (Value.ref C == Value.ref D) = true then some true else (if ((PySem.W.clsIn K D).isSome && PySem.W.typeIn K (.ref D) == some (.type "type")) = true then PySem.W.subIn K (.ref C) (.ref D) else none)) = some false
  rw [if_neg (by intro z; rw [← beq_iff_eq.mp z, hs] at h; cases h), if_pos (by rw [hc2, ht]; rfl)]
  exact h
end Mo

/-! ### data of any kind: None, bools, ints, texts, lists, tuples, dicts (keys ints and texts), at any depth -/
namespace Mo
open PySem PySem.Spec PyProof.Rows L2
def keyD : Key → PyData
  | .inl i => .int i
  | .inr x => .str x
mutual
inductive Dx (N : Addr → Prop) (H : Hp) : V → PyData → Prop
  | non : Dx N H .non .none
  | bl (b : Bool) : Dx N H (.bl b) (.bool b)
  | int (i : Int) : Dx N H (.int i) (.int i)
  | str (x : Str) : Dx N H (.str x) (.str x)
  | lst {a : Addr} {xs : List V} {ds : List PyData} : H a = some (.lst xs) → ¬ N a → DxAll N H xs ds → Dx N H (.ref a) (.list ds)
  | tup {a : Addr} {xs : List V} {ds : List PyData} : H a = some (.tup xs) → ¬ N a → DxAll N H xs ds → Dx N H (.ref a) (.tuple ds)
  | dct {a : Addr} {kvs : List (Key × V)} {ds : List PyData} : H a = some (.dK kvs) → ¬ N a → DxAll N H (kvs.map (·.2)) ds → Dx N H (.ref a) (.dict ((kvs.map fun kv => keyD kv.1).zip ds))
inductive DxAll (N : Addr → Prop) (H : Hp) : List V → List PyData → Prop
  | nil : DxAll N H [] []
  | cons {v : V} {vs : List V} {d : PyData} {ds : List PyData} : Dx N H v d → DxAll N H vs ds → DxAll N H (v :: vs) (d :: ds)
end
theorem DxAll.length {N : Addr → Prop} {H : Hp} : ∀ {vs : List V} {ds : List PyData}, DxAll N H vs ds → vs.length = ds.length
  | _, _, .nil => rfl
  | _, _, .cons _ t => by rw [List.length_cons, List.length_cons, DxAll.length t]
mutual
theorem Dx.same {N : Addr → Prop} {H H' : Hp} (s : Same H H') : ∀ {v : V} {d : PyData}, Dx N H v d → Dx N H' v d
  | _, _, .non => .non
  | _, _, .bl b => .bl b
  | _, _, .int i => .int i
  | _, _, .str x => .str x
  | _, _, .lst h n t => .lst (s _ _ h) n (DxAll.same s t)
  | _, _, .tup h n t => .tup (s _ _ h) n (DxAll.same s t)
  | _, _, .dct h n t => .dct (s _ _ h) n (DxAll.same s t)
theorem DxAll.same {N : Addr → Prop} {H H' : Hp} (s : Same H H') : ∀ {v : List V} {d : List PyData}, DxAll N H v d → DxAll N H' v d
  | _, _, .nil => .nil
  | _, _, .cons h t => .cons (Dx.same s h) (DxAll.same s t)
end
mutual
/-- all but what N names, which the data does not hold -/
theorem Dx.but {N : Addr → Prop} {H H' : Hp} (s : ∀ b o, ¬ N b → H b = some o → H' b = some o) : ∀ {v : V} {d : PyData}, Dx N H v d → Dx N H' v d
  | _, _, .non => .non
  | _, _, .bl b => .bl b
  | _, _, .int i => .int i
  | _, _, .str x => .str x
  | _, _, .lst h n t => .lst (s _ _ n h) n (DxAll.but s t)
  | _, _, .tup h n t => .tup (s _ _ n h) n (DxAll.but s t)
  | _, _, .dct h n t => .dct (s _ _ n h) n (DxAll.but s t)
theorem DxAll.but {N : Addr → Prop} {H H' : Hp} (s : ∀ b o, ¬ N b → H b = some o → H' b = some o) : ∀ {v : List V} {d : List PyData}, DxAll N H v d → DxAll N H' v d
  | _, _, .nil => .nil
  | _, _, .cons h t => .cons (Dx.but s h) (DxAll.but s t)
end
mutual
/-- another N that names no more of what is there -/
theorem Dx.more {N N' : Addr → Prop} {H : Hp} (s : ∀ b, H b ≠ none → N' b → N b) : ∀ {v : V} {d : PyData}, Dx N H v d → Dx N' H v d
  | _, _, .non => .non
  | _, _, .bl b => .bl b
  | _, _, .int i => .int i
  | _, _, .str x => .str x
  | _, _, .lst h n t => .lst h (fun z => n (s _ (by rw [h]; exact Option.some_ne_none _) z)) (DxAll.more s t)
  | _, _, .tup h n t => .tup h (fun z => n (s _ (by rw [h]; exact Option.some_ne_none _) z)) (DxAll.more s t)
  | _, _, .dct h n t => .dct h (fun z => n (s _ (by rw [h]; exact Option.some_ne_none _) z)) (DxAll.more s t)
theorem DxAll.more {N N' : Addr → Prop} {H : Hp} (s : ∀ b, H b ≠ none → N' b → N b) : ∀ {v : List V} {d : List PyData}, DxAll N H v d → DxAll N' H v d
  | _, _, .nil => .nil
  | _, _, .cons h t => .cons (Dx.more s h) (DxAll.more s t)
end
theorem DxAll.append {N : Addr → Prop} {H : Hp} : ∀ {vs ws : List V} {ds es : List PyData}, DxAll N H vs ds → DxAll N H ws es → DxAll N H (vs ++ ws) (ds ++ es)
  | _, _, _, _, .nil, h => h
  | _, _, _, _, .cons a t, h => .cons a (DxAll.append t h)
theorem DxAll.get {N : Addr → Prop} {H : Hp} : ∀ {vs : List V} {ds : List PyData} {i : Nat} {v : V}, DxAll N H vs ds → vs[i]? = some v → ∃ d, ds[i]? = some d ∧ Dx N H v d
  | _, _, _, _, .nil, h => by simp at h
  | _, _, 0, _, .cons a t, h => by
    obtain rfl := Option.some.inj h
    exact ⟨_, rfl, a⟩
  | _, _, i + 1, _, .cons a t, h => by
    obtain ⟨d, e, q⟩ := DxAll.get (i := i) t h
    exact ⟨d, e, q⟩
theorem DxAll.mem {N : Addr → Prop} {H : Hp} {vs : List V} {ds : List PyData} {v : V} (h : DxAll N H vs ds) (hv : v ∈ vs) : ∃ d ∈ ds, Dx N H v d := by
  obtain ⟨i, hi⟩ := List.mem_iff_getElem?.mp hv
  obtain ⟨d, e, q⟩ := h.get hi
  exact ⟨d, List.mem_of_getElem? e, q⟩
section
variable {X : Cx} {N : Addr → Prop} {pins : List (Addr × Obj)} {σ : L2.St} {H : Hp} {s : Shared}
theorem key_reads {h : Heap} {k : Key} {u : Value} (e : keyIs k u = true) : Reads h u (keyD k) [] := by
  rcases keyIs_shape e with ⟨i, t, rfl, rfl⟩ | ⟨z, t, rfl, rfl⟩
  · exact .int i t
  · exact .str z t
theorem keys_read {P : Program} {w : World} {h : Heap} : ∀ {es : List DictEntry} {vs : List (Key × Value)}, Pairs (mixKind P w) es vs → ReadsAll h (es.map (·.key)) (vs.map fun kv => keyD kv.1) []
  | _, _, .nil => .nil
  | _, _, .cons e _ t => by
    have q := ReadsAll.cons (key_reads (h := h) e) (keys_read t)
    exact q
theorem vals_eq {P : Program} {w : World} : ∀ {es : List DictEntry} {vs : List (Key × Value)}, Pairs (mixKind P w) es vs → es.map (·.val) = vs.map (·.2)
  | _, _, .nil => rfl
  | _, _, .cons _ e t => by
    rw [List.map_cons, List.map_cons, e, vals_eq t]
theorem kv_keys : ∀ {kvs : List (Key × V)} {vs : List (Key × Value)}, KV kvs vs → kvs.map (fun kv => keyD kv.1) = vs.map (fun kv => keyD kv.1)
  | _, _, .nil => rfl
  | _, _, .cons h t => by
    rw [List.map_cons, List.map_cons, h.1, kv_keys t]
theorem kv_vals : ∀ {kvs : List (Key × V)} {vs : List (Key × Value)}, KV kvs vs → Vals (kvs.map (·.2)) (vs.map (·.2))
  | _, _, .nil => .nil
  | _, _, .cons h t => .cons h.2 (kv_vals t)
mutual
theorem Dx.reads (I : Inv X pins σ H s) (hs : H sysModules = none) : ∀ {x : V} {d : PyData}, Dx N H x d → ∀ {u : Value}, RelV x u → ∃ as, Reads s.heap u d as ∧ sysModules ∉ as
  | _, _, .non, u, r => by
    obtain rfl : u = Value.none := r
    exact ⟨[], .none, by simp⟩
  | _, _, .bl b, u, r => by
    obtain rfl : u = Value.bool b := r
    exact ⟨[], .bool b, by simp⟩
  | _, _, .int i, u, r => by
    obtain ⟨t, rfl⟩ : ∃ t, u = Value.int i t := r
    exact ⟨[], .int i t, by simp⟩
  | _, _, .str x, u, r => by
    obtain ⟨t, rfl⟩ : ∃ t, u = Value.str x t := r
    exact ⟨[], .str x t, by simp⟩
  | _, _, .lst (a := a) (xs := xs) ha hN t, u, r => by
    obtain rfl : u = Value.ref a := r
    obtain ⟨_, its, n, rv, e⟩ := (show ObjOk X.prog X.w H s.heap a (.lst xs) from I.hok a _ ha)
    obtain ⟨as, q, ns⟩ := DxAll.reads I hs t rv
    refine ⟨a :: as, .list e rfl rfl (by simpa using q), fun z => ?_⟩
    rcases List.mem_cons.mp z with z | z
    · rw [z, ha] at hs
      cases hs
    · exact ns z
  | _, _, .tup (a := a) (xs := xs) ha hN t, u, r => by
    obtain rfl : u = Value.ref a := r
    obtain ⟨_, its, rv, o, e, hc, n, hd⟩ := (show ObjOk X.prog X.w H s.heap a (.tup xs) from I.hok a _ ha)
    obtain ⟨as, q, ns⟩ := DxAll.reads I hs t rv
    exact ⟨as, .tuple e hc hd (by simpa using q), ns⟩
  | _, _, .dct (a := a) (kvs := kvs) (ds := ds) ha hN t, u, r => by
    obtain rfl : u = Value.ref a := r
    obtain ⟨_, _, vs, kv, o, es, ep, ho, hc, hdt, _, hp, _⟩ := (show ObjOk X.prog X.w H s.heap a (.dK kvs) from I.hok a _ ha)
    obtain ⟨as, q, ns⟩ := DxAll.reads I hs t (kv_vals kv)
    have hl := DxAll.length t
    have hl2 : (kvs.map fun kv => keyD kv.1).length = ds.length := by rw [List.length_map, ← hl, List.length_map]
    have k1 := keys_read (h := s.heap) hp
    rw [← kv_keys kv] at k1
    refine ⟨_, .dict (as := []) (bs := as) ho hc.1 hdt ?_ ?_, fun z => ?_⟩
    · rw [List.map_fst_zip (Nat.le_of_eq hl2)]
      exact k1
    · rw [List.map_snd_zip (Nat.le_of_eq hl2.symm), vals_eq hp]
      exact q
    · rcases List.mem_append.mp z with z | z
      · rw [List.mem_singleton.mp z, ha] at hs
        cases hs
      · exact ns z
theorem DxAll.reads (I : Inv X pins σ H s) (hs : H sysModules = none) : ∀ {xs : List V} {ds : List PyData}, DxAll N H xs ds → ∀ {us : List Value}, Vals xs us → ∃ as, ReadsAll s.heap us ds as ∧ sysModules ∉ as
  | _, _, .nil, _, .nil => ⟨[], .nil, by simp⟩
  | _, _, .cons h t, _, .cons r rs => by
    obtain ⟨as, q, n⟩ := Dx.reads I hs h r
    obtain ⟨bs, q2, n2⟩ := DxAll.reads I hs t rs
    exact ⟨as ++ bs, .cons q q2, fun z => (List.mem_append.mp z).elim n n2⟩
end
/-- repr(data) -/
def rReprX : List V → Hp → VK → Prop := fun xs H Q => ∃ (N : Addr → Prop) (x : V) (d : PyData), xs = [x] ∧ Dx N H x d ∧ d.showable = true ∧ d.depth ≤ 40 ∧ d.shown.length ≤ sizeLine ∧ Q (.str d.shown) H
theorem cr_reprX (hb : ∃ mm, X.base.Ns sysModules mm) (hg : X.A.guards = some []) (hu : X.A.units + 64 < cLine) : CallR X (.builtin "repr") rReprX := by
  intro pins s σ H xs us Q I r h
  obtain ⟨N, x, d, rfl, hd, hs, hdp, hz, q⟩ := h
  obtain ⟨u, rfl, ru⟩ := vals1 r
  have h1 : H sysModules = none := by
    obtain ⟨mm, o, es, ep, e, _⟩ := hb
    exact (I.bs _ _ e).2
  obtain ⟨as, rd, hsm⟩ := Dx.reads I h1 hd ru
  cases rd with
  | none => exact PySem.P.repr_of_none ⟨.str _, H, I.tok _, ⟨_, rfl⟩, q⟩
  | bool b => exact PySem.P.repr_of_bool ⟨.str _, H, I.tok _, ⟨_, rfl⟩, q⟩
  | int i t => exact PySem.P.repr_of_int (of_decide_eq_true hs) ⟨.str _, H, I.tok _, ⟨_, rfl⟩, q⟩
  | str z t => exact PySem.P.repr_of_str ⟨.str _, H, I.tok _, ⟨_, rfl⟩, q⟩ hz
  | list a1 a2 a3 a4 => exact repr_of_reads' (.list a1 a2 a3 a4) hs (fun _ => hsm) hg (by omega) (fun _ _ e => e) (fun h' u' tk hk => ⟨.str _, H, I.kept (t' := tk) hk, ⟨_, rfl⟩, q⟩) hz
  | tuple a1 a2 a3 a4 => exact repr_of_reads' (.tuple a1 a2 a3 a4) hs (fun _ => hsm) hg (by omega) (fun _ _ e => e) (fun h' u' tk hk => ⟨.str _, H, I.kept (t' := tk) hk, ⟨_, rfl⟩, q⟩) hz
  | dict a1 a2 a3 a4 a5 => exact repr_of_reads' (.dict a1 a2 a3 a4 a5) hs (fun _ => hsm) hg (by omega) (fun _ _ e => e) (fun h' u' tk hk => ⟨.str _, H, I.kept (t' := tk) hk, ⟨_, rfl⟩, q⟩) hz
end
end Mo

/-! ### rules for data of any kind -/
namespace Mo
open PySem PySem.Spec PyProof.Rows L2
section
variable {X : Cx}
/-- a list of anything == [] -/
def rEqNil (K : PySem.W.Frag) : R2 := fun x y H Q => ∃ a b xs, x = .ref a ∧ y = .ref b ∧ SqL K H a xs ∧ SqL K H b [] ∧ Q (.bl xs.isEmpty) H
theorem op_eqNil (hu : X.A.units + 64 < cLine) : OpR X (compareOp .Eq) (rEqNil X.K) := by
  intro pins s σ H x y v u Q I rx ry h
  obtain ⟨a, b, xs, rfl, rfl, ha, hb, q⟩ := h
  cases rx
  cases ry
  obtain ⟨is, r1, p1, _⟩ := I.list ha
  obtain ⟨js, r2, p2, _⟩ := I.list hb
  cases r2
  cases r1 with
  | nil => exact SeqAt.eq_listAt (e := fun _ => true) p1.isList p2.isList rfl (by omega) (fun j h1 => absurd h1 (by simp)) ⟨.bl true, H, I, rfl, q⟩
  | cons r rs => exact SeqAt.eq_list_lengthsAt p1.isList p2.isList (by simp) (by omega) ⟨.bl false, H, I, rfl, q⟩
/-- a list of anything != [] -/
def rNeNil (K : PySem.W.Frag) : R2 := fun x y H Q => ∃ a b xs, x = .ref a ∧ y = .ref b ∧ SqL K H a xs ∧ SqL K H b [] ∧ Q (.bl (!xs.isEmpty)) H
theorem op_neNil (hu : X.A.units + 64 < cLine) : OpR X (compareOp .NotEq) (rNeNil X.K) := by
  intro pins s σ H x y v u Q I rx ry h
  obtain ⟨a, b, xs, rfl, rfl, ha, hb, q⟩ := h
  cases rx
  cases ry
  obtain ⟨is, r1, p1, _⟩ := I.list ha
  obtain ⟨js, r2, p2, _⟩ := I.list hb
  cases r2
  cases r1 with
  | nil => exact SeqAt.RcNeAt.lists (e := fun _ => true) p1.isList p2.isList rfl (by omega) (fun j h1 => absurd h1 (by simp)) X.prog X.w X.xe _ ⟨.bl false, H, I, rfl, q⟩
  | cons r rs => exact SeqAt.RcNeAt.lists_lengths p1.isList p2.isList (by simp) (by omega) X.prog X.w X.xe _ ⟨.bl true, H, I, rfl, q⟩
/-- a tuple of anything != () -/
def rNeNilT (K : PySem.W.Frag) : R2 := fun x y H Q => ∃ a b xs, x = .ref a ∧ y = .ref b ∧ SqT K H a xs ∧ SqT K H b [] ∧ Q (.bl (!xs.isEmpty)) H
theorem op_neNilT (hu : X.A.units + 64 < cLine) : OpR X (compareOp .NotEq) (rNeNilT X.K) := by
  intro pins s σ H x y v u Q I rx ry h
  obtain ⟨a, b, xs, rfl, rfl, ha, hb, q⟩ := h
  cases rx
  cases ry
  obtain ⟨is, r1, p1, _⟩ := I.tuple ha
  obtain ⟨js, r2, p2, _⟩ := I.tuple hb
  cases r2
  have k1 : s.heap.IsTuple a is.toArray := p1
  have k2 : s.heap.IsTuple b (List.nil (α := Value)).toArray := p2
  refine SeqAt.RcNeAt.tuples (e := fun _ => true) k1 k2 (by omega) (fun j _ h2 => absurd h2 (by simp)) X.prog X.w X.xe _ ?_
  cases r1 with
  | nil => exact ⟨.bl false, H, I, rfl, q⟩
  | cons r rs => exact ⟨.bl true, H, I, by simp only [List.size_toArray, List.length_cons, List.length_nil, Nat.min_zero, List.range_zero, List.all_nil, Bool.true_and]; rfl, q⟩
theorem vals_signs : ∀ (cs : List Nat) (l : List Value), l.length = cs.length → (∀ (j : Nat) (v : Value), l[j]? = some v → ∃ c u, cs[j]? = some c ∧ v = .str ⟨#[c]⟩ u) → Vals (cs.map sg) l
  | [], [], _, _ => .nil
  | [], _ :: _, h, _ => by simp at h
  | _ :: _, [], h, _ => by simp at h
  | c :: cs, v :: l, h, q => by
    obtain ⟨c', u, e1, rfl⟩ := q 0 v rfl
    obtain rfl := Option.some.inj e1
    exact .cons ⟨u, rfl⟩ (vals_signs cs l (by simpa using h) fun j v e => q (j + 1) v e)
/-- tuple(a text) -/
theorem cr_tupS (hc : X.calm = true) : CallR X (.type "tuple") (fun xs H Q => ∃ cs : List Nat, xs = [.str (tx cs)] ∧ cs.length ≤ 100000 ∧ ∀ p, H p = none → Q (.ref p) (upd H p (.tup (cs.map sg)))) := by
  intro pins s σ H xs us Q I r h
  obtain ⟨cs, rfl, hz, q⟩ := h
  obtain ⟨u, rfl, t, rfl⟩ := vals1 r
  refine call_tuple_str (I.ok.hd hc) (tx cs) t (fun h' tk acc hk hacc => ?_) (by rw [tx_size]; exact fits5 hz)
  have I1 : Inv X pins σ H { s with heap := h', toks := tk } := I.kept (t' := tk) hk
  have I2 := I1.laid (t' := tk) (o := .tup (cs.map sg)) (h' := h'.push { cls := .type "tuple", data := .seq acc }) (fun b o e => Heap.get?_push_of_some _ e) (Nat.le_refl _) ⟨by rw [List.length_map]; exact fits5 hz, acc.toList, vals_signs cs acc.toList (by have := hacc.1; rw [tx_size] at this; simpa using this) (fun j v e => by
    obtain ⟨c, u, e1, e2⟩ := hacc.2 j v (by simpa using e)
    exact ⟨c, u, tx_get.symm.trans e1, e2⟩), IsTup.new _ _⟩
  exact ⟨.ref h'.objs.size, _, I2, rfl, q _ (I1.hok.fresh (Nat.le_refl _))⟩
/-- z * n, n a small number -/
def mulS (cs : List Nat) (n : Nat) : List Nat := (List.replicate n cs).flatten
theorem foldl_cat (a : List Nat) : ∀ (n : Nat) (acc : List Nat), ((List.replicate n a.toArray).foldl (fun x y => x ++ y) acc.toArray) = (acc ++ (List.replicate n a).flatten).toArray
  | 0, acc => by simp
  | n + 1, acc => by
    rw [List.replicate_succ, List.foldl_cons, List.replicate_succ, List.flatten_cons, ← List.append_assoc, ← foldl_cat a n (acc ++ a)]
    simp
theorem mulS_eq (cs : List Nat) (n : Nat) : Txt.mul (tx cs) (n : Int) = tx (mulS cs n) := by
  unfold Txt.mul mulS
  by_cases h0 : n = 0
  · subst h0
    rfl
  · rw [if_neg (by omega)]
    by_cases h1 : ((n : Int) == 1 || (tx cs).length == 0) = true
    · rw [if_pos h1]
      rcases Bool.or_eq_true_iff.mp h1 with h | h
      · have : n = 1 := by have := beq_iff_eq.mp h; omega
        subst this
        simp
      · have : cs = [] := by
          have := beq_iff_eq.mp h
          rw [tx_len] at this
          exact List.eq_nil_of_length_eq_zero this
        subst this
        simp
    · rw [if_neg h1, show (n : Int).toNat = n from rfl]
      have q := foldl_cat cs n []
      rw [List.nil_append] at q
      exact congrArg Str.mk q
theorem op_mulS : OpR X (binaryOp .Mult) (fun x y H Q => ∃ (cs : List Nat) (n : Nat), x = .str (tx cs) ∧ y = .int n ∧ cs.length ≤ 100000 ∧ n ≤ 100 ∧ Q (.str (tx (mulS cs n))) H) := by
  intro pins s σ H x y v u Q I rx ry h
  obtain ⟨cs, n, rfl, rfl, hz, hn, q⟩ := h
  obtain ⟨t, rfl⟩ := rx
  obtain ⟨t2, rfl⟩ := ry
  have hl : cs.length * n ≤ 100000 * 100 := Nat.mul_le_mul hz hn
  refine SB.mul ⟨?_, fun h1 h2 => ?_, fun h1 h2 => ?_⟩ fun t' k => ?_
  · rw [decide_eq_false (by omega), decide_eq_false (by omega)]
    rfl
  · rw [tx_len]
    have h3 : ((cs.length : Nat) : Int) * (n : Int) ≤ 2 ^ 63 - 1 := by
      rw [← Int.natCast_mul]
      omega
    have h4 : ((cs.length : Nat) : Int) ≤ (2 ^ 63 - 1) / (n : Int) := Int.le_ediv_of_mul_le (by omega) h3
    omega
  · rw [tx_len]
    show decide (cs.length * (n : Int).toNat > sizeLine) = false
    rw [sizeLine_eq]
    exact decide_eq_false (by show ¬ cs.length * n > _; omega)
  · rw [mulS_eq]
    exact ⟨.str _, H, I.tok _, ⟨_, rfl⟩, q⟩
/-- t * n -/
def rRepG (K : PySem.W.Frag) : R2 := fun x y H Q => ∃ (l : Addr) (n : Nat) (xs : List V), x = .ref l ∧ y = .int n ∧ SqT K H l xs ∧ xs ≠ [] ∧ 2 ≤ n ∧ n ≤ 100000 ∧ xs.length * n ≤ 1000000 ∧ ∀ p, H p = none → Q (.ref p) (upd H p (.tup (List.replicate n xs).flatten))
theorem op_repG : OpR X (binaryOp .Mult) (rRepG X.K) := by
  intro pins s σ H x y v u Q I rx ry h
  obtain ⟨l, n, xs, rfl, rfl, hT, hne, h1, h2, hz, q⟩ := h
  cases rx
  obtain ⟨t, rfl⟩ := ry
  obtain ⟨its, r, ⟨ob, ho, hc, m, hd⟩, hs⟩ := I.tuple hT
  obtain ⟨cls, dd, data, sl⟩ := ob
  obtain rfl : cls = .type "tuple" := hc
  obtain rfl : data = .seq its.toArray m := hd
  have hle := r.length
  have hi : its.toArray.isEmpty = false := by
    cases r with
    | nil => exact absurd rfl hne
    | cons _ _ => rfl
  have hm : xs.length * n ≤ 10 * 100000 := hz
  have hm2 : ((its.toArray.size : Nat) : Int) * (n : Int) = ((xs.length * n : Nat) : Int) := by
    rw [List.size_toArray, ← hle]
    exact (Int.natCast_mul _ _).symm
  have fl : (List.replicate n xs).flatten.length ≤ sizeLine := by
    rw [lm_len_rep_flat, Nat.mul_comm, sizeLine_eq]
    omega
  have fl2 : (List.foldl (fun x1 x2 => x1 ++ x2) #[] (List.replicate (n : Int).toNat its.toArray)).size ≤ sizeLine := by
    rw [size_rep, List.size_toArray, lm_len_rep_flat, ← hle, Nat.mul_comm, sizeLine_eq]
    show xs.length * n ≤ _
    omega
  refine wpAny_binaryOp_repeat_ref (T := "tuple") (U := "int") (by decide) ⟨_, ho, rfl⟩ (fun s' => typeIs_int s' n t) noFill_tuple_mul F.fills_int_mul F.slot_int_rmul repeat_tuple F.slot_int_index.lookup ?_
  refine call_meets F.slot_int_rmul (typeIs_int s n t) F.entry_int_rmul (F.args_int_rmul_2 _ _) (int_rmul_tuple n t l its.toArray m dd sl) ⟨ho, rfl, ⟨_, ho, rfl⟩, ?_⟩
  refine call_meets F.slot_tuple_mul ⟨_, ho, rfl⟩ F.entry_tuple_mul (F.args_tuple_mul_2 _ _) (tuple_mulW l its.toArray m dd sl n t ?_ ?_ ?_ ?_ ?_ fl2) ⟨ho, ?_⟩
  · rw [decide_eq_false (by omega), decide_eq_false (by omega)]
    rfl
  · rw [hi, Bool.false_or]
    exact beq_eq_false_iff_ne.mpr (by omega)
  · rw [hi, Bool.or_false]
    exact decide_eq_false (by omega)
  · rw [hm2]
    omega
  · unfold Builtin.Tuple.tupleTooMany
    rw [hm2, sizeLine_eq]
    exact decide_eq_false (by omega)
  · rw [size_rep]
    exact ⟨.ref s.heap.objs.size, _, I.laid (t' := s.toks) (o := .tup (List.replicate n xs).flatten) (fun b ob q => Heap.get?_push_of_some _ q) (Nat.le_refl _) ⟨fl, _, r.rep n, IsTup.new _ _⟩, rfl, q _ (I.hok.fresh (Nat.le_refl _))⟩
/-- t * n, t of few items -/
def rRepN (K : PySem.W.Frag) : R2 := fun x y H Q => ∃ (l : Addr) (n : Nat) (xs : List V), x = .ref l ∧ y = .int n ∧ SqT K H l xs ∧ xs ≠ [] ∧ 2 ≤ n ∧ n ≤ 100000 ∧ xs.length ≤ 10 ∧ ∀ p, H p = none → Q (.ref p) (upd H p (.tup (List.replicate n xs).flatten))
theorem op_repN : OpR X (binaryOp .Mult) (rRepN X.K) := by
  intro pins s σ H x y v u Q I rx ry h
  obtain ⟨l, n, xs, h1, h2, h3, h4, h5, h6, h7, q⟩ := h
  exact op_repG pins s σ H x y v u Q I rx ry ⟨l, n, xs, h1, h2, h3, h4, h5, h6, Nat.le_trans (Nat.mul_le_mul h7 h6) (by decide), q⟩
/-! what is made anew or is the old one, read alike -/
theorem catA_any {K : PySem.W.Frag} {a b : Addr} {xs ys : List V} {H : Hp} {Q : VK} (ha : H a = some (.tup xs)) (hb : H b = some (.tup ys)) (hl : xs.length + ys.length ≤ sizeLine)
    (q : ∀ p H', Same H H' → H' p = some (.tup (xs ++ ys)) → p = a ∨ p = b ∨ H p = none → Q (.ref p) H') : rCatA K (.ref a) (.ref b) H Q := by
  refine ⟨a, b, xs, ys, rfl, rfl, SqT.of ha, SqT.of hb, hl, fun e => ?_, fun _ e => ?_, fun _ _ p np => ?_⟩
  · subst e
    exact q b H (Same.refl H) hb (.inr (.inl rfl))
  · subst e
    exact q a H (Same.refl H) (by rw [List.append_nil]; exact ha) (.inl rfl)
  · exact q p _ (same_new np) upd_same (.inr (.inr np))
theorem slA_any {K : PySem.W.Frag} {a : Addr} {xs : List V} {lo hi : Option Int} {H : Hp} {Q : VK} (ha : H a = some (.tup xs)) (q : ∀ p H', Same H H' → H' p = some (.tup (cutV xs lo hi)) → p = a ∨ H p = none → Q (.ref p) H') : rSlA K (.ref a) lo hi H Q := by
  refine ⟨a, xs, rfl, SqT.of ha, fun e => ?_, fun _ p np => q p _ (same_new np) upd_same (.inr np)⟩
  have ec : cutV xs lo hi = xs := by
    unfold cutV
    rw [e.1, e.2, List.drop_zero, Nat.sub_zero, List.take_length]
  exact q a H (Same.refl H) (by rw [ec]; exact ha) (.inl rfl)
theorem cut_to (xs : List V) (n : Nat) : cutV xs none (some (n : Int)) = xs.take n := by
  unfold cutV
  rw [HT.sIx_none, HT.sIx_nat, List.drop_zero, Nat.sub_zero, List.take_eq_take_iff]
  omega
theorem cut_from (xs : List V) (n : Nat) : cutV xs (some (n : Int)) none = xs.drop n := by
  unfold cutV
  rw [HT.sIx_none, HT.sIx_nat]
  have e : xs.drop (min n xs.length) = xs.drop n := by
    by_cases h : n ≤ xs.length
    · rw [Nat.min_eq_left h]
    · rw [List.drop_of_length_le (by omega), List.drop_of_length_le (by omega)]
  rw [e]
  exact List.take_of_length_le (by rw [List.length_drop]; omega)
end
end Mo

set_option exponentiation.threshold 3000
/-! ### how great data is: its ints below 10 ^ B, its signs, its bulk, its depth -/
namespace Mo
open PySem PySem.Spec PyProof.Rows L2
mutual
def okD (B : Nat) : PyData → Prop
  | .none | .bool _ => True
  | .int i => i.natAbs < 10 ^ B
  | .str z => ∀ c ∈ z.cps.toList, c < 128
  | .list ds | .tuple ds => okAll B ds
  | .dict kvs => okKv B kvs
def okAll (B : Nat) : List PyData → Prop
  | [] => True
  | d :: ds => okD B d ∧ okAll B ds
def okKv (B : Nat) : List (PyData × PyData) → Prop
  | [] => True
  | (k, v) :: r => (okD B k ∧ okD B v) ∧ okKv B r
end
theorem okAll_iff {B : Nat} : ∀ {ds : List PyData}, okAll B ds ↔ ∀ d ∈ ds, okD B d
  | [] => by simp [okAll]
  | d :: ds => by
    rw [List.forall_mem_cons, ← okAll_iff (ds := ds)]
    simp only [okAll]
mutual
theorem okD.mono {B C : Nat} (h : B ≤ C) : ∀ {d : PyData}, okD B d → okD C d
  | .none, _ => by simp only [okD]
  | .bool _, _ => by simp only [okD]
  | .int i, q => by
    simp only [okD] at q ⊢
    exact Nat.lt_of_lt_of_le q (Nat.pow_le_pow_right (by decide) h)
  | .str z, q => by
    simp only [okD] at q ⊢
    exact q
  | .list ds, q => by
    simp only [okD] at q ⊢
    exact okAll.mono h q
  | .tuple ds, q => by
    simp only [okD] at q ⊢
    exact okAll.mono h q
  | .dict kvs, q => by
    simp only [okD] at q ⊢
    exact okKv.mono h q
theorem okAll.mono {B C : Nat} (h : B ≤ C) : ∀ {ds : List PyData}, okAll B ds → okAll C ds
  | [], _ => by simp only [okAll]
  | d :: ds, q => by
    simp only [okAll] at q ⊢
    exact ⟨okD.mono h q.1, okAll.mono h q.2⟩
theorem okKv.mono {B C : Nat} (h : B ≤ C) : ∀ {kvs : List (PyData × PyData)}, okKv B kvs → okKv C kvs
  | [], _ => by simp only [okKv]
  | (k, v) :: r, q => by
    simp only [okKv] at q ⊢
    exact ⟨⟨okD.mono h q.1.1, okD.mono h q.1.2⟩, okKv.mono h q.2⟩
end
theorem int_short {B : Nat} {i : Int} (hB : 1 ≤ B) (h : i.natAbs < 10 ^ B) : (PyData.shown (.int i)).length ≤ B + 1 := by
  rw [PyData.shown_int, PySem.ofString_length]
  exact int_text_length_le10 hB h
/-- str(i) -/
theorem int_signs (i : Int) : ∀ c ∈ (Str.ofString (toString i)).cps.toList, c < 128 := fun c hc => by
  by_cases h : c ≠ 45 ∧ (c < 48 ∨ 57 < c)
  · exact absurd hc (int_text_free' c h i)
  · omega
theorem int_text_size {B : Nat} {i : Int} (hB : 1 ≤ B) (h : i.natAbs < 10 ^ B) : (Str.ofString (toString i)).cps.size ≤ B + 1 := by
  have q := int_short hB h
  rw [PyData.shown_int] at q
  exact q
theorem log_small {B n : Nat} (hB : B ≤ 100) (h : n < 10 ^ B) : n.log2 < 1920 := by
  by_cases h0 : n = 0
  · subst h0
    decide
  · have h1 : n < 2 ^ 1920 := Nat.lt_of_lt_of_le h (Nat.le_trans (Nat.pow_le_pow_right (by decide) hB) (by decide))
    exact (Nat.log2_lt h0).mpr h1
mutual
theorem okD.short {B : Nat} (hB : 1 ≤ B) : ∀ {d : PyData}, okD B d → d.leavesShort (B + 8) = true
  | .none, _ => by simp only [PyData.leavesShort]
  | .bool _, _ => by simp only [PyData.leavesShort]
  | .int i, q => by
    simp only [okD] at q
    have := int_short hB q
    simp only [PyData.leavesShort]
    exact decide_eq_true (by omega)
  | .str z, q => by
    simp only [okD] at q
    simp only [PyData.leavesShort, List.all_eq_true]
    exact fun c hc => decide_eq_true (Nat.lt_trans (q c hc) (by decide))
  | .list ds, q => by
    simp only [okD, PyData.leavesShort] at q ⊢
    exact okAll.short hB q
  | .tuple ds, q => by
    simp only [okD, PyData.leavesShort] at q ⊢
    exact okAll.short hB q
  | .dict kvs, q => by
    simp only [okD, PyData.leavesShort] at q ⊢
    exact okKv.short hB q
theorem okAll.short {B : Nat} (hB : 1 ≤ B) : ∀ {ds : List PyData}, okAll B ds → PyData.leavesShortAll (B + 8) ds = true
  | [], _ => by simp only [PyData.leavesShortAll]
  | d :: ds, q => by
    simp only [okAll, PyData.leavesShortAll, Bool.and_eq_true] at q ⊢
    exact ⟨okD.short hB q.1, okAll.short hB q.2⟩
theorem okKv.short {B : Nat} (hB : 1 ≤ B) : ∀ {kvs : List (PyData × PyData)}, okKv B kvs → PyData.leavesShortKv (B + 8) kvs = true
  | [], _ => by simp only [PyData.leavesShortKv]
  | (k, v) :: r, q => by
    simp only [okKv, PyData.leavesShortKv, Bool.and_eq_true] at q ⊢
    exact ⟨⟨okD.short hB q.1.1, okD.short hB q.1.2⟩, okKv.short hB q.2⟩
end
mutual
theorem okD.show {B : Nat} (hB : B ≤ 100) : ∀ {d : PyData}, okD B d → d.showable = true
  | .none, _ => by simp only [PyData.showable]
  | .bool _, _ => by simp only [PyData.showable]
  | .int i, q => by
    simp only [okD, PyData.showable] at q ⊢
    exact decide_eq_true (log_small hB q)
  | .str z, q => by simp only [PyData.showable]
  | .list ds, q => by
    simp only [okD, PyData.showable] at q ⊢
    exact okAll.show hB q
  | .tuple ds, q => by
    simp only [okD, PyData.showable] at q ⊢
    exact okAll.show hB q
  | .dict kvs, q => by
    simp only [okD, PyData.showable] at q ⊢
    exact okKv.show hB q
theorem okAll.show {B : Nat} (hB : B ≤ 100) : ∀ {ds : List PyData}, okAll B ds → PyData.showableAll ds = true
  | [], _ => by simp only [PyData.showableAll]
  | d :: ds, q => by
    simp only [okAll, PyData.showableAll, Bool.and_eq_true] at q ⊢
    exact ⟨okD.show hB q.1, okAll.show hB q.2⟩
theorem okKv.show {B : Nat} (hB : B ≤ 100) : ∀ {kvs : List (PyData × PyData)}, okKv B kvs → PyData.showableKv kvs = true
  | [], _ => by simp only [PyData.showableKv]
  | (k, v) :: r, q => by
    simp only [okKv, PyData.showableKv, Bool.and_eq_true] at q ⊢
    exact ⟨⟨okD.show hB q.1.1, okD.show hB q.1.2⟩, okKv.show hB q.2⟩
end
theorem bulkAll_app : ∀ (a b : List PyData), PyData.bulkAll (a ++ b) = PyData.bulkAll a + PyData.bulkAll b
  | [], b => by simp [PyData.bulkAll]
  | x :: a, b => by
    rw [List.cons_append]
    simp only [PyData.bulkAll]
    rw [bulkAll_app a b]
    omega
theorem depthAll_le {n : Nat} : ∀ {ds : List PyData}, PyData.depthAll ds ≤ n ↔ ∀ d ∈ ds, d.depth ≤ n
  | [] => by simp [PyData.depthAll]
  | d :: ds => by
    rw [List.forall_mem_cons, ← depthAll_le (ds := ds)]
    simp only [PyData.depthAll]
    exact Nat.max_le
/-- data of these bounds -/
structure Fit (B W D : Nat) (d : PyData) : Prop where
  ok : okD B d
  bulk : d.bulk ≤ W
  deep : d.depth ≤ D
/-- lists of such data, of this bulk together -/
structure FitAll (B W D : Nat) (ds : List PyData) : Prop where
  ok : okAll B ds
  bulk : PyData.bulkAll ds ≤ W
  deep : PyData.depthAll ds ≤ D
theorem Fit.mono {B W D B' W' D' : Nat} {d : PyData} (h : Fit B W D d) (h1 : B ≤ B') (h2 : W ≤ W') (h3 : D ≤ D') : Fit B' W' D' d := ⟨h.ok.mono h1, Nat.le_trans h.bulk h2, Nat.le_trans h.deep h3⟩
theorem FitAll.app {B W D W' : Nat} {a b : List PyData} (h : FitAll B W D a) (g : FitAll B W' D b) : FitAll B (W + W') D (a ++ b) :=
  ⟨okAll_iff.mpr fun d hd => (List.mem_append.mp hd).elim (okAll_iff.mp h.ok d) (okAll_iff.mp g.ok d), by rw [bulkAll_app]; exact Nat.add_le_add h.bulk g.bulk, depthAll_le.mpr fun d hd => (List.mem_append.mp hd).elim (depthAll_le.mp h.deep d) (depthAll_le.mp g.deep d)⟩
theorem FitAll.tup {B W D : Nat} {a : List PyData} (h : FitAll B W D a) : Fit B W (D + 1) (.tuple a) := ⟨by simp only [okD]; exact h.ok, by simp only [PyData.bulk]; exact h.bulk, by simp only [PyData.depth]; exact Nat.succ_le_succ h.deep⟩
theorem FitAll.lst {B W D : Nat} {a : List PyData} (h : FitAll B W D a) : Fit B W (D + 1) (.list a) := ⟨by simp only [okD]; exact h.ok, by simp only [PyData.bulk]; exact h.bulk, by simp only [PyData.depth]; exact Nat.succ_le_succ h.deep⟩
theorem Fit.of_tup {B W D : Nat} {a : List PyData} (h : Fit B W (D + 1) (.tuple a)) : FitAll B W D a := ⟨by have := h.ok; simp only [okD] at this; exact this, by have := h.bulk; simp only [PyData.bulk] at this; exact this, by have := h.deep; simp only [PyData.depth] at this; omega⟩
theorem Fit.one {B W D : Nat} {d : PyData} (h : Fit B W D d) : FitAll B (W + 1) D [d] := ⟨by simp only [okAll]; exact ⟨h.ok, trivial⟩, by simp only [PyData.bulkAll]; have := h.bulk; omega, by simp only [PyData.depthAll]; have := h.deep; omega⟩
theorem FitAll.sub {B W D : Nat} {a b : List PyData} (h : FitAll B W D b) (hs : a.Sublist b) : FitAll B (PyData.bulkAll a) D a := ⟨okAll_iff.mpr fun d hd => okAll_iff.mp h.ok d (hs.subset hd), Nat.le_refl _, depthAll_le.mpr fun d hd => depthAll_le.mp h.deep d (hs.subset hd)⟩
theorem FitAll.mono {B W D B' W' D' : Nat} {d : List PyData} (h : FitAll B W D d) (h1 : B ≤ B') (h2 : W ≤ W') (h3 : D ≤ D') : FitAll B' W' D' d := ⟨h.ok.mono h1, Nat.le_trans h.bulk h2, Nat.le_trans h.deep h3⟩
theorem FitAll.len {B W D : Nat} {a : List PyData} (h : FitAll B W D a) : a.length ≤ W := by
  have key : ∀ a : List PyData, a.length ≤ PyData.bulkAll a := by
    intro a
    induction a with
    | nil => exact Nat.zero_le _
    | cons x a ih =>
      simp only [PyData.bulkAll, List.length_cons]
      omega
  exact Nat.le_trans (key a) h.bulk
/-- what repr asks -/
theorem Fit.repr {B W D : Nat} {d : PyData} (h : Fit B W D d) (h1 : 1 ≤ B) (h2 : B ≤ 40) (h3 : W ≤ 300000) (h4 : D ≤ 40) : d.showable = true ∧ d.depth ≤ 40 ∧ d.shown.length ≤ sizeLine := by
  refine ⟨h.ok.show (by omega), Nat.le_trans h.deep h4, ?_⟩
  have q := PyData.shown_le_bulk (B + 8) (by omega) d (h.ok.short h1)
  have hb := h.bulk
  have m : (B + 8 + 2) * d.bulk ≤ 50 * 300000 := Nat.mul_le_mul (by omega) (by omega)
  rw [sizeLine_eq]
  omega
/-! ### kinds -/
def tyD : PyData → String
  | .none => "NoneType"
  | .bool _ => "bool"
  | .int _ => "int"
  | .str _ => "str"
  | .list _ => "list"
  | .tuple _ => "tuple"
  | .dict _ => "dict"
theorem Dx.ty {N : Addr → Prop} {K : PySem.W.Frag} {H : Hp} {x : V} {d : PyData} (h : Dx N H x d) : TyX K H x (.type (tyD d)) := by
  cases h with
  | non => exact .base .non
  | bl b => exact .base (.bl b)
  | int i => exact .base (.int i)
  | str z => exact .base (.str z)
  | lst h _ _ => exact .base (.lst h)
  | tup h _ _ => exact .base (.tup h)
  | dct h _ _ => exact .base (.dK h)
def letterD : PyData → Bool
  | .int i => decide (0 ≤ i) && decide (i ≤ 999999)
  | _ => false
def textD : PyData → Bool
  | .tuple ds => decide (ds.length ≤ 4096) && ds.all letterD
  | _ => false
end Mo

/-! ### data written out: new, and holding nothing that was there -/
namespace Mo
open PySem PySem.Spec PyProof.Rows L2
def Was (H0 : Hp) : Addr → Prop := fun a => H0 a ≠ none
theorem Was.mono {H H' : Hp} (s : Same H H') {b : Addr} (h : Was H b) : Was H' b := by
  cases e : H b with
  | none => exact absurd e h
  | some o =>
    unfold Was
    rw [s _ _ e]
    exact Option.some_ne_none _
def LitE (te : TE) (d : PyData) : Prop := ∀ σ H Q, (∀ H' v, Same H H' → Dx (Was H) H' v d → Q v H') → te σ H Q
def LitA (ta : TA) (ds : List PyData) : Prop := ∀ σ H Q, (∀ H' vs, Same H H' → DxAll (Was H) H' vs ds → Q vs H') → ta σ H Q
theorem LitE.use {te : TE} {d : PyData} (h : LitE te d) {σ : L2.St} {H : Hp} {Q : VK} (q : ∀ H' v, Same H H' → Dx (Was H) H' v d → Q v H') : te σ H Q := h σ H Q q
theorem lit_non : LitE (tC .non) .none := fun _ _ _ q => q _ _ (Same.refl _) .non
theorem lit_bl {b : Bool} : LitE (tC (.bl b)) (.bool b) := fun _ _ _ q => q _ _ (Same.refl _) (.bl b)
theorem lit_int {i : Int} : LitE (tC (.int i)) (.int i) := fun _ _ _ q => q _ _ (Same.refl _) (.int i)
theorem lit_str {x : Str} : LitE (tC (.str x)) (.str x) := fun _ _ _ q => q _ _ (Same.refl _) (.str x)
theorem lit_neg {i : Int} : LitE (tUn (rU fun i => .int (-i)) (tC (.int i))) (.int (-i)) := fun _ _ _ q => ⟨i, rfl, q _ _ (Same.refl _) (.int _)⟩
theorem lit_pow {i j : Int} (h : CPow i j) : LitE (tOp (rI CPow fun i j => .int (i ^ j.toNat)) (tC (.int i)) (tC (.int j))) (.int (i ^ j.toNat)) := fun _ _ _ q => ⟨i, j, rfl, rfl, h, q _ _ (Same.refl _) (.int _)⟩
theorem lit_nil : LitA tNil [] := fun _ _ _ q => q _ _ (Same.refl _) .nil
theorem lit_cons {te : TE} {ta : TA} {d : PyData} {ds : List PyData} (h : LitE te d) (g : LitA ta ds) : LitA (tCons te ta) (d :: ds) := fun σ H Q q =>
  h σ H _ fun H1 v s1 hv => g σ H1 _ fun H2 vs s2 hvs => q H2 (v :: vs) (s1.trans s2) (.cons (hv.same s2) (hvs.more fun b _ z => Was.mono s1 z))
theorem lit_tup {t : TA} {ds : List PyData} (h : LitA t ds) (hl : ds.length ≤ 1000 := by decide) : LitE (tTup t) (.tuple ds) := fun σ H Q q =>
  h σ H _ fun H1 vs s1 hx => ⟨Nat.le_of_lt (small1000 (by rw [hx.length]; exact hl)), fun p np => q _ _ (s1.trans (same_new np)) (.tup upd_same (fun z => z (s1.free np)) (hx.same (same_new np)))⟩
theorem lit_lst {t : TA} {ds : List PyData} (h : LitA t ds) (hl : ds.length ≤ 1000 := by decide) : LitE (tLst t) (.list ds) := fun σ H Q q =>
  h σ H _ fun H1 vs s1 hx => ⟨Nat.le_of_lt (small1000 (by rw [hx.length]; exact hl)), fun p np => q _ _ (s1.trans (same_new np)) (.lst upd_same (fun z => z (s1.free np)) (hx.same (same_new np)))⟩
theorem lit_dnew : LitE tDNewK (.dict []) := fun σ H Q q p np => q _ _ (same_new np) (.dct (kvs := []) (ds := []) upd_same (fun z => z np) .nil)
theorem lit_disp1 {k : Key} {tv : TE} {d : PyData} (h : LitE tv d) : LitE (tDisp [(tC (kV k), tv)]) (.dict [(keyD k, d)]) := fun σ H Q q p np =>
  h σ _ _ fun H1 v s1 hv => ⟨s1 _ _ upd_same, [(k, v)], rfl, by show 1 ≤ 15; decide, by
    have n1 : H p = none := np
    have e : mergeK [] [(k, v)] = [(k, v)] := rfl
    rw [e]
    refine q _ _ (Same.put ((same_new np).trans s1) np) (.dct (kvs := [(k, v)]) (ds := [d]) upd_same (fun z => z np) (.cons ?_ .nil))
    refine (hv.more (N' := fun b => Was H b ∨ b = p) fun b _ z => z.elim (fun z => Was.mono (same_new np) z) (fun z => ?_)).but ?_ |>.more fun b _ z => .inl z
    · subst z
      unfold Was
      rw [upd_same]
      exact Option.some_ne_none _
    · intro b o nb e
      rw [upd_ne fun z => nb (.inr z)]
      exact e⟩
theorem lit_dispS {x : Str} {tv : TE} {d : PyData} (h : LitE tv d) : LitE (tDisp [(tC (.str x), tv)]) (.dict [(.str x, d)]) := lit_disp1 (k := .inr x) h
theorem lit_dispI {i : Int} {tv : TE} {d : PyData} (h : LitE tv d) : LitE (tDisp [(tC (.int i), tv)]) (.dict [(.int i, d)]) := lit_disp1 (k := .inl i) h
/-! what stands behind -/
theorem lst_dx {N : Addr → Prop} {H : Hp} {x : V} {ds : List PyData} (h : Dx N H x (.list ds)) : ∃ a xs, x = .ref a ∧ H a = some (.lst xs) ∧ ¬ N a ∧ DxAll N H xs ds := by
  generalize e : PyData.list ds = d at h
  cases h with
  | lst h n t => obtain rfl := PyData.list.inj e; exact ⟨_, _, rfl, h, n, t⟩
  | _ => cases e
theorem tpl_dx {N : Addr → Prop} {H : Hp} {x : V} {ds : List PyData} (h : Dx N H x (.tuple ds)) : ∃ a xs, x = .ref a ∧ H a = some (.tup xs) ∧ ¬ N a ∧ DxAll N H xs ds := by
  generalize e : PyData.tuple ds = d at h
  cases h with
  | tup h n t => obtain rfl := PyData.tuple.inj e; exact ⟨_, _, rfl, h, n, t⟩
  | _ => cases e
theorem keyD_inj : ∀ {a b : Key}, keyD a = keyD b → a = b
  | .inl _, .inl _, h => congrArg Sum.inl (PyData.int.inj h)
  | .inr _, .inr _, h => congrArg Sum.inr (PyData.str.inj h)
  | .inl _, .inr _, h => by cases h
  | .inr _, .inl _, h => by cases h
theorem dct1_dx {N : Addr → Prop} {H : Hp} {x : V} {k : Key} {e : PyData} (h : Dx N H x (.dict [(keyD k, e)])) : ∃ a u, x = .ref a ∧ H a = some (.dK [(k, u)]) ∧ ¬ N a ∧ Dx N H u e := by
  generalize q : PyData.dict [(keyD k, e)] = d at h
  cases h with
  | @dct a kvs ds h n t =>
    have q1 := PyData.dict.inj q
    cases kvs with
    | nil => cases t; cases q1
    | cons kv r =>
      cases t with
      | @cons _ _ d ds h1 t =>
        rw [List.map_cons, List.zip_cons_cons] at q1
        have q2 := List.cons.inj q1
        have q3 := Prod.mk.inj q2.1
        cases r with
        | nil =>
          cases t
          obtain ⟨k', u⟩ := kv
          have : k = k' := keyD_inj q3.1
          subst this
          refine ⟨a, u, rfl, h, n, ?_⟩
          rw [q3.2]
          exact h1
        | cons kv2 r =>
          cases t with
          | cons h2 t => cases q2.2
  | _ => cases q
end Mo

/-! ### the end of a law whose promise is an FnG -/
namespace Mo
open PySem PySem.Spec PyProof.Rows L2
theorem callG {P : Program} {w : World} {K : PySem.W.Frag} {mg mb : Str → Option Value} {CX : CXT} {k : Nat} {fa a : Addr} {fd : FuncData} {x : Str} {sp : Sp} {s₁ : Shared} {vs : List Value} {ns : List Int}
    (KX : K.In s₁.heap) (hns : s₁.heap.Ns mainGlobals mg) (hb : s₁.heap.Ns builtinsNs mb) (hbb : ∀ x : Str, x ≠ "__name__" → mb x = bootBuiltins x) (hlim : s₁.heap.NoLimit) (hg : s₁.gens = #[])
    (ha : s₁.heap.get? a = some { cls := .type "list", data := .seq vs.toArray }) (hi : IntsAre vs ns) (hl : ns.length ≤ sizeLine) (hr : Room k callerA)
    (F : ∀ base : Heap, K.In base → base.Ns mainGlobals mg → (∀ b m, s₁.heap.Ns b m → base.Ns b m) → FnG P w K mg base CX k fa fd [x] sp) (hbind : ∀ (s : Shared) (u : Value), BindsTo s fd ⟨[u], []⟩ [(x, u)])
    (hsp : ∀ H : Hp, Only H → SqL K H a (ns.map V.int) → sp [.ref a] H (fun v _ => v = .bl true) fun _ _ _ => False)
    (hCX : ∀ H e s', CX [] H s₁ (fun _ _ _ => False) e s' → False) :
    codeAny (model P w) callerA (.call (.ref fa) ⟨[.ref a], []⟩) (fun r s' => r = .ok (.ret (.bool true)) ∧ OldK s₁.heap s'.heap ∧ s'.os = s₁.os ∧ AllBare s'.gens) s₁ := by
  have rv := vals_ints hi
  have lenV := hi.length
  have core : ∀ H : Hp, Only H → SqL K H a (ns.map V.int) → HOk P w H s₁.heap → (∀ b, H b ≠ none → b = a) → (H a ≠ none → K.lookup a = none) →
      codeAny (model P w) callerA (.call (.ref fa) ⟨[.ref a], []⟩) (fun r s' => r = .ok (.ret (.bool true)) ∧ OldK s₁.heap s'.heap ∧ s'.os = s₁.os ∧ AllBare s'.gens) s₁ := by
    intro H hO hS hok hA hK
    have atA : ∀ {b : Addr} {u : HO}, H b = some u → b = a := fun {b u} q => hA b (by rw [q]; exact Option.some_ne_none _)
    have grnd : ∀ {b : Addr} {o : Obj}, s₁.heap.get? b = some o → H b = none → (hidT s₁.heap H).get? b = some o := fun e n => hidT_get e n
    have noA : ∀ {b : Addr} {o : Obj} {es : Array DictEntry} {ep : Nat}, s₁.heap.get? b = some o → o.data = .dict es ep → H b = none := fun {b o es ep} e d => by
      cases q : H b with
      | none => rfl
      | some u =>
        rw [atA q, ha] at e
        cases e
        cases (show Data.seq vs.toArray _ = Data.dict es ep from d)
    have nsK : ∀ {b : Addr} {m : Str → Option Value}, s₁.heap.Ns b m → (hidT s₁.heap H).Ns b m := fun {b m} ⟨o, es, ep, e, d, r⟩ => ⟨o, es, ep, grnd e (noA e d), d, r⟩
    have hKb : K.In (hidT s₁.heap H) := fun b o e => grnd (KX b o e) (by
      cases q : H b with
      | none => rfl
      | some u =>
        obtain rfl := atA q
        rw [hK (by rw [q]; exact Option.some_ne_none _)] at e
        cases e)
    have hM : Mod K mg (hidT s₁.heap H) := ⟨hKb, nsK hns, ⟨mb, nsK hb, hbb⟩, hlim.elim fun mc z => ⟨mc, nsK z.1, z.2⟩⟩
    have e0 : Env0 P w K mg (hidT s₁.heap H) callerA [] s₁ H := ⟨rfl, hM, fun b o e => of_hidT e, Nat.le_of_eq (hidT_size _ _), trivial, fun b hb => absurd (show b ∈ ([] : List Addr) from hb) (by simp), hok, .of_eq hg⟩
    refine codeAny_mono ((F _ hKb (nsK hns) fun b m z => nsK z).run callerA [] s₁ H ⟨[.ref a], []⟩ [.ref a] [.ref a] _ _ hr rfl e0 (hbind s₁ (.ref a)) (.cons rfl .nil) (hsp H hO hS)) fun r s' h => ?_
    cases r with
    | error e => exact (hCX H e s' h).elim
    | ok fl =>
      cases fl with
      | next => exact h.elim
      | brk => exact h.elim
      | cont => exact h.elim
      | ret u =>
        obtain ⟨v, H', os, bare, un, hok', r', q⟩ := h
        obtain rfl : v = .bl true := q
        obtain rfl : u = Value.bool true := r'
        refine ⟨rfl, OldK.of_keep fun b o e => ?_, os, bare⟩
        cases q : H b with
        | none => exact un.keep b o e q (by intro z; exact absurd (show b ∈ ([] : List Addr) from z) (by simp)) (by simp)
        | some u =>
          rcases hO b with z | ⟨ob, xs, z⟩
          · rw [q] at z
            cases z
          · have z2 := un.frzs b ob _ z
            have e1 := (hok b _ z).1
            rw [e] at e1
            cases e1
            exact (hok' b _ z2).1
  cases hk : K.lookup a with
  | some o =>
    have e := KX a o hk
    rw [ha] at e
    cases e
    exact core (fun _ => none) (fun _ => .inl rfl) (.inr ⟨_, vs.toArray, _, hk, rfl, rfl, rfl, by rw [List.size_toArray, lenV]; exact hl, by simpa using rv⟩) (fun b u z => nomatch z) (fun b z => absurd rfl z) fun z => absurd rfl z
  | none =>
    have at2 : ∀ {b : Addr} {u : HO}, (if b = a then some (HO.frz { cls := .type "list", data := .seq vs.toArray } (.lst (ns.map V.int))) else none) = some u → b = a ∧ u = .frz { cls := .type "list", data := .seq vs.toArray } (.lst (ns.map V.int)) := fun {b u} z => by
      by_cases hb : b = a
      · rw [if_pos hb] at z
        exact ⟨hb, (Option.some.inj z).symm⟩
      · rw [if_neg hb] at z
        cases z
    refine core (fun b => if b = a then some (.frz { cls := .type "list", data := .seq vs.toArray } (.lst (ns.map V.int))) else none) (fun b => ?_) (.inl (.inr ⟨{ cls := .type "list", data := .seq vs.toArray }, if_pos rfl⟩)) (fun b u z => ?_) (fun b z => ?_) fun _ => hk
    · by_cases hb : b = a
      · exact .inr ⟨_, _, if_pos hb⟩
      · exact .inl (if_neg hb)
    · obtain ⟨rfl, rfl⟩ := at2 z
      exact ⟨ha, by rw [List.length_map]; exact hl, vs, _, rv, ha⟩
    · by_cases hb : b = a
      · exact hb
      · exact absurd (if_neg hb) z
theorem walkG {l : PySem.W.OpenLaw} {n k : Nat} {q : Program} {loose : List Str} {XP : (Str → Option Value) → Heap → Prop} {YP : World → Heap → Prop} {d : DefRec} {K : Params → PySem.W.Frag} {CX : World → CXT} {sp : World → Sp} {x : Str}
    (hn : l.most = some n) (hn2 : n ≤ sizeLine) (hdf : d.params.defaults = []) (hr : Room k callerA) (hY : ∀ (w : World) (h : Heap), YP w h → (K w.params).In h)
    (F : ∀ (w : World) (mg : Str → Option Value) (fa : Addr) (h : Heap), (K w.params).In h → h.Ns mainGlobals mg → mg d.name = some (.ref fa) →
      ∃ fd : FuncData, (∀ (s : Shared) (u : Value), BindsTo s fd ⟨[u], []⟩ [(x, u)]) ∧ ∀ base : Heap, (K w.params).In base → base.Ns mainGlobals mg → FnG l.prog w (K w.params) mg base (CX w) k fa fd [x] (sp w))
    (hsp : ∀ (w : World) (H : Hp) (a : Addr) (ns : List Int), ns.length ≤ n → Only H → SqL (K w.params) H a (ns.map V.int) → sp w [.ref a] H (fun v _ => v = .bl true) fun _ _ _ => False)
    (hCX : ∀ (w : World) (H : Hp) (s : Shared) (e : Value) (s' : Shared), CX w [] H s (fun _ _ _ => False) e s' → False) :
    PySem.W.WalkO q loose XP YP l.row.toRowW d [] (fun f vs => PySem.call f vs) := by
  refine Att.attach_call hn hdf fun w s₀ s₁ mg mb fa o pm cd doc a vs ns G Y ho hd hcd hmg hobj hints hlen hg => ?_
  obtain ⟨fd, hb, hF⟩ := F w mg fa _ (hY w _ Y) G.T.g hmg
  exact callG (hY w _ Y) G.T.g G.T.b G.T.builtins G.T.nolimit hg hobj hints (Nat.le_trans hlen hn2) hr (fun base a b _ => hF base a b) hb (fun H hO hS => hsp w H a ns hlen hO hS) fun H e s' => hCX w H s₁ e s'
/-- where repr meets dicts: sys.modules is there, and is none of ours -/
theorem walkM {l : PySem.W.OpenLaw} {n k : Nat} {q : Program} {loose : List Str} {XP : (Str → Option Value) → Heap → Prop} {YP : World → Heap → Prop} {d : DefRec} {K : Params → PySem.W.Frag} {CX : World → CXT} {sp : World → Sp} {x : Str}
    (hn : l.most = some n) (hn2 : n ≤ sizeLine) (hdf : d.params.defaults = []) (hr : Room k callerA) (hY : ∀ (w : World) (h : Heap), YP w h → (K w.params).In h) (hi : importsNone q = true)
    (F : ∀ (w : World) (mg : Str → Option Value) (fa : Addr) (h : Heap), (K w.params).In h → h.Ns mainGlobals mg → mg d.name = some (.ref fa) →
      ∃ fd : FuncData, (∀ (s : Shared) (u : Value), BindsTo s fd ⟨[u], []⟩ [(x, u)]) ∧ ∀ base : Heap, (K w.params).In base → base.Ns mainGlobals mg → (∃ mm, base.Ns sysModules mm) → FnG l.prog w (K w.params) mg base (CX w) k fa fd [x] (sp w))
    (hsp : ∀ (w : World) (H : Hp) (a : Addr) (ns : List Int), ns.length ≤ n → Only H → SqL (K w.params) H a (ns.map V.int) → sp w [.ref a] H (fun v _ => v = .bl true) fun _ _ _ => False)
    (hCX : ∀ (w : World) (H : Hp) (s : Shared) (e : Value) (s' : Shared), CX w [] H s (fun _ _ _ => False) e s' → False) :
    PySem.W.WalkO q loose XP YP l.row.toRowW d [] (fun f vs => PySem.call f vs) := by
  refine Att.attach_call hn hdf fun w s₀ s₁ mg mb fa o pm cd doc a vs ns G Y ho hd hcd hmg hobj hints hlen hg => ?_
  obtain ⟨fd, hb, hF⟩ := F w mg fa _ (hY w _ Y) G.T.g hmg
  obtain ⟨mm, hm, _⟩ := (G.T.seer hi).mods
  exact callG (hY w _ Y) G.T.g G.T.b G.T.builtins G.T.nolimit hg hobj hints (Nat.le_trans hlen hn2) hr (fun base a b c => hF base a b ⟨mm, c _ _ hm⟩) hb (fun H hO hS => hsp w H a ns hlen hO hS) fun H e s' => hCX w H s₁ e s'
end Mo

/-! ### lambdas without parameters, handed to a def that calls them within a try -/
namespace Mo
open PySem PySem.Spec PyProof.Rows L2
section
variable {P : Program} {w : World} {K : PySem.W.Frag} {mg : Str → Option Value} {base : Heap} {k : Nat} {f c : Addr} {fd : FuncData} {ps : List Str} {sp : Sp}
/-- a def that raises nothing, the place of its code object told -/
theorem okT {x qual : Str} {st : Stmt} {N : List Str} (F : Fun K x qual st f fd) (hc : fd.code = .ref c) (S : FnScope N ps (defScope st)) (len : ∀ vs H Q E, sp vs H Q E → vs.length = ps.length)
    (hbody : ∀ (A : Around) (outer : List Env) (s : Shared) (H : Hp) (vs : List V) (Q : VK) (E : XK), Room k (A.deeper (envOfC qual (defScope st) s.heap.objs.size f (.ref c))) → A.guards = some [] → sp vs H Q E →
      ∃ t, PSs (cxOf CX0 P w K mg base N qual (defScope st) f (.ref c) A outer s H E).nox (defBody st) t ∧ t { nx := fun _ H' => Q .non H', rt := Q } (start N vs) H) : FnG P w K mg base CX0 (k + 1) f fd ps sp := by
  obtain ⟨oc, od, kV, doc, pm, an, cdv, ct, osl, rfl, lk, hcd⟩ := F.ex
  obtain rfl : cdv = .ref c := hc
  refine ⟨len, fun A outer s H args us vs Q E hr hg e0 hb r hsp => ?_⟩
  have stays : ∀ b o, base.get? b = some o → s.heap.get? b = some o := fun b o e => (e0.bs b o e).1
  have KX : K.In s.heap := e0.mod.kin.keeps stays
  have kinds : ∀ y ∈ ps.zip us, (defScope st).names.lookup y.1 = some .local ∨ ((defScope st).names.lookup y.1 = some .cell ∧ ((cellsFrom (s.heap.objs.size + 1) (defScope st).names []).lookup y.1).isSome = true) := fun y hy =>
    (S.par y.1 (List.of_mem_zip (a := y.1) (b := y.2) hy).1).elim .inl fun q => .inr ⟨q, PySem.W.cellsFrom_some _ _ _ (.inl q)⟩
  refine codeAny_call_function hr.depth (KX _ _ lk) rfl S.co S.gen rfl (PySem.W.codeRec_of KX hcd) (hb _ _ _ _ (wpAny_newFunctionEnv_cells S.kind kinds fun env he s1 x => ?_))
  subst he
  refine ⟨(e0.mod.nolimit.keeps stays).keeps x.toInCall.keep, codeAny_func ?_⟩
  obtain ⟨t, ht, hq⟩ := hbody A outer s H vs Q E (hr.deeper _) hg hsp
  have I : Inv (cxOf CX0 P w K mg base N qual (defScope st) f (.ref c) A outer s H E) [] (start N vs) H s1 := inv_start S hr.hd e0 (len _ _ _ _ hsp) r x
  refine wpAny_mono (ht.nox.run [] s1 (start N vs) H _ I hq) (fun fl s' hs => ?_) fun e s' hs => hs
  cases fl with
  | ret u => exact hs.elim fun v z => z.elim fun σ' z => z.elim fun H' z => ⟨v, H', z.1.os, z.1.bare, z.1.base, z.1.hok, z.2.1, z.2.2⟩
  | next => exact hs.elim fun σ' z => z.elim fun H' z => ⟨V.non, H', z.1.os, z.1.bare, z.1.base, z.1.hok, rfl, z.2⟩
  | brk => exact hs.elim fun _ z => z.elim fun _ z => z.2.elim
  | cont => exact hs.elim fun _ z => z.elim fun _ z => z.2.elim
end
/-- the call of what was got: it stands in slot i; what it lets out is wished by W there -/
def tAct (i : Nat) (fn cc : Addr) (q : Str) (tl : XK → Hp → VK → Prop) (W : WX) : TE := fun σ H Q =>
  σ[i]? = some (some (.ref fn)) ∧ H cc = some (LamX.CodeO cc q) ∧ ∃ E : XK, (∀ cls d H', E cls d H' → W cls d σ H') ∧ tl E H Q
section
variable {X : Cx} {pins : List (Addr × Obj)} {σ : L2.St} {H : Hp} {s : Shared}
theorem pe_actS {CXg : CXT} {Eg : XK} {Ng : List Str} {qg : Str} {sg : Scope} {g fn cc : Addr} {cdg pm ctv : Value} {params : Arguments} {body : Expr} {scope : Scope} {k i : Nat} {a : Str} {pn : List (Addr × Obj)} {xe : Value → Shared → Prop} {W : WX} {tb : XK → TE} {p1 p2 : Pos}
    (I : Inv X pins σ H s) (L : LamX.LamS X.env.scope scope) (hf : s.heap.get? fn = some (PySem.W.kla_obj "<lambda>" (X.env.qual ++ "<lambda>") params body scope (cloFrom X.env.cells scope.names []) pm cc ctv)) (nfn : H fn = none) (frn : fn ∉ frs X.stack)
    (hbind : bindArgs (PySem.W.kla_fn "<lambda>" (X.env.qual ++ "<lambda>") params body scope (cloFrom X.env.cells scope.names []) pm (.ref cc) ctv) ⟨[], []⟩ = pure [])
    (tk : Takes ((cxOf CXg X.prog X.w X.K X.mg X.base Ng qg sg g cdg X.A X.stack s H Eg).tr pn xe) W) (hr : Room (k + 1) (X.A.deeper (envOfC qg sg s.heap.objs.size g cdg)))
    (hbody : ∀ (A : Around) (outer : List Env) (s' : Shared) (H' : Hp) (E : XK), Room k (A.deeper (LamX.lamEnv X scope s'.heap.objs.size fn cc)) → A.guards = X.A.guards → PE (LamX.lamCx X A outer s' H' E scope fn cc) body (tb E))
    (hN : Ng[i]? = some a) (hv : Vis sg a) (hd : (a == ("__debug__" : Str)) = false := by decide) (hcd : (a == ("__classdict__" : Str)) = false := by decide) :
    PE ((cxOf CXg X.prog X.w X.K X.mg X.base Ng qg sg g cdg X.A X.stack s H Eg).tr pn xe) (.Call (.Name a p1) [] [] p2) (tAct i fn cc (X.env.qual ++ "<lambda>") (fun E H' Q' => tb E σ H' Q') W) := by
  refine ⟨fun pinsZ sZ σZ HZ Q IZ want => ?_⟩
  obtain ⟨at_i, at_c, E, toW, told⟩ := want
  refine wpAny_Call_Name_kw (thn ((pe_var (pos := p1) (i := i) hN hv hd hcd).run pinsZ sZ σZ HZ (fun v H1 => v = .ref fn ∧ H1 = HZ) IZ ⟨.ref fn, at_i, rfl, rfl⟩) fun u s1 got => ?_)
  obtain ⟨v, H1, J1, rv, ev, eH⟩ := got
  subst ev
  subst eH
  obtain rfl : u = Value.ref fn := rv
  have stands := J1.base.keep fn _ hf nfn frn (fun z => nomatch (show fn ∈ ([] : List Addr) from z))
  refine PySem.W.callWith_F0 ⟨_, _, _, _, stands⟩ ?_
  have kept : Un (frs X.stack) [] H H1 s.heap s1.heap := J1.base
  obtain ⟨⟨ob, us, tk1, g1, g2, g3⟩, _, _⟩ := J1.hok cc _ at_c
  have runs : codeAny (model X.prog X.w) (X.A.deeper (envOfC qg sg s.heap.objs.size g cdg)) (.call (.ref fn) ⟨[], []⟩) (CR (L2.CX X.prog X.w) (envOfC qg sg s.heap.objs.size g cdg :: X.stack) X.prog X.w H1 s1 Q E) s1 := by
    refine PySem.W.kla_callFunE hr.depth stands rfl L.co L.gen rfl ⟨cc, ob, us, tk1, rfl, g1, g2, g3⟩ ?_
    rw [hbind]
    refine wpAny_pure (wpAny_newFunctionEnv (fun y hy => (L.own y hy).2) (fun y hy => absurd hy (by simp)) (fun h₂ names sub => ⟨J1.nolimit.fresh _ sub, ?_⟩) L.kind)
    show codeAny _ _ (.expr body (LamX.lamEnv X scope s1.heap.objs.size fn cc)) _ _
    have old : ∀ b o, s1.heap.get? b = some o → h₂.get? b = some o := fun b o e => sub.extBut b o (Nat.ne_of_lt (Heap.lt_size e)) (Heap.get?_push_of_some _ e)
    have J : Inv (LamX.lamCx X (X.A.deeper (envOfC qg sg s.heap.objs.size g cdg)) (envOfC qg sg s.heap.objs.size g cdg :: X.stack) s1 H1 E scope fn cc) [] σ H1 { s1 with heap := h₂, toks := s1.toks + ([] : List (Str × Value)).length } := LamX.lam_start2 I L J1.env0 hr.hd kept names old
    refine PySem.W.kla_codeExpr (wpAny_mono ((hbody _ _ s1 H1 E (hr.deeper _) rfl).run [] _ _ H1 Q J told) (fun v s' hq => hq.elim fun w' z => z.elim fun H' z => ⟨w', H', z.1.os, z.1.bare, z.1.base, z.1.hok, z.2.1, z.2.2⟩) fun e s' hq => hq)
  refine wpAny_call (codeAny_mono runs fun r s' hq => ?_)
  cases r with
  | error e => exact tk e s' (XE.of_call J1 (fun cls d H' h => toW cls d H' h) hq)
  | ok fl =>
    cases fl with
    | ret u => exact J1.after hq
    | next => exact hq.elim
    | brk => exact hq.elim
    | cont => exact hq.elim
/-- the def that calls what it got, by its body; TT: what it makes of the lambda's reading -/
def Gives (X : Cx) (Ng : List Str) (x : Str) (sg : Scope) (g : Addr) (cdg : Value) (bg : List Stmt) (a : Str) (q : Str) (k : Nat) (TT : (XK → Hp → VK → Prop) → Hp → VK → Prop) : Prop :=
  ∀ (fn cc : Addr) (s : Shared) (H : Hp) (Q : VK) (tl : XK → Hp → VK → Prop), Room (k + 1) (X.A.deeper (envOfC x sg s.heap.objs.size g cdg)) →
    (∀ (W : WX) (pn : List (Addr × Obj)) (xe : Value → Shared → Prop) (p1 p2 : Pos), Takes ((cxOf CX0 X.prog X.w X.K X.mg X.base Ng x sg g cdg X.A X.stack s H C8.E0).nox.tr pn xe) W →
      PE ((cxOf CX0 X.prog X.w X.K X.mg X.base Ng x sg g cdg X.A X.stack s H C8.E0).nox.tr pn xe) (.Call (.Name a p1) [] [] p2) (tAct 0 fn cc q tl W)) →
    H cc = some (LamX.CodeO cc q) → TT tl H Q →
    ∃ t, PSs (cxOf CX0 X.prog X.w X.K X.mg X.base Ng x sg g cdg X.A X.stack s H C8.E0).nox bg t ∧ t { nx := fun _ H' => Q .non H', rt := Q } (L2.start Ng [.ref fn]) H
end
section
variable {X : Cx}
/-- x(lambda: body) -/
theorem pe_lam {T : List (Addr × Str)} {TT : (XK → Hp → VK → Prop) → Hp → VK → Prop} {x a : Str} {g c P : Addr} {k : Nat} {st : Stmt} {fd : FuncData} {Ng : List Str} {params : Arguments} {body : Expr} {scope : Scope} {t : XK → TE} {p lpos pos : Pos}
    (F : Fun X.K x x st g fd) (hb : L2.Binds X.K fd [a] []) (Sg : FnScope Ng [a] (defScope st)) (hg : Gl X x) (hm : X.mg x = some (.ref g)) (hNg : Ng[0]? = some a) (hva : Vis (defScope st) a)
    (hG : ∀ cdv : Value, Gives X Ng x (defScope st) g cdv (defBody st) a (X.env.qual ++ "<lambda>") k TT)
    (TB : LamX.TabB X.base X.mg c P) (hcode : X.env.code = .ref c) (hmT : (P, X.env.qual ++ "<lambda>") ∈ T) (hu : ∀ p ∈ T, p.1 = P → p.2 = X.env.qual ++ "<lambda>") (hr : Room (k + 2) X.A) (L : LamX.LamS X.env.scope scope) (hdef : defaultsOf params X.env = ([], []))
    (hbind : ∀ (q : Str) (cl : List (Str × Addr)) (pm cv ctv : Value), bindArgs (PySem.W.kla_fn "<lambda>" q params body scope cl pm cv ctv) ⟨[], []⟩ = pure [])
    (hbody : ∀ (A : Around) (outer : List Env) (s' : Shared) (H' : Hp) (E : XK) (fn cc : Addr), Room k (A.deeper (LamX.lamEnv X scope s'.heap.objs.size fn cc)) → A.guards = X.A.guards → PE (LamX.lamCx X A outer s' H' E scope fn cc) body (t E))
    (hdb : (x == ("__debug__" : Str)) = false := by decide) (hd : (a == ("__debug__" : Str)) = false := by decide) (hcd : (a == ("__classdict__" : Str)) = false := by decide) :
    PE X (.Call (.Name x p) [.Lambda params body scope lpos] [] pos) (LamX.tLam T TT t) := by
  refine ⟨fun pins s σ H Q I want => ?_⟩
  obtain ⟨oc, od, kV, doc, pm, an, cdv, ct, osl, rfl, lk, hcg⟩ := F.ex
  obtain ⟨tabs, told⟩ := want
  refine wpAny_Call_Name_kw (ld_glob I hg hm (PySem.W.callWith_K (h₀ := X.base) I.ok.mod.kin F.kp ?_ (by rfl) (by rfl)) hdb)
  show wpAny _ _ (spliced ((false, eval (.Lambda params body scope lpos) X.env) :: backTo pos (starEach [] X.env))) _ _ s
  refine Calls.spliced_cons (LamX.lam_make2 I TB hcode hmT hu tabs hdef (L.has I.ok) fun fn cc pm' ctv H1 s1 J ext tabs1 stands nfn frn hco => Calls.spliced_nil ⟨J.kIn, ?_⟩)
  have runs : codeAny (model X.prog X.w) X.A (.call (.ref g) ⟨[.ref fn], []⟩) (CR CX0 X.stack X.prog X.w H1 s1 Q C8.E0) s1 := by
    refine LamX.run_ofS (N := Ng) (ps := [a]) (us := [.ref fn]) (vs := [.ref fn]) lk hcg Sg hr J.env0 (hb s1 [.ref fn] J.kIn rfl) (.cons rfl .nil) rfl fun hr1 => ?_
    obtain ⟨t1, ht1, hq1⟩ := hG cdv fn cc s1 H1 Q (fun E H' Q' => t E σ H' Q') hr1 (fun W pn xe p1 p2 tk => pe_actS (CXg := CX0) (Eg := C8.E0) (i := 0) J L stands nfn frn (hbind _ _ _ _ _) tk hr1 (fun A outer s' H' E hr2 hgu => hbody A outer s' H' E fn cc hr2 hgu) hNg hva hd hcd) hco (told H1 ext tabs1)
    exact ⟨t1, ht1.nox, hq1⟩
  refine wpAny_call (codeAny_mono runs fun r s2 hq => ?_)
  cases r with
  | error e => exact (show False from hq).elim
  | ok fl =>
    cases fl with
    | ret u => exact J.after hq
    | next => exact hq.elim
    | brk => exact hq.elim
    | cont => exact hq.elim
end
end Mo

/-! ### kinds of data, counts among data of any kind, tables of code objects kept -/
namespace Mo
open PySem PySem.Spec PyProof.Rows L2
def isIntD : PyData → Bool
  | .int _ | .bool _ => true
  | _ => false
def isBoolD : PyData → Bool
  | .bool _ => true
  | _ => false
def isStrD : PyData → Bool
  | .str _ => true
  | _ => false
def isTupD : PyData → Bool
  | .tuple _ => true
  | _ => false
theorem kit_int : ∀ d : PyData, kitB (tyD d) "int" = some (isIntD d)
  | .none => by show kitB "NoneType" "int" = some false; decide +kernel
  | .bool _ => by show kitB "bool" "int" = some true; decide +kernel
  | .int _ => by show kitB "int" "int" = some true; decide +kernel
  | .str _ => by show kitB "str" "int" = some false; decide +kernel
  | .list _ => by show kitB "list" "int" = some false; decide +kernel
  | .tuple _ => by show kitB "tuple" "int" = some false; decide +kernel
  | .dict _ => by show kitB "dict" "int" = some false; decide +kernel
theorem kit_bool : ∀ d : PyData, kitB (tyD d) "bool" = some (isBoolD d)
  | .none => by show kitB "NoneType" "bool" = some false; decide +kernel
  | .bool _ => by show kitB "bool" "bool" = some true; decide +kernel
  | .int _ => by show kitB "int" "bool" = some false; decide +kernel
  | .str _ => by show kitB "str" "bool" = some false; decide +kernel
  | .list _ => by show kitB "list" "bool" = some false; decide +kernel
  | .tuple _ => by show kitB "tuple" "bool" = some false; decide +kernel
  | .dict _ => by show kitB "dict" "bool" = some false; decide +kernel
theorem kit_str : ∀ d : PyData, kitB (tyD d) "str" = some (isStrD d)
  | .none => by show kitB "NoneType" "str" = some false; decide +kernel
  | .bool _ => by show kitB "bool" "str" = some false; decide +kernel
  | .int _ => by show kitB "int" "str" = some false; decide +kernel
  | .str _ => by show kitB "str" "str" = some true; decide +kernel
  | .list _ => by show kitB "list" "str" = some false; decide +kernel
  | .tuple _ => by show kitB "tuple" "str" = some false; decide +kernel
  | .dict _ => by show kitB "dict" "str" = some false; decide +kernel
theorem kit_tup : ∀ d : PyData, kitB (tyD d) "tuple" = some (isTupD d)
  | .none => by show kitB "NoneType" "tuple" = some false; decide +kernel
  | .bool _ => by show kitB "bool" "tuple" = some false; decide +kernel
  | .int _ => by show kitB "int" "tuple" = some false; decide +kernel
  | .str _ => by show kitB "str" "tuple" = some false; decide +kernel
  | .list _ => by show kitB "list" "tuple" = some false; decide +kernel
  | .tuple _ => by show kitB "tuple" "tuple" = some true; decide +kernel
  | .dict _ => by show kitB "dict" "tuple" = some false; decide +kernel
def plainD (d : PyData) : Bool := isIntD d && !isBoolD d
/-- a question about data -/
def spAsk (f : PyData → Bool) : Sp := fun vs H Q _ => ∃ (N : Addr → Prop) (x : V) (d : PyData), vs = [x] ∧ Dx N H x d ∧ d.bulk ≤ 1000000 ∧ ∀ H', Same H H' → Q (.bl (f d)) H'
theorem plain_int : ∀ {N : Addr → Prop} {H : Hp} {x : V} {d : PyData}, Dx N H x d → plainD d = true → ∃ i : Int, x = .int i ∧ d = .int i := by
  intro N H x d h e
  cases h with
  | int i => exact ⟨i, rfl, rfl⟩
  | _ => exact absurd (show false = true from e) (by decide)
def isListD : PyData → Bool
  | .list _ => true
  | _ => false
def isDictD : PyData → Bool
  | .dict _ => true
  | _ => false
theorem kit_list : ∀ d : PyData, kitB (tyD d) "list" = some (isListD d)
  | .none => by show kitB "NoneType" "list" = some false; decide +kernel
  | .bool _ => by show kitB "bool" "list" = some false; decide +kernel
  | .int _ => by show kitB "int" "list" = some false; decide +kernel
  | .str _ => by show kitB "str" "list" = some false; decide +kernel
  | .list _ => by show kitB "list" "list" = some true; decide +kernel
  | .tuple _ => by show kitB "tuple" "list" = some false; decide +kernel
  | .dict _ => by show kitB "dict" "list" = some false; decide +kernel
/-- an integer from a to b -/
def cntB (a b : Int) : PyData → Bool
  | .int i => decide (a ≤ i) && decide (i ≤ b)
  | _ => false
/-- check_count: nothing, or InvalidCount with the very value -/
def spCnt (C : Addr) : Sp := fun vs H Q E => ∃ (N : Addr → Prop) (x : V) (d : PyData) (a b : Int), vs = [x, .int a, .int b] ∧ Dx N H x d ∧ d.bulk ≤ 1000000 ∧ (cntB a b d = true → ∀ H', Same H H' → Q .non H') ∧
  (cntB a b d = false → ∀ dd H', H dd = none → Same H H' → H' dd = some (.xd [("value", x)]) → E (.ref C) (some dd) H')
theorem cnt_no {a b : Int} {d : PyData} (h : plainD d = false) : cntB a b d = false := by
  cases d <;> first | rfl | exact absurd (show true = false from h) (by decide)
/-! more written data -/
theorem lit_negE {te : TE} {i : Int} (h : LitE te (.int i)) : LitE (tUn (rU fun i => .int (-i)) te) (.int (-i)) := fun σ H Q q => h σ H _ fun H' v s hv => by
  cases hv
  exact ⟨i, rfl, q _ _ s (.int _)⟩
/-! nothing is changed but tables -/
mutual
theorem Dx.tabs {N : Addr → Prop} {H H' : Hp} (s : LamX.ExtN H H') : ∀ {v : V} {d : PyData}, Dx N H v d → Dx N H' v d
  | _, _, .non => .non
  | _, _, .bl b => .bl b
  | _, _, .int i => .int i
  | _, _, .str x => .str x
  | _, _, .lst h n a => .lst (s _ _ h (fun _ z => nomatch z)) n (DxAll.tabs s a)
  | _, _, .tup h n a => .tup (s _ _ h (fun _ z => nomatch z)) n (DxAll.tabs s a)
  | _, _, .dct h n a => .dct (s _ _ h (fun _ z => nomatch z)) n (DxAll.tabs s a)
theorem DxAll.tabs {N : Addr → Prop} {H H' : Hp} (s : LamX.ExtN H H') : ∀ {v : List V} {d : List PyData}, DxAll N H v d → DxAll N H' v d
  | _, _, .nil => .nil
  | _, _, .cons a b => .cons (Dx.tabs s a) (DxAll.tabs s b)
end
theorem Tabs.same {T : List (Addr × Str)} {H H' : Hp} (t : LamX.Tabs T H) (s : Same H H') : LamX.Tabs T H' := t.ext s
theorem Tabs.but {T : List (Addr × Str)} {H H' : Hp} {d : Addr} {kvs : List (Key × V)} (t : LamX.Tabs T H) (hd : H d = some (.dK kvs)) (s : But d H H') : LamX.Tabs T H' := fun p hp => by
  obtain ⟨ps, h1, h2, h3⟩ := t p hp
  refine ⟨ps, s _ _ (fun z => ?_) h1, h2, fun pos cv hc => ?_⟩
  · rw [z, hd] at h1
    cases h1
  · obtain ⟨c, e1, e2⟩ := h3 pos cv hc
    refine ⟨c, e1, s _ _ (fun z => ?_) e2⟩
    rw [z, hd] at e2
    cases e2
theorem tabs_nil {H : Hp} {P : Addr} {q : Str} (h : H P = some (.tbl #[])) : LamX.Tabs [(P, q)] H := fun p hp => by
  rw [List.mem_singleton.mp hp]
  exact LamX.TabS.nil h
end Mo
namespace Mo
open PySem PySem.Spec PyProof.Rows L2
/-- while, by a word and a measure; the test's own reading told as it stands -/
theorem while_raw {c : TT} {tb : TS} {D : Ends} {σ : L2.St} {H : Hp} (Pv : L2.St → Hp → Prop) (μ : L2.St → Hp → Nat) (h0 : Pv σ H)
    (hs : ∀ σ H, Pv σ H → c σ H fun b H1 => if b = true then ∃ N : L2.St → Hp → Prop, (∀ σ' H', N σ' H' → ∃ m', m' < μ σ H ∧ m' = μ σ' H' ∧ Pv σ' H') ∧ tb { D with nx := N, ct := N, bk := D.nx } σ H1 else D.nx σ H1) : tWhile c tb D σ H :=
  ⟨fun m σ H => m = μ σ H ∧ Pv σ H, ⟨_, rfl, h0⟩, fun m σ H p => by
    obtain ⟨rfl, p⟩ := p
    exact hs σ H p⟩
/-- an odd value: small, and no integer from 0 on -/
structure OddD (e : PyData) : Prop where
  fit : Fit 30 100 3 e
  no : ∀ a b : Int, 0 ≤ a → cntB a b e = false
theorem fitI {B W D : Nat} {i : Int} (h : i.natAbs < 10 ^ B) (hW : 1 ≤ W) : Fit B W D (.int i) := ⟨by simp only [okD]; exact h, by simp only [PyData.bulk]; exact Nat.zero_le _, by simp only [PyData.depth]; exact Nat.zero_le _⟩
theorem odd_neg {i : Int} (h : i.natAbs < 10 ^ 30) (hn : i < 0) : OddD (.int i) := ⟨fitI h (by decide), fun a b ha => by
  show (decide (a ≤ i) && decide (i ≤ b)) = false
  rw [decide_eq_false (show ¬ a ≤ i by omega)]
  rfl⟩
theorem odd_bl (b : Bool) : OddD (.bool b) := ⟨⟨by simp [okD], by simp [PyData.bulk], by simp [PyData.depth]⟩, fun _ _ _ => rfl⟩
theorem odd_non : OddD .none := ⟨⟨by simp [okD], by simp [PyData.bulk], by simp [PyData.depth]⟩, fun _ _ _ => rfl⟩
theorem odd_str {x : Str} (h : ∀ c ∈ x.cps.toList, c < 128) (hl : x.cps.size ≤ 50) : OddD (.str x) := ⟨⟨by simp only [okD]; exact h, by simp only [PyData.bulk]; omega, by simp [PyData.depth]⟩, fun _ _ _ => rfl⟩
theorem odd_tup1 {i : Int} (h : i.natAbs < 10 ^ 30) : OddD (.tuple [.int i]) := ⟨(FitAll.tup (fitI (W := 1) (D := 0) h (by decide)).one).mono (by decide) (by decide) (by decide), fun _ _ _ => rfl⟩
theorem odd_lst1 {i : Int} (h : i.natAbs < 10 ^ 30) : OddD (.list [.int i]) := ⟨(FitAll.lst (fitI (W := 1) (D := 0) h (by decide)).one).mono (by decide) (by decide) (by decide), fun _ _ _ => rfl⟩
theorem odd_dct : OddD (.dict []) := ⟨⟨by simp [okD, okKv], by simp [PyData.bulk, PyData.bulkKv], by simp [PyData.depth, PyData.depthKv]⟩, fun _ _ _ => rfl⟩
/-- what was new when the old heap was H0, d being old: nothing of it is at d -/
theorem Dx.keep {H0 H H' : Hp} {d : Addr} {v : V} {e : PyData} (h : Dx (Was H0) H v e) (hd : H0 d ≠ none) (b : But d H H') : Dx (fun x => x = d) H' v e :=
  (h.but fun x o nx hx => b x o (fun z => nx (by rw [z]; exact hd)) hx).more fun x _ z => by rw [z]; exact hd
theorem Dx.pen {H H' : Hp} {d : Addr} {v : V} {e : PyData} (h : Dx (fun x => x = d) H v e) (b : But d H H') : Dx (fun x => x = d) H' v e := h.but fun x o nx hx => b x o nx hx
end Mo

/-! ### lists and tuples of flat values compared -/
namespace Mo
open PySem PySem.Spec PyProof.Rows L2
def eqLs : List V → List V → Bool
  | [], [] => true
  | x :: xs, y :: ys => eqV x y && eqLs xs ys
  | _, _ => false
theorem eqLs_range : ∀ (xs ys : List V), xs.length = ys.length → (List.range xs.length).all (fun j => eqV (xs.getD j .non) (ys.getD j .non)) = eqLs xs ys
  | [], [], _ => rfl
  | x :: xs, y :: ys, h => by
    rw [List.length_cons, List.range_succ_eq_map, List.all_cons, List.all_map]
    show (eqV x y && (List.range xs.length).all (fun j => eqV (xs.getD j .non) (ys.getD j .non))) = _
    rw [eqLs_range xs ys (by simpa using h)]
    rfl
  | [], _ :: _, h => by simp at h
  | _ :: _, [], h => by simp at h
theorem eqLs_len : ∀ {xs ys : List V}, eqLs xs ys = true → xs.length = ys.length
  | [], [], _ => rfl
  | x :: xs, y :: ys, h => by
    rw [List.length_cons, List.length_cons, eqLs_len (Bool.and_eq_true_iff.mp h).2]
  | [], _ :: _, h => by cases h
  | _ :: _, [], h => by cases h
theorem eqV_self : ∀ {x : V}, flatV x = true → eqV x x = true := by
  intro x h
  cases x <;> first | (exact absurd (show false = true from h) Bool.false_ne_true) | rfl | (simp [eqV])
theorem eqLs_self : ∀ {xs : List V}, xs.all flatV = true → eqLs xs xs = true
  | [], _ => rfl
  | x :: xs, h => by
    rw [List.all_cons, Bool.and_eq_true] at h
    show (eqV x x && eqLs xs xs) = true
    rw [eqV_self h.1, eqLs_self h.2]
    rfl
theorem flat_ints (ns : List Int) : (ns.map V.int).all flatV = true := by
  rw [List.all_map, List.all_eq_true]
  exact fun _ _ => rfl
theorem flat_strs' (zs : List Str) : (zs.map V.str).all flatV = true := by
  rw [List.all_map, List.all_eq_true]
  exact fun _ _ => rfl
theorem eqLs_ints : ∀ (a b : List Int), eqLs (a.map V.int) (b.map V.int) = decide (a = b)
  | [], [] => by simp [eqLs]
  | x :: a, y :: b => by
    show (x == y && eqLs (a.map V.int) (b.map V.int)) = _
    rw [eqLs_ints a b, Bool.eq_iff_iff]
    simp
  | [], _ :: _ => by simp [eqLs]
  | _ :: _, [] => by simp [eqLs]
theorem eqLs_strs : ∀ (a b : List Str), eqLs (a.map V.str) (b.map V.str) = decide (a = b)
  | [], [] => by simp [eqLs]
  | x :: a, y :: b => by
    show (x == y && eqLs (a.map V.str) (b.map V.str)) = _
    rw [eqLs_strs a b, Bool.eq_iff_iff]
    simp
  | [], _ :: _ => by simp [eqLs]
  | _ :: _, [] => by simp [eqLs]
section
variable {X : Cx}
theorem eqAts {A : Around} {s : Shared} {xs ys : List V} {us ws : List Value} (r1 : Vals xs us) (r2 : Vals ys ws) (f1 : xs.all flatV = true) (f2 : ys.all flatV = true) :
    ∀ j (h1 : j < us.toArray.size) (h2 : j < ws.toArray.size), SeqAt.EqAt A s us.toArray[j] ws.toArray[j] (eqV (xs.getD j .non) (ys.getD j .non)) := by
  intro j h1 h2
  have l1 := r1.length
  have l2 := r2.length
  rw [List.size_toArray] at h1 h2
  have e1 : xs[j]? = some (xs.getD j .non) := by
    rw [List.getD_eq_getElem?_getD, List.getElem?_eq_getElem (by omega)]
    rfl
  have e2 : ys[j]? = some (ys.getD j .non) := by
    rw [List.getD_eq_getElem?_getD, List.getElem?_eq_getElem (by omega)]
    rfl
  obtain ⟨u, hu, ru⟩ := r1.get e1
  obtain ⟨v, hv, rv⟩ := r2.get e2
  have q1 : us.toArray[j] = u := by
    rw [List.getElem?_eq_getElem h1] at hu
    exact Option.some.inj hu
  have q2 : ws.toArray[j] = v := by
    rw [List.getElem?_eq_getElem h2] at hv
    exact Option.some.inj hv
  rw [q1, q2]
  exact eqAt_V ru rv (List.all_eq_true.mp f1 _ (List.mem_of_getElem? e1)) (List.all_eq_true.mp f2 _ (List.mem_of_getElem? e2))
def FlatAt (K : PySem.W.Frag) (H : Hp) (x y : V) (xs ys : List V) : Prop := ∃ a b, x = .ref a ∧ y = .ref b ∧ xs.all flatV = true ∧ ys.all flatV = true ∧ ((SqL K H a xs ∧ SqL K H b ys) ∨ (SqT K H a xs ∧ SqT K H b ys))
def rEqFl (K : PySem.W.Frag) : R2 := fun x y H Q => ∃ xs ys, FlatAt K H x y xs ys ∧ Q (.bl (eqLs xs ys)) H
def rNeFl (K : PySem.W.Frag) : R2 := fun x y H Q => ∃ xs ys, FlatAt K H x y xs ys ∧ Q (.bl (!eqLs xs ys)) H
theorem tups_eq {xs ys : List V} : ((List.range (min xs.length ys.length)).all (fun j => eqV (xs.getD j .non) (ys.getD j .non)) && xs.length == ys.length) = eqLs xs ys := by
  by_cases h : xs.length = ys.length
  · rw [← h, Nat.min_self, eqLs_range xs ys h]
    simp
  · have : eqLs xs ys = false := by
      cases e : eqLs xs ys with
      | false => rfl
      | true => exact absurd (eqLs_len e) h
    rw [this, beq_eq_false_iff_ne.mpr h, Bool.and_false]
theorem op_eqFl (hu : X.A.units + 64 < cLine) : OpR X (compareOp .Eq) (rEqFl X.K) := by
  intro pins s σ H x y v u Q I rx ry h
  obtain ⟨xs, ys, ⟨a, b, rfl, rfl, f1, f2, h⟩, q⟩ := h
  cases rx
  cases ry
  rcases h with ⟨ha, hb⟩ | ⟨ha, hb⟩
  · obtain ⟨is, r1, p1, _⟩ := I.list ha
    obtain ⟨js, r2, p2, _⟩ := I.list hb
    have l1 := r1.length
    have l2 := r2.length
    by_cases hl : xs.length = ys.length
    · refine SeqAt.eq_listAt (e := fun j => eqV (xs.getD j .non) (ys.getD j .non)) p1.isList p2.isList (by simp only [List.size_toArray]; omega) (by omega) (eqAts r1 r2 f1 f2) ?_
      rw [List.size_toArray, ← l1, eqLs_range xs ys hl]
      exact ⟨.bl _, H, I, rfl, q⟩
    · have e : eqLs xs ys = false := by
        cases e : eqLs xs ys with
        | false => rfl
        | true => exact absurd (eqLs_len e) hl
      rw [e] at q
      exact SeqAt.eq_list_lengthsAt p1.isList p2.isList (by simp only [List.size_toArray]; rw [bne_iff_ne]; omega) (by omega) ⟨.bl _, H, I, rfl, q⟩
  · obtain ⟨is, r1, p1, _⟩ := I.tuple ha
    obtain ⟨js, r2, p2, _⟩ := I.tuple hb
    have l1 := r1.length
    have l2 := r2.length
    have k1 : s.heap.IsTuple a is.toArray := p1
    have k2 : s.heap.IsTuple b js.toArray := p2
    refine SeqAt.eq_tupleAt (e := fun j => eqV (xs.getD j .non) (ys.getD j .non)) k1 k2 (by omega) (eqAts r1 r2 f1 f2) ?_
    rw [List.size_toArray, List.size_toArray, ← l1, ← l2, tups_eq]
    exact ⟨.bl _, H, I, rfl, q⟩
theorem op_neFl (hu : X.A.units + 64 < cLine) : OpR X (compareOp .NotEq) (rNeFl X.K) := by
  intro pins s σ H x y v u Q I rx ry h
  obtain ⟨xs, ys, ⟨a, b, rfl, rfl, f1, f2, h⟩, q⟩ := h
  cases rx
  cases ry
  rcases h with ⟨ha, hb⟩ | ⟨ha, hb⟩
  · obtain ⟨is, r1, p1, _⟩ := I.list ha
    obtain ⟨js, r2, p2, _⟩ := I.list hb
    have l1 := r1.length
    have l2 := r2.length
    by_cases hl : xs.length = ys.length
    · refine SeqAt.RcNeAt.lists (e := fun j => eqV (xs.getD j .non) (ys.getD j .non)) p1.isList p2.isList (by simp only [List.size_toArray]; omega) (by omega) (eqAts r1 r2 f1 f2) X.prog X.w X.xe _ ?_
      rw [List.size_toArray, ← l1, eqLs_range xs ys hl]
      exact ⟨.bl _, H, I, rfl, q⟩
    · have e : eqLs xs ys = false := by
        cases e : eqLs xs ys with
        | false => rfl
        | true => exact absurd (eqLs_len e) hl
      rw [e] at q
      exact SeqAt.RcNeAt.lists_lengths p1.isList p2.isList (by simp only [List.size_toArray]; rw [bne_iff_ne]; omega) (by omega) X.prog X.w X.xe _ ⟨.bl _, H, I, rfl, q⟩
  · obtain ⟨is, r1, p1, _⟩ := I.tuple ha
    obtain ⟨js, r2, p2, _⟩ := I.tuple hb
    have l1 := r1.length
    have l2 := r2.length
    have k1 : s.heap.IsTuple a is.toArray := p1
    have k2 : s.heap.IsTuple b js.toArray := p2
    refine SeqAt.RcNeAt.tuples (e := fun j => eqV (xs.getD j .non) (ys.getD j .non)) k1 k2 (by omega) (eqAts r1 r2 f1 f2) X.prog X.w X.xe _ ?_
    rw [List.size_toArray, List.size_toArray, ← l1, ← l2, tups_eq]
    exact ⟨.bl _, H, I, rfl, q⟩
end
end Mo

namespace Mo
open PySem PySem.Spec PyProof.Rows L2
/-! ### the pen -/
def srcD (c : Addr) (t r : Int) : List (Key × V) := [(.inr "cells", .ref c), (.inr "index", .int t), (.inr "rest", .int r)]
theorem s_ct : ¬ ((Sum.inr "cells" : Key) = (Sum.inr "index" : Key)) := by decide +kernel
theorem s_cr : ¬ ((Sum.inr "cells" : Key) = (Sum.inr "rest" : Key)) := by decide +kernel
theorem s_tr : ¬ ((Sum.inr "index" : Key) = (Sum.inr "rest" : Key)) := by decide +kernel
theorem src_cells (c : Addr) (t r : Int) : valV (srcD c t r) (Sum.inr "cells") = some (.ref c) := valV_pos rfl
theorem src_index (c : Addr) (t r : Int) : valV (srcD c t r) (Sum.inr "index") = some (.int t) := by
  unfold srcD
  rw [valV_neg s_ct, valV_pos rfl]
theorem src_rest (c : Addr) (t r : Int) : valV (srcD c t r) (Sum.inr "rest") = some (.int r) := by
  unfold srcD
  rw [valV_neg s_cr, valV_neg s_tr, valV_pos rfl]
theorem sput_index (c : Addr) (t r u : Int) : putK (srcD c t r) (Sum.inr "index") (.int u) = srcD c u r := by
  unfold putK srcD
  have k1 := s_ct
  have k2 : ¬ ((Sum.inr "rest" : Key) = (Sum.inr "index" : Key)) := fun e => s_tr e.symm
  simp only [List.any_cons, List.map_cons, List.map_nil, k1, k2, if_false, if_true, decide_true, decide_false, Bool.true_or, Bool.or_true, Bool.false_or]
theorem sput_rest (c : Addr) (t r u : Int) : putK (srcD c t r) (Sum.inr "rest") (.int u) = srcD c t u := by
  unfold putK srcD
  have k1 := s_cr
  have k2 := s_tr
  simp only [List.any_cons, List.map_cons, List.map_nil, k1, k2, if_false, if_true, decide_true, decide_false, Bool.true_or, Bool.or_true, Bool.false_or]
theorem src_merge (c : Addr) (t r : Int) : mergeK [] (srcD c t r) = srcD c t r := by
  have k1 := s_ct
  have k2 := s_cr
  have k3 := s_tr
  simp only [mergeK, srcD, putK, List.foldl_cons, List.foldl_nil, List.any_nil, List.any_cons, List.nil_append, List.cons_append, k1, k2, k3, decide_false, Bool.or_false, Bool.false_eq_true, if_false]
/-- the pen at d, its cells at c, t draws done -/
def Src (H : Hp) (d c : Addr) (t : Nat) : Prop := ∃ (ns : List Int) (r : Int), H d = some (.dK (srcD c t r)) ∧ H c = some (.lst (ns.map V.int)) ∧ ns.length ≤ 63 ∧ 0 ≤ r
theorem Src.ne {H : Hp} {d c : Addr} {t : Nat} (h : Src H d c t) : d ≠ c := by
  obtain ⟨ns, r, h1, h2, _⟩ := h
  exact ne_of h1 h2 (by intro z; cases z)
theorem Src.new {H : Hp} {d c : Addr} {t : Nat} (h : Src H d c t) {p : Addr} (hp : H p = none) : p ≠ d ∧ p ≠ c := by
  obtain ⟨ns, r, h1, h2, _⟩ := h
  exact ⟨(ne_of_none h1 hp).symm, (ne_of_none h2 hp).symm⟩
theorem Src.upd {H : Hp} {d c : Addr} {t : Nat} (h : Src H d c t) {p : Addr} {o : HO} (h1 : p ≠ d) (h2 : p ≠ c) : Src (upd H p o) d c t := by
  obtain ⟨ns, r, e1, e2, e3⟩ := h
  exact ⟨ns, r, by rw [upd_ne h1.symm]; exact e1, by rw [upd_ne h2.symm]; exact e2, e3⟩
theorem Src.same {H H' : Hp} {d c : Addr} {t : Nat} (h : Src H d c t) (s : Same H H') : Src H' d c t := by
  obtain ⟨ns, r, e1, e2, e3⟩ := h
  exact ⟨ns, r, s _ _ e1, s _ _ e2, e3⟩
theorem src_set {H : Hp} {d c : Addr} {t : Nat} (h : Src H d c t) {u : Nat} {r : Int} (hr : 0 ≤ r) : Src (L2.upd H d (.dK (srcD c u r))) d c u := by
  have n := h.ne
  obtain ⟨ns, r0, e1, e2, e3, _⟩ := h
  exact ⟨ns, r, upd_same, by rw [upd_ne n.symm]; exact e2, e3, hr⟩
def spSDraw : Sp := fun vs H Q _ => ∃ (d c : Addr) (n : Int) (t : Nat), vs = [.ref d, .int n] ∧ Src H d c t ∧ 0 < n ∧ n < 1073741824 ∧ t < 1073741824 ∧
  ∀ H' k t', But d H H' → Src H' d c t' → t' ≤ t + 1 → 0 ≤ k → k < n → Q (.int k) H'
def spSPick (K : PySem.W.Frag) : Sp := fun vs H Q _ => ∃ (d c l : Addr) (xs : List V) (t : Nat), vs = [.ref d, .ref l] ∧ Src H d c t ∧ SqL K H l xs ∧ l ≠ d ∧ 0 < xs.length ∧ xs.length < 1073741824 ∧ t < 1073741824 ∧
  ∀ H' v t', But d H H' → Src H' d c t' → t' ≤ t + 1 → v ∈ xs → Q v H'
end Mo

namespace Mo
open PySem PySem.Spec PyProof.Rows L2
section
variable {K : PySem.W.Frag}
theorem intsDp {H : Hp} : ∀ ns : List Int, DpAll K H (ns.map V.int) (ns.map PyData.int)
  | [] => .nil
  | n :: ns => .cons (.int n) (intsDp ns)
theorem tupI_dat {H : Hp} {p : Addr} {ns : List Int} (h : H p = some (.tup (ns.map V.int))) : Dat K H (.ref p) (.tuple (ns.map PyData.int)) := .inl (.tup (SqT.of h) (intsDp ns))
theorem lstI_dat {H : Hp} {p : Addr} {ns : List Int} (h : H p = some (.lst (ns.map V.int))) : Dat K H (.ref p) (.list (ns.map PyData.int)) := .inl (.lst (SqL.of h) (intsDp ns))
theorem ints_fitAll {B : Nat} : ∀ {ns : List Int}, (∀ n ∈ ns, n.natAbs < 10 ^ B) → FitAll B (2 * ns.length) 0 (ns.map PyData.int)
  | [], _ => ⟨trivial, Nat.le_refl _, Nat.le_refl _⟩
  | n :: ns, h => by
    have ih := ints_fitAll (B := B) (ns := ns) fun x hx => h x (List.mem_cons_of_mem _ hx)
    refine ⟨?_, ?_, ?_⟩
    · simp only [List.map_cons, okAll]
      exact ⟨by simp only [okD]; exact h n (List.mem_cons_self ..), ih.ok⟩
    · have := ih.bulk
      simp only [List.map_cons, PyData.bulkAll, PyData.bulk, List.length_cons]
      omega
    · have := ih.deep
      simp only [List.map_cons, PyData.depthAll, PyData.depth]
      omega
theorem tupI_repr {ns : List Int} (h : ∀ n ∈ ns, n.natAbs < 10 ^ 20) (hl : ns.length ≤ 100000) : (PyData.tuple (ns.map PyData.int)).showable = true ∧ (PyData.tuple (ns.map PyData.int)).depth ≤ 40 ∧ (PyData.tuple (ns.map PyData.int)).shown.length ≤ sizeLine :=
  ((ints_fitAll h).tup).repr (by decide) (by decide) (by omega) (by decide)
theorem lstI_repr {ns : List Int} (h : ∀ n ∈ ns, n.natAbs < 10 ^ 20) (hl : ns.length ≤ 100000) : (PyData.list (ns.map PyData.int)).showable = true ∧ (PyData.list (ns.map PyData.int)).depth ≤ 40 ∧ (PyData.list (ns.map PyData.int)).shown.length ≤ sizeLine :=
  ((ints_fitAll h).lst).repr (by decide) (by decide) (by omega) (by decide)
end
end Mo

namespace Mo
open PySem PySem.Spec PyProof.Rows L2
theorem ints_dx {N : Addr → Prop} {H : Hp} : ∀ ns : List Int, DxAll N H (ns.map V.int) (ns.map PyData.int)
  | [] => .nil
  | n :: r => .cons (.int n) (ints_dx r)
theorem tupI_dx {H : Hp} {p : Addr} {ns : List Int} (h : H p = some (.tup (ns.map V.int))) : Dx (fun _ => False) H (.ref p) (.tuple (ns.map PyData.int)) := .tup h (fun z => z) (ints_dx ns)
theorem same_ne (x : V) : V.bl (!decide (x = x)) = V.bl false := by simp
theorem same_eq (x : V) : V.bl (decide (x = x)) = V.bl true := by simp
/-- two equal tuples of flat values are not unlike -/
theorem neFl_self {K : PySem.W.Frag} {H : Hp} {p r : Addr} {xs : List V} {Q : VK} (hp : H p = some (.tup xs)) (hr : H r = some (.tup xs)) (hf : xs.all flatV = true) (q : Q (.bl false) H) : rNeFl K (.ref p) (.ref r) H Q :=
  ⟨xs, xs, ⟨p, r, rfl, rfl, hf, hf, .inr ⟨SqT.of hp, SqT.of hr⟩⟩, by rw [eqLs_self hf]; exact q⟩
theorem eqFl_self {K : PySem.W.Frag} {H : Hp} {p r : Addr} {xs : List V} {Q : VK} (hp : H p = some (.tup xs)) (hr : H r = some (.tup xs)) (hf : xs.all flatV = true) (q : Q (.bl true) H) : rEqFl K (.ref p) (.ref r) H Q :=
  ⟨xs, xs, ⟨p, r, rfl, rfl, hf, hf, .inr ⟨SqT.of hp, SqT.of hr⟩⟩, by rw [eqLs_self hf]; exact q⟩
theorem cnt_abs {a b : Int} {N : Addr → Prop} {H : Hp} {i : Int} {e : PyData} (h : Dx N H (.int i) e) (hn : cntB a b e = false) (h1 : a ≤ i) (h2 : i ≤ b) : False := by
  cases h
  have z : (decide (a ≤ i) && decide (i ≤ b)) = false := hn
  rw [decide_eq_true h1, decide_eq_true h2] at z
  cases z
theorem cnt_out {a b i : Int} (h : i < a ∨ b < i) : cntB a b (.int i) = false := by
  show (decide (a ≤ i) && decide (i ≤ b)) = false
  rcases h with h | h
  · rw [decide_eq_false (show ¬ a ≤ i by omega)]
    rfl
  · rw [decide_eq_false (show ¬ i ≤ b by omega), Bool.and_false]
/-- where a dict d is and the tables, what the lambda leaves -/
theorem ext_at {H H' : Hp} (s : LamX.ExtN H H') {b : Addr} {o : HO} (h : H b = some o) (n : ∀ ps, o ≠ .tbl ps) : H' b = some o := s b o h n
end Mo

/-! ### texts among data of any kind -/
namespace Mo
open PySem PySem.Spec PyProof.Rows L2
theorem bulk_mem : ∀ {ds : List PyData} {d : PyData}, d ∈ ds → d.bulk ≤ PyData.bulkAll ds
  | x :: ds, d, h => by
    simp only [PyData.bulkAll]
    rcases List.mem_cons.mp h with rfl | h
    · omega
    · have := bulk_mem h
      omega
theorem bulk_len (a : List PyData) : a.length ≤ PyData.bulkAll a := by
  induction a with
  | nil => exact Nat.zero_le _
  | cons x a ih =>
    simp only [PyData.bulkAll, List.length_cons]
    omega
theorem tup_dx : ∀ {N : Addr → Prop} {H : Hp} {x : V} {d : PyData}, Dx N H x d → isTupD d = true → ∃ a xs ds, x = .ref a ∧ d = .tuple ds ∧ H a = some (.tup xs) ∧ ¬ N a ∧ DxAll N H xs ds := by
  intro N H x d h e
  cases h with
  | tup h n t => exact ⟨_, _, _, rfl, rfl, h, n, t⟩
  | _ => exact absurd (show false = true from e) (by decide)
theorem str_dx : ∀ {N : Addr → Prop} {H : Hp} {x : V} {d : PyData}, Dx N H x d → isStrD d = true → ∃ cs : List Nat, x = .str (tx cs) ∧ d = .str (tx cs) := by
  intro N H x d h e
  cases h with
  | str z => exact ⟨z.cps.toList, rfl, rfl⟩
  | _ => exact absurd (show false = true from e) (by decide)
theorem notTup {d : PyData} (h : isTupD d = false) : textD d = false := by
  cases d <;> first | rfl | exact absurd (show true = false from h) (by decide)
/-- check_text: nothing, or InvalidText with the very value -/
def spChkT (C : Addr) : Sp := fun vs H Q E => ∃ (N : Addr → Prop) (x : V) (d : PyData), vs = [x] ∧ Dx N H x d ∧ d.bulk ≤ 1000000 ∧ (textD d = true → ∀ H', Same H H' → Q .non H') ∧
  (textD d = false → ∀ dd H', H dd = none → Same H H' → H' dd = some (.xd [("value", x)]) → E (.ref C) (some dd) H')
theorem text_ints {ns : List Int} (h : ∀ n ∈ ns, 0 ≤ n ∧ n ≤ 999999) (hl : ns.length ≤ 4096) : textD (.tuple (ns.map PyData.int)) = true := by
  show (decide ((ns.map PyData.int).length ≤ 4096) && (ns.map PyData.int).all letterD) = true
  rw [decide_eq_true (by rw [List.length_map]; exact hl), Bool.true_and, List.all_eq_true]
  intro d hd
  obtain ⟨n, hn, rfl⟩ := List.mem_map.mp hd
  show (decide (0 ≤ n) && decide (n ≤ 999999)) = true
  rw [decide_eq_true (h n hn).1, decide_eq_true (h n hn).2]
  rfl
theorem bulk_ints (ns : List Int) : PyData.bulkAll (ns.map PyData.int) = ns.length := by
  induction ns with
  | nil => rfl
  | cons n r ih =>
    rw [List.map_cons]
    simp only [PyData.bulkAll, PyData.bulk, List.length_cons]
    omega
end Mo
namespace Mo
open PySem PySem.Spec PyProof.Rows L2
/-- an error of the class C with the field f, value x, is let out -/
def Errs (C : Addr) (f : Str) (x : V) (H : Hp) (E : XK) : Prop := ∀ dd H', H dd = none → Same H H' → H' dd = some (.xd [(f, x)]) → E (.ref C) (some dd) H'
theorem Errs.same {C : Addr} {f : Str} {x : V} {H H1 : Hp} {E : XK} (h : Errs C f x H E) (s : Same H H1) : Errs C f x H1 E := fun dd H' nd s2 hd => h dd H' (s.free nd) (s.trans s2) hd
end Mo
namespace Mo
open PySem PySem.Spec PyProof.Rows L2
/-- a method of a list within a try: the reading names K itself -/
theorem pe_appK {X : Cx} {K : PySem.W.Frag} {o e : Expr} {to : TE} {t : TA} {apos cpos : Pos} (hK : X.K = K) (ho : PE X o to) (ha : PA X [e] t)
    (hbase : attributeBase o "append" X.env (eval o X.env) = eval o X.env := by rfl) (hfew : ((backTo cpos (starEach [e] X.env)).all (fun x => !x.1) && (backToKw cpos (keywordEach [] X.env)).all (fun x => x.1.isSome) && decide (([e] : List Expr).length + ([] : List Keyword).length + (if ([] : List Keyword).isEmpty then 0 else 1) < 30)) = true := by rfl)
    (hline : (apos.endLine == cpos.line) = true := by rfl) (hs : starEach [e] X.env = (false, eval e X.env) :: starEach [] X.env := by rfl) (hplain : (backTo cpos (starEach [] X.env)).any (·.1) = false := by rfl) :
    PE X (.Call (.Attribute o "append" apos) [e] [] cpos) (tBM K "list" rAppend to t) := by
  subst hK
  exact pe_bm PySem.F.plainAttrs_list PySem.F.slot_list_append PySem.F.type_list_append mt_append ho ha hbase hfew hline hs hplain
end Mo

namespace Mo
open PySem PySem.Spec PyProof.Rows L2
/-! ### normal forms, over lists of codes -/
theorem idx_ne {a c : Nat} (r : List Nat) (h : a ≠ c) : (a :: r).idxOf c = r.idxOf c + 1 := by
  rw [List.idxOf_cons]
  have e : (a == c) = false := by simpa using h
  rw [e]
  rfl
theorem nodup_idx : ∀ (ns : List Nat) (i c : Nat), ns.Nodup → ns[i]? = some c → ns.idxOf c = i
  | [], i, c, _, h => by simp at h
  | a :: r, 0, c, _, h => by
    have e : a = c := by simpa using h
    subst e
    exact List.idxOf_cons_self
  | a :: r, i + 1, c, hn, h => by
    have h2 : r[i]? = some c := by simpa using h
    have hn2 := List.nodup_cons.mp hn
    have ne : a ≠ c := fun e => hn2.1 (e ▸ List.mem_of_getElem? h2)
    rw [idx_ne _ ne, nodup_idx r i c hn2.2 h2]
theorem idx_at {ns : List Nat} {c : Nat} (h : c ∈ ns) : ns[ns.idxOf c]? = some c := by
  have hl := List.idxOf_lt_length_of_mem h
  rw [List.getElem?_eq_getElem hl, List.getElem_idxOf hl]
/-- names.index(sign) -/
theorem index_one {ns : List Nat} (hn : ns.Nodup) {c : Nat} (hc : c ∈ ns) : ∃ rest, Builtin.Str.occurrences (tx ns) ⟨#[c]⟩ 0 (tx ns).length 1 = ns.idxOf c :: rest := by
  have h1 := StrLaws.found_one (tx ns) c
  rw [decide_eq_true (show c ∈ (tx ns).cps.toList from hc)] at h1
  cases e : Builtin.Str.occurrences (tx ns) ⟨#[c]⟩ 0 (tx ns).length 1 with
  | nil => rw [e] at h1; cases h1
  | cons i rest =>
    have h2 := StrLaws.occ_spec (tx ns) ⟨#[c]⟩ 0 (tx ns).length 1 i (by rw [e]; exact List.mem_cons_self)
    have h3 := (StrLaws.subAt_one (tx ns) c i).mp h2
    rw [nodup_idx ns i c hn h3]
    exact ⟨rest, rfl⟩
/-- the code of the sign's place in the order of first occurrence -/
def nfc (cs : List Nat) (c : Nat) : Nat := 97 + (met cs).idxOf c
def nf (cs : List Nat) : List Nat := cs.map (nfc cs)
theorem met_map_key (f : Nat → Nat) : ∀ (cs acc : List Nat), (∀ x y, x ∈ acc ++ cs → y ∈ acc ++ cs → f x = f y → x = y) → (cs.map f).foldl metStep (acc.map f) = (cs.foldl metStep acc).map f
  | [], acc, _ => rfl
  | c :: cs, acc, h => by
    rw [List.map_cons, List.foldl_cons, List.foldl_cons]
    have e : metStep (acc.map f) (f c) = (metStep acc c).map f := by
      unfold metStep
      by_cases q : c ∈ acc
      · rw [if_pos q, if_pos (List.mem_map.mpr ⟨c, q, rfl⟩)]
      · have q2 : ¬ f c ∈ acc.map f := fun z => by
          obtain ⟨x, hx, e⟩ := List.mem_map.mp z
          exact q (h x c (by simp [hx]) (by simp) e ▸ hx)
        rw [if_neg q, if_neg q2, List.map_append]
        rfl
    rw [e]
    refine met_map_key f cs (metStep acc c) fun x y hx hy => h x y ?_ ?_
    · rcases List.mem_append.mp hx with z | z
      · rcases mem_metStep.mp z with z | z
        · simp [z]
        · simp [z]
      · simp [z]
    · rcases List.mem_append.mp hy with z | z
      · rcases mem_metStep.mp z with z | z
        · simp [z]
        · simp [z]
      · simp [z]
theorem met_map {f : Nat → Nat} {cs : List Nat} (h : ∀ x y, x ∈ cs → y ∈ cs → f x = f y → x = y) : met (cs.map f) = (met cs).map f := by
  have q := met_map_key f cs [] (by simpa using h)
  exact q
theorem idx_map {f : Nat → Nat} : ∀ (ns : List Nat) (c : Nat), (∀ x, x ∈ ns → f x = f c → x = c) → (ns.map f).idxOf (f c) = ns.idxOf c
  | [], c, _ => rfl
  | a :: r, c, h => by
    rw [List.map_cons]
    by_cases e : a = c
    · subst e
      rw [List.idxOf_cons_self, List.idxOf_cons_self]
    · have e2 : f a ≠ f c := fun z => e (h a List.mem_cons_self z)
      rw [idx_ne _ e, idx_ne _ e2, idx_map r c fun x hx => h x (List.mem_cons_of_mem _ hx)]
theorem nf_map {f : Nat → Nat} {cs : List Nat} (h : ∀ x y, x ∈ cs → y ∈ cs → f x = f y → x = y) : nf (cs.map f) = nf cs := by
  unfold nf
  rw [List.map_map]
  refine List.map_congr_left fun c hc => ?_
  show nfc (cs.map f) (f c) = nfc cs c
  unfold nfc
  rw [met_map h, idx_map _ _ fun x hx e => h x c (mem_met.mp hx) hc e]
theorem nfc_inj {cs : List Nat} {x y : Nat} (hx : x ∈ cs) (hy : y ∈ cs) (e : nfc cs x = nfc cs y) : x = y := by
  unfold nfc at e
  have h1 := idx_at (mem_met.mpr hx)
  have h2 := idx_at (mem_met.mpr hy)
  rw [show (met cs).idxOf x = (met cs).idxOf y by omega] at h1
  rw [h1] at h2
  exact Option.some.inj h2
theorem nf_nf (cs : List Nat) : nf (nf cs) = nf cs := nf_map fun _ _ hx hy e => nfc_inj hx hy e
theorem nfc_lt {cs : List Nat} {c : Nat} (h : c ∈ cs) : (met cs).idxOf c < (met cs).length := List.idxOf_lt_length_of_mem (mem_met.mpr h)
/-- a pattern, as its codes -/
structure Pat (cs : List Nat) : Prop where
  len : cs.length ≤ 40
  low : Low cs
  few : (met cs).length ≤ 8
theorem Pat.nil : Pat [] := ⟨by decide, fun c h => by simp at h, by decide⟩
theorem Pat.map {f : Nat → Nat} {cs : List Nat} (p : Pat cs) (h : ∀ x y, x ∈ cs → y ∈ cs → f x = f y → x = y) (hl : ∀ c ∈ cs, 97 ≤ f c ∧ f c ≤ 122) : Pat (cs.map f) :=
  ⟨by rw [List.length_map]; exact p.len, fun x hx => by obtain ⟨c, hc, rfl⟩ := List.mem_map.mp hx; exact hl c hc, by rw [met_map h, List.length_map]; exact p.few⟩
theorem Pat.nf {cs : List Nat} (p : Pat cs) : Pat (nf cs) := p.map (fun _ _ hx hy e => nfc_inj hx hy e) fun c hc => by
  have h1 := nfc_lt hc
  have h2 := p.few
  unfold nfc
  omega
theorem repr_room {cs : List Nat} (h : Low cs) (hl : cs.length ≤ 1000) : (reprText (tx cs)).length ≤ sizeLine := by
  have h1 := StrLaws.reprText_len (tx cs) (fun c hc => by
    have := h c hc
    have h3 : (122 : Nat) < 16 ^ 8 := by decide
    omega)
  rw [tx_len] at h1
  exact fits5 (by omega)
theorem map_take_snoc {α β : Type} {f : α → β} {cs : List α} {i : Nat} {c : α} (h : cs[i]? = some c) : (cs.take (i + 1)).map f = (cs.take i).map f ++ [f c] := by
  rw [List.take_add_one, h, List.map_append]
  rfl
theorem met_take_snoc {cs : List Nat} {i c : Nat} (h : cs[i]? = some c) : met (cs.take (i + 1)) = metStep (met (cs.take i)) c := by
  rw [List.take_add_one, h]
  exact met_snoc _ _
end Mo

namespace Mo
open PySem PySem.Spec PyProof.Rows L2
section
variable {X : Cx}
/-- x //= y of ints, a divisor that is small -/
theorem ip_fdiv : PIp X .FloorDiv (fun x y H Q => ∃ i j, x = .int i ∧ y = .int j ∧ (j ≠ 0 ∧ j.natAbs < 1073741824) ∧ Q (.int (i.fdiv j)) H) := by
  intro pins s σ H x y v u Q I r1 r2 h
  obtain ⟨i, j, e1, e2, hc, q⟩ := h
  subst e1; subst e2
  obtain ⟨t, rfl⟩ := r1
  obtain ⟨t', rfl⟩ := r2
  exact ifloordiv_int hc.1 ⟨.int _, H, I.tok _, ⟨_, rfl⟩, q⟩ (.inl (PyProof.noPylong_small hc.2))
/-- x += y of texts -/
theorem ip_addS : PIp X .Add (fun x y H Q => ∃ i j, x = .str i ∧ y = .str j ∧ i.length + j.length ≤ sizeLine ∧ Q (.str (i ++ j)) H) :=
  fun pins s σ H x y u v Q I rx ry h => iop_add_str pins s σ H x y u v Q I rx ry h
end
end Mo

/-! ### sorted(set(a text)) -/
namespace Mo
open PySem PySem.Spec PyProof.Rows L2 PySem.Froz
section
variable {P : Program} {w : World} {A : Around} {E : Value → Shared → Prop} {s : Shared}
/-- the set of the signs of cs, as a walk of it wants it -/
def SgAt (P : Program) (w : World) (h : Heap) (a : Addr) (cs : List Nat) : Prop := ∃ (D : SD) (l : List Str), h.get? a = some (sObj "set" D) ∧ TxOk P w D l ∧ (∀ k : Str, k ∈ l ↔ ∃ c ∈ cs, k = ⟨#[c]⟩) ∧ l.length = (met cs).length ∧
  Ris D.2.2.place.toList ∧ (w.params.followText "set-order" = true ∨ D.2.2.led = true)
theorem SgAt.keep {h h' : Heap} {a : Addr} {cs : List Nat} (x : SgAt P w h a cs) (k : ∀ o, h.get? a = some o → h'.get? a = some o) : SgAt P w h' a cs := by
  obtain ⟨D, l, ho, r⟩ := x
  exact ⟨D, l, k _ ho, r⟩
theorem sg_fresh {h : Heap} {a : Addr} (e : h.get? a = some { cls := .type "set", dict := none, data := .set #[] 0 (.fresh 0 0 (!w.params.followText "set-order")) }) : SgAt P w h a [] := by
  refine ⟨(#[], 0, .fresh 0 0 (!w.params.followText "set-order")), [], e, TxOk.nil (by rfl), fun k => by simp, rfl, List.Pairwise.nil, ?_⟩
  show _ ∨ (!w.params.followText "set-order") = true
  cases w.params.followText "set-order"
  · exact .inr rfl
  · exact .inl rfl
theorem tailTx_ris {ep : Nat} {es : Array (Int × Value)} {t : SetTable} {b : Bool} (r : Ris t.place.toList) : Ris (tailTx ep es t b).2.2.place.toList := by
  unfold tailTx
  split
  · exact relayAll_ris _ _ _
  · exact r
theorem tailTx_led {ep : Nat} {es : Array (Int × Value)} {t : SetTable} {b : Bool} : (tailTx ep es t b).2.2.led = t.led := by
  unfold tailTx
  split
  · exact relayAll_led _ _ _
  · rfl
theorem addTx_ris {h : Int} {v : Value} {D : SD} (r : Ris D.2.2.place.toList) : Ris (addTx h v D).2.2.place.toList := by
  have q := layNew_ris D.2.2 D.1 h v r
  unfold addTx
  refine tailTx_ris ?_
  split <;> exact q
theorem addTx_led {h : Int} {v : Value} {D : SD} : (addTx h v D).2.2.led = D.2.2.led := by
  have q := layNew_led D.2.2 D.1 h v
  unfold addTx
  refine tailTx_led.trans ?_
  split <;> exact q
/-- a text that the set has is added: nothing is changed -/
theorem add_old {a : Addr} {T : String} {D : SD} {l : List Str} {k : Str} {u : Tok} {Q : Bool → Shared → Prop} (ho : s.heap.get? a = some (sObj T D)) (F : TxOk P w D l) (hk : k ∈ l) (hb : l.length < scanBound)
    (h : Q false s) : wpAny (model P w) A (setAddHashed a (.str k u) (hashStr w k)) Q E s := by
  obtain ⟨es, ep, t⟩ := D
  have hs : es.size = l.length := F.sz
  obtain ⟨e, he, q⟩ := (F.mem k).mp hk
  unfold setAddHashed setAddHashedIn
  refine wpAny_holding (wpAny_bind (wpAny_setState_of ho rfl F.fit ?_))
  dsimp only
  rw [byScan_of rfl (by rw [hs]; exact hb) F.el]
  simp only [↓reduceIte]
  unfold setAddByScan
  refine wpAny_bind (wpAny_bind (wpAny_rule (wpAny_bind (wpAny_setScan_of (knd := strKind P w) (k := k) (is_str k u) ho rfl F.fit F.el ?_))))
  cases hf : List.findIdx? (fun e => (strKind P w).is k e.2) es.toList with
  | none =>
    have z := List.findIdx?_eq_none_iff.mp hf e he
    rw [q] at z
    cases z
  | some j =>
    dsimp only
    exact wpAny_pure (wpAny_pure h)
theorem sg_add {a : Addr} {cs : List Nat} {c : Nat} {u : Tok} {Q : Bool → Shared → Prop} (x : SgAt P w s.heap a cs) (room : cs.length + 1 < scanBound)
    (h : ∀ b h', Heap.SameBut a s.heap h' → SgAt P w h' a (cs ++ [c]) → Q b { s with heap := h' }) : wpAny (model P w) A (setAddHashed a (.str ⟨#[c]⟩ u) ((strKind P w).hash ⟨#[c]⟩)) Q E s := by
  obtain ⟨D, l, ho, F, hm, hl, hr, hd⟩ := x
  have hml := met_length_le cs
  by_cases hc : c ∈ cs
  · refine add_old ho F ((hm _).mpr ⟨c, hc, rfl⟩) (by omega) ?_
    refine h false s.heap (Heap.SameBut.refl a s.heap) ⟨D, l, ho, F, fun k => ?_, ?_, hr, hd⟩
    · rw [hm k]
      refine ⟨fun ⟨d, z, e⟩ => ⟨d, List.mem_append_left _ z, e⟩, fun ⟨d, z, e⟩ => ?_⟩
      rcases List.mem_append.mp z with z | z
      · exact ⟨d, z, e⟩
      · exact ⟨c, hc, by rw [e, List.mem_singleton.mp z]⟩
    · rw [met_snoc, metStep, if_pos (mem_met.mpr hc)]
      exact hl
  · have hk : (⟨#[c]⟩ : Str) ∉ l := fun z => by
      obtain ⟨d, hd, e⟩ := (hm _).mp z
      rw [sign_inj e] at hc
      exact hc hd
    refine add_x ho F hk (by omega) ?_
    refine h true _ (Heap.SameBut.update s.heap a _) ⟨_, _, get_upd _ ho rfl, add_ok u F, fun k => ?_, ?_, addTx_ris hr, hd.imp id fun z => addTx_led.trans z⟩
    · rw [List.mem_cons, hm k]
      refine ⟨fun z => z.elim (fun e => ⟨c, List.mem_append_right _ (List.mem_singleton.mpr rfl), e⟩) fun ⟨d, z, e⟩ => ⟨d, List.mem_append_left _ z, e⟩, fun ⟨d, z, e⟩ => ?_⟩
      rcases List.mem_append.mp z with z | z
      · exact .inr ⟨d, z, e⟩
      · exact .inl (by rw [e, List.mem_singleton.mp z])
    · rw [met_snoc, metStep, if_neg (fun z => hc (mem_met.mp z)), List.length_append, List.length_cons, hl]
      rfl
theorem sgs_loop {I : Addr} {fp wr : List Addr} {G : Array GenState → Array GenState → Prop} {n : Nat} {Pv : Nat → Value → Prop} {St : Nat → Shared → Prop} {R : Result → Shared → Prop}
    (W : WalksS P w A.in1 I fp wr G n Pv St) (D : Addr) (hD : D ∉ fp) (cs : List Nat) (hn : n = cs.length) (hb : cs.length + 1 < scanBound)
    (hval : ∀ i v, Pv i v → ∃ c t, cs[i]? = some c ∧ v = .str ⟨#[c]⟩ t) :
    ∀ (k i : Nat) (s : Shared), n - i = k → i ≤ n → St i s → SgAt P w s.heap D (cs.take i) →
      (∀ s', Moved (D :: wr) G s s' → SgAt P w s'.heap D cs → R (.ok (.ret .none)) s') →
      codeAny (model P w) A (.builtin "set.update.loop" ⟨[.ref D, .ref I], []⟩) R s := by
  have hDw : D ∉ wr := fun h => hD (W.sub _ h)
  have up : ∀ b ∈ wr, b ∈ D :: wr := fun b q => List.mem_cons_of_mem _ q
  intro k
  induction k with
  | zero =>
    intro i s hk hi hst hS hR
    obtain rfl : i = n := by omega
    refine codeAny_builtin PyProof.Rows.F.entry_set_update_loop (by
      rw [Around.under_plainId PyProof.Rows.F.plain_set_update_loop _]
      show wpAny _ A.in1 (pyNext (.ref I) >>= _) _ _ s
      refine wpAny_bind (W.done s _ _ hst fun s' hm => wpAny_pure (hR s' (hm.mono up) ?_))
      rw [List.take_of_length_le (by omega)] at hS
      exact hS.keep fun o ho => hm.heap D o hDw ho)
  | succ k ih =>
    intro i s hk hi hst hS hR
    have hlt : i < n := by omega
    refine codeAny_builtin PyProof.Rows.F.entry_set_update_loop (by
      rw [Around.under_plainId PyProof.Rows.F.plain_set_update_loop _]
      show wpAny _ A.in1 (pyNext (.ref I) >>= _) _ _ s
      refine wpAny_bind (W.item i s _ _ hlt hst fun v s' hP hst' hm => ?_)
      obtain ⟨c, t, hc, rfl⟩ := hval i v hP
      have hS' : SgAt P w s'.heap D (cs.take i) := hS.keep fun o ho => hm.heap D o hDw ho
      show wpAny _ A.in1 (holding [Value.str ⟨#[c]⟩ t] (setAdd D (.str ⟨#[c]⟩ t)) >>= _) _ _ s'
      refine wpAny_bind (wpAny_holding (by
        unfold setAdd
        refine wpAny_holding (wpAny_bind ((strKind P w).pyHash (k := ⟨#[c]⟩) (is_str _ _) ?_))
        have e3 : cs.take (i + 1) = cs.take i ++ [c] := by
          rw [List.take_add_one, hc]
          rfl
        have room : (cs.take i).length + 1 < scanBound := by
          rw [List.length_take]
          omega
        refine sg_add (s := { s' with toks := s'.toks + 1 }) hS' room fun b h' hsb hS2 => ?_
        have hS3 : SgAt P w h' D (cs.take (i + 1)) := by
          rw [e3]
          exact hS2
        refine wpAny_pure ⟨plainId_quiet PyProof.Rows.F.plain_set_update_loop _, ih (i + 1) _ (by omega) hlt (W.frame _ s' _ _ hst' (Nat.le_succ _) fun b q o e => ?_) hS3 fun s2 hm2 hS4 => ?_⟩
        · rw [hsb.2 b (fun z : b = D => hD (by rw [← z]; exact q))]
          exact e
        · refine hR s2 (Moved.trans W.gtrans ((hm.mono up).then_heap (Nat.le_succ _) fun b o q e => ?_) hm2) hS4
          rw [hsb.2 b (fun z : b = D => q (by rw [z]; exact List.mem_cons_self))]
          exact e)))

set_option maxHeartbeats 8000000 in
/-- set(a text) -/
theorem call_set_sgs {z : Str} {t : Tok} {Q : Value → Shared → Prop} (hh : A.handled = none) (hb : z.cps.size + 1 < scanBound)
    (h : ∀ (h' : Heap) (tk : Nat), SgAt P w h' s.heap.objs.size z.cps.toList → (∀ b o, s.heap.get? b = some o → h'.get? b = some o) → Q (.ref s.heap.objs.size) { s with heap := h', toks := tk }) :
    wpAny (model P w) A (call (.type "set") [.str z t]) Q E s := by
  obtain ⟨c, tl, hmro⟩ := PySem.F.called_set.mro
  have hmade := PySem.F.called_set.made; have hsub := PySem.F.called_set.sub
  refine wpAny_call (codeAny_of_tree (by
    show wpAny _ _ (callAny (.type "set") _) _ _ _
    refine wpAny_pure ⟨Code.quiet_builtin _ (by decide +kernel), codeAny_builtin PySem.F.entry_type_call ?_⟩
    rw [Around.under_plain (weight_type_call_type "set" [.str z t] []) rfl]
    have h1 := PySem.F.called_set.notType; have h2 := PySem.F.called_set.canCreate
    have hct := PySem.F.typeCall_set_1 (.str z t)
    repeat (any_goals (first | assumption | wp_step))
    refine codeAny_mono (code_set_led1 (.str z t) (E := E) (Q₁ := fun obj s₁ => obj = .ref s.heap.objs.size ∧ s₁ = { s with heap := s.heap.push { cls := .type "set", dict := none, data := .set #[] 0 (.fresh 0 0 (!w.params.followText "set-order")) } }) ⟨rfl, rfl⟩) fun r s₁ hr => ?_
    cases r with
    | error e => exact hr
    | ok fl =>
      cases fl with
      | ret obj =>
        obtain ⟨rfl, rfl⟩ := hr
        generalize hNew : ({ cls := .type "set", dict := none, data := .set #[] 0 (.fresh 0 0 (!w.params.followText "set-order")) } : Obj) = nw
        have hfr : ∀ (h : Heap) (a : Addr), h.get? a = some nw → SgAt P w h a [] := by
          intro h a e
          rw [← hNew] at e
          exact sg_fresh e
        have hcls : nw.cls = .type "set" := by rw [← hNew]
        have hnf : nw.isFreed = false := by rw [← hNew]; rfl
        have hS : (s.heap.push nw).get? s.heap.objs.size = some nw := Heap.get?_push_size _ hnf
        have hT : Shared.TypeIs { s with heap := s.heap.push nw } (.ref s.heap.objs.size) "set" := ⟨_, hS, hcls⟩
        have hli := PySem.F.called_set.init.lookup; have hbi := PySem.F.called_set.init.bind (.ref s.heap.objs.size)
        repeat (any_goals (first | assumption | wp_step))
        refine codeAny_mono (codeAny_call_builtin (R := wants (fun r s₂ => r = .none ∧ ∃ h' tk, s₂ = { s with heap := h', toks := tk } ∧ SgAt P w h' s.heap.objs.size z.cps.toList ∧
          (∀ b o, s.heap.get? b = some o → h'.get? b = some o)) E) PySem.F.called_set.init.plain PySem.F.entry_set_init (check_set_init_1 hT ?_)) fun r₂ s₂ hr₂ => ?_
        · subst hNew
          have n1 : isSubtype (.type "str") (.type "set") = pure false := by rw [isSubtype_type]; kernel_rfl
          have n2 : isSubtype (.type "str") (.type "frozenset") = pure false := by rw [isSubtype_type]; kernel_rfl
          have n3 : (Value.type "str" == Value.type "dict") = false := by decide
          unfold Builtin.«set.__init__» noKeywords Builtin.Frozenset.updateFrom
          generalize hPI : pyIter = PI
          wp_walk
          subst hPI
          have hh3 : A.in1.in1.in1.handled = none := by simp [hh]
          generalize hNew : ({ cls := .type "set", data := .set #[] 0 (.fresh 0 0 (!w.params.followText "set-order")) } : Obj) = nw at *
          have hz1 : (s.heap.push nw).objs.size = s.heap.objs.size + 1 := Heap.size_push ..
          have fin : ∀ (ty : String) (wk : Walks P w A.in1.in1.in1 (s.heap.push nw).objs.size [(s.heap.push nw).objs.size] [(s.heap.push nw).objs.size] z.cps.size (SignAt z) (fun i h => h.IsStrIter (s.heap.push nw).objs.size ty z t i))
              (Rk : Result → Shared → Prop), (∀ h' tk, SgAt P w h' s.heap.objs.size z.cps.toList → (∀ b o, s.heap.get? b = some o → h'.get? b = some o) → Rk (.ok (.ret .none)) { s with heap := h', toks := tk }) →
              codeAny (model P w) A.in1.in1 (.builtin "set.update.loop" ⟨[.ref s.heap.objs.size, .ref (s.heap.push nw).objs.size], []⟩) Rk
                { s with heap := (s.heap.push nw).push { cls := .type ty, data := .fields #[.str z t, .int 0 0] } } := by
            intro ty wk Rk hR
            refine sgs_loop (wk.toS) s.heap.objs.size (by rw [hz1]; simp) z.cps.toList (by simp) (by simpa using hb) (fun i v hv => ?_) (z.cps.size - 0) 0 _ (by omega) (Nat.zero_le _) ⟨_, Heap.get?_push_size _ rfl, rfl, rfl⟩ ?_ ?_
            · obtain ⟨c, u, hc, rfl⟩ := hv
              exact ⟨c, u, by rw [Array.getElem?_toList]; exact hc, rfl⟩
            · exact hfr _ _ (Heap.get?_push_of_some _ hS)
            · intro s' hm hS'
              obtain ⟨h', g', d', tk', os'⟩ := s'
              obtain rfl : g' = s.gens := hm.gens
              obtain rfl : d' = s.drawn := hm.drawn
              obtain rfl : os' = s.os := hm.os
              refine hR h' tk' hS' fun b o e => ?_
              have hb0 : b < s.heap.objs.size := Heap.lt_size e
              have n1 : b ∉ s.heap.objs.size :: [(s.heap.push nw).objs.size] := by
                rw [hz1]
                intro q
                rcases List.mem_cons.mp q with q | q
                · exact Nat.ne_of_lt hb0 q
                · exact Nat.ne_of_lt (Nat.lt_succ_of_lt hb0) (List.mem_singleton.mp q)
              exact hm.heap b o n1 (Heap.get?_push_of_some _ (Heap.get?_push_of_some _ e))
          cases ha : z.cps.all (· < 128)
          · refine wpAny_pyIter_wide ha (wpAny_bind (wpAny_runValue (fin _ (Walks.strWide hh3 _ z t) _ fun h' tk hS2 hk2 => wpAny_pure ?_)))
            exact wpAny_pure ⟨rfl, h', tk, rfl, hS2, hk2⟩
          · refine wpAny_pyIter_ascii ha (wpAny_bind (wpAny_runValue (fin _ (Walks.strAscii hh3 _ z t) _ fun h' tk hS2 hk2 => wpAny_pure ?_)))
            exact wpAny_pure ⟨rfl, h', tk, rfl, hS2, hk2⟩
        · cases r₂ with
          | error e => exact hr₂
          | ok fl₂ =>
            cases fl₂ with
            | ret r =>
              obtain ⟨rfl, h', tk, rfl, hS', hk'⟩ := hr₂
              repeat (any_goals (first | assumption | wp_step))
              exact h _ _ hS' hk'
            | _ => exact hr₂.elim
      | _ => exact hr.elim))
end
end Mo

/-! ### sorted(set(a text)): the rules -/
namespace Mo
open PySem PySem.Spec PyProof.Rows L2 PySem.Froz
theorem perm_cover {α : Type} [DecidableEq α] : ∀ (L ks : List α), L.Nodup → (∀ x ∈ L, x ∈ ks) → ks.length = L.length → ks.Perm L
  | [], ks, _, _, h => by
    rw [List.length_eq_zero_iff.mp h]
  | x :: L, ks, nd, hs, h => by
    have hx := hs x List.mem_cons_self
    have nd2 := List.nodup_cons.mp nd
    have ih := perm_cover L (ks.erase x) nd2.2 (fun y hy => (List.mem_erase_of_ne (fun e : y = x => nd2.1 (e ▸ hy))).mpr (hs y (List.mem_cons_of_mem _ hy))) (by rw [List.length_erase_of_mem hx, h, List.length_cons]; omega)
    exact (List.perm_cons_erase hx).trans (ih.cons x)
def strOf : Value → Str
  | .str x _ => x
  | _ => Str.empty
theorem strs_of_all : ∀ {vs : List Value}, (∀ v ∈ vs, ∃ x t, v = Value.str x t) → StrsAre vs (vs.map strOf)
  | [], _ => .nil
  | v :: vs, h => by
    obtain ⟨x, t, rfl⟩ := h v List.mem_cons_self
    exact .cons x t (strs_of_all fun u hu => h u (List.mem_cons_of_mem _ hu))
theorem signs_nodup : ∀ {l : List Nat}, l.Nodup → (l.map fun c => (⟨#[c]⟩ : Str)).Nodup
  | [], _ => List.nodup_nil
  | c :: l, h => by
    have h2 := List.nodup_cons.mp h
    refine List.nodup_cons.mpr ⟨fun z => ?_, signs_nodup h2.2⟩
    obtain ⟨d, hd, e⟩ := List.mem_map.mp z
    rw [sign_inj e] at hd
    exact h2.1 hd
section
variable {P : Program} {w : World} {A : Around} {E : Value → Shared → Prop} {s : Shared}
theorem sorted_sgs {a : Addr} {cs : List Nat} {Q : Value → Shared → Prop} (x : SgAt P w s.heap a cs) (hh : A.handled = none) (h64 : (met cs).length < 64)
    (hQ : ∀ s' p (out : Array Value) (c : Nat) (ys : List Str), (∀ b o, s.heap.get? b = some o → s'.heap.get? b = some o) → s'.gens = s.gens → s'.os = s.os → s.heap.objs.size ≤ p →
      s'.heap.get? p = some (seqObj "list" out c) → StrsAre out.toList ys → ys.Perm ((met cs).map fun c => (⟨#[c]⟩ : Str)) → sortedS ys = true → Q (.ref p) s') :
    wpAny (model P w) A (call (.builtin "sorted") [.ref a]) Q E s := by
  obtain ⟨⟨es, ep, t⟩, l, ho, F, hm, hl, hr, hd⟩ := x
  have hn : es.size = (met cs).length := F.sz.trans hl
  refine Calls.call_function_entry kind_sorted plain_sorted entry_sorted (args_sorted1 _) ?_
  unfold Builtin.«sorted»
  refine wpAny_bind (m := checkCount "sorted" 1 1 _) (wpAny_pure ?_)
  refine wpAny_bind (collect_set (A := A.in1) hh ⟨_, ho, rfl, rfl⟩ F.fit (by rw [hn]; unfold scanBound; omega) hr hd fun s1 vs k1 hz g1 o1 pm => ?_)
  have hvl : vs.length = (met cs).length := by rw [pm.length_eq, List.length_map, Array.length_toList, hn]
  have texts : ∀ e ∈ es.toList, ∃ x t, e.2 = Value.str x t := fun e he => by
    obtain ⟨⟨k, hk, _⟩, _⟩ := F.el e he
    obtain ⟨t, ev⟩ := Value.isStrOf_shape (x := k) (v := e.2) hk
    exact ⟨k, t, ev⟩
  have hS : StrsAre vs (vs.map strOf) := strs_of_all fun v hv => by
    obtain ⟨e, he, q⟩ := List.mem_map.mp (pm.mem_iff.mp hv)
    obtain ⟨x, t, h⟩ := texts e he
    exact ⟨x, t, by rw [← q]; exact h⟩
  have pc : (vs.map strOf).Perm ((met cs).map fun c => (⟨#[c]⟩ : Str)) := by
    refine perm_cover _ _ (signs_nodup (met_nodup cs)) (fun k hk => ?_) (by rw [List.length_map, List.length_map, hvl])
    obtain ⟨c, hc, rfl⟩ := List.mem_map.mp hk
    obtain ⟨e, he, q⟩ := (F.mem _).mp ((hm _).mpr ⟨c, mem_met.mp hc, rfl⟩)
    obtain ⟨t, ev⟩ := Value.isStrOf_shape (x := (⟨#[c]⟩ : Str)) (v := e.2) q
    exact List.mem_map.mpr ⟨e.2, pm.mem_iff.mpr (List.mem_map.mpr ⟨e, he, rfl⟩), by rw [ev]; rfl⟩
  refine wpAny_bind (wpAny_newList ?_ (by rw [hvl, sizeLine_eq]; omega))
  have hoL : (s1.heap.push (seqObj "list" vs.toArray 0)).get? s1.heap.objs.size = some (seqObj "list" vs.toArray 0) := Heap.get?_push_size _ rfl
  refine wpAny_bind (wpAny_holding (wpAny_call_entry slot_list_sort ⟨_, hoL, rfl⟩ entry_list_sort
    (list_sort_treeK strKind_oneLt hoL hS.keysOf (fun v₁ v₂ rest e => keyKind_strs (by rw [← e]; exact hS)) (by rw [hvl]; exact h64) fun st' hp hs => ⟨_, rfl, ?_⟩) (args_list_sort _)))
  obtain ⟨ys, y1, y2, y3⟩ := sorted_out_str hS hp hs
  obtain ⟨c, hc⟩ := sortedHeap_at (vs := vs) (out := (arrOf st').map (·.2)) hoL
  refine wpAny_pure ⟨_, rfl, hQ _ s1.heap.objs.size _ c ys (fun b u e => ?_) g1 o1 hz hc y1 (y2.trans pc) y3⟩
  have q := k1 b u e
  have hlt := Heap.lt_size q
  show (sortedHeap (s1.heap.push (seqObj "list" vs.toArray 0)) s1.heap.objs.size vs _).get? b = some u
  rw [sortedHeap_old (Nat.ne_of_lt hlt) (by rw [size_push']; exact Nat.lt_succ_of_lt hlt)]
  exact Heap.get?_push_of_some _ q
end
/-- the set of the signs of cs, at a -/
def SetSg (P : Program) (w : World) (a : Addr) (cs : List Nat) : HO := .ext fun h => SgAt P w h a cs
section
variable {X : Cx}
theorem setSg_new {w : World} {P : Program} {H : Hp} {h : Heap} {a : Addr} {cs : List Nat} (R : SgAt P w h a cs) : ObjOk P w H h a (SetSg P w a cs) := by
  have ⟨_, _, ho, _⟩ := R
  exact ⟨R, ⟨_, ho⟩, fun h1 h2 p k => SgAt.keep p k⟩
def rSetSg (P : Program) (w : World) : List V → Hp → VK → Prop := fun xs H Q => ∃ z : Str, xs = [.str z] ∧ z.cps.size ≤ 4000 ∧ ∀ p, H p = none → Q (.ref p) (upd H p (SetSg P w p z.cps.toList))
/-- set(z), z a text, to be walked -/
theorem cr_setSg {P : Program} {w : World} (hp : X.prog = P) (hw : X.w = w) (hc : X.calm = true) : CallR X (.type "set") (rSetSg P w) := by
  subst hp
  subst hw
  intro pins s σ H xs us Q I r h
  obtain ⟨z, rfl, hz, q⟩ := h
  obtain ⟨u, rfl, t, rfl⟩ := vals1 r
  refine call_set_sgs (I.ok.hd hc) (by unfold scanBound; omega) fun h' tk hS hk => ?_
  exact ⟨.ref _, _, I.laid (t' := tk) hk (Nat.le_refl _) (setSg_new hS), rfl, q _ (I.hok.fresh (Nat.le_refl _))⟩
def rSortSg (P : Program) (w : World) : List V → Hp → VK → Prop := fun vs H Q => ∃ (a : Addr) (cs : List Nat), vs = [V.ref a] ∧ H a = some (SetSg P w a cs) ∧ (met cs).length < 64 ∧
  ∀ (ys : List Str) (p : Addr), ys.Perm ((met cs).map fun c => (⟨#[c]⟩ : Str)) → sortedS ys = true → H p = none → Q (.ref p) (upd H p (.lst (ys.map V.str)))
/-- sorted(a set of signs) -/
theorem cr_sortSg {P : Program} {w : World} (hp : X.prog = P) (hw : X.w = w) (hc : X.calm = true) : CallR X (.builtin "sorted") (rSortSg P w) := by
  subst hp
  subst hw
  intro pins s σ H vs us Q I r h
  obtain ⟨a, cs, rfl, ha, h64, q⟩ := h
  have R : SgAt X.prog X.w s.heap a cs := (I.hok a _ ha).1
  rw [Vals.ref1 r]
  refine sorted_sgs R (I.ok.hd hc) h64 fun s' p out c ys k g o hp hg hi hm hs => ?_
  have hlen : (ys.map V.str).length ≤ sizeLine := by rw [List.length_map, hm.length_eq, List.length_map, sizeLine_eq]; omega
  have hn : H p = none := I.hok.fresh hp
  have J : Inv X pins σ (upd H p (.lst (ys.map V.str))) { s with heap := s'.heap, gens := s'.gens, drawn := s'.drawn, toks := s'.toks } :=
    I.call (ch := []) (Un.laid k hp hn) (I.hok.laid k hp ⟨hlen, out.toList, c, vals_of_strs hi, hg⟩) (by rw [g]; exact I.bare) (fun _ z => nomatch z)
  have e : s' = { s with heap := s'.heap, gens := s'.gens, drawn := s'.drawn, toks := s'.toks } := by
    cases s'
    cases s
    cases o
    rfl
  rw [e]
  exact ⟨.ref p, _, J, rfl, q ys p hm hs hn⟩
end
end Mo

namespace Mo
open PySem PySem.Spec PyProof.Rows L2
/-! enumerate(v), v a list or a tuple -/
theorem enum_made {v : Value} {o : Obj} {Hd : Heap → Prop} (B : Begins v o Hd) :
    Meets (Builtin.«enumerate.__new__» ⟨[.type "enumerate", v], []⟩) (fun _ R s => Hd s.heap ∧
      R (.ok (.ret (.ref (s.heap.push o).objs.size))) { s with heap := (s.heap.push o).push { cls := .type "enumerate", data := .fields #[.none, .bool false, .ref s.heap.objs.size, rawInt 0, .none, .none] } }) :=
  .of_wp fun prog w A R s hh => by
    obtain ⟨hp, g, dd, tk, os⟩ := s
    obtain ⟨b0, b1⟩ := hh
    have hsub := sub_enumerate
    have it1 : ∀ {A' : Around} {F : Value → Shared → Prop} {Q : Value → Shared → Prop}, Q (.ref hp.objs.size) ⟨hp.push o, g, dd, tk, os⟩ → wpAny (model prog w) A' (pyIter v) Q F ⟨hp, g, dd, tk, os⟩ := fun z => B.iter prog w _ _ ⟨hp, g, dd, tk, os⟩ _ b0 z
    wp_walk using it1
    refine wpAny_stack_any fun st => wpAny_pure ?_
    split
    · rename_i cc _ _ _ _ _
      by_cases ec : (cc == Value.type "enumerate") = true
      · rw [ec]
        wp_walk using it1
        exact ⟨_, rfl, b1⟩
      · rw [Bool.eq_false_iff.mpr ec]
        wp_walk using it1
        exact ⟨_, rfl, b1⟩
    · wp_walk using it1
      exact ⟨_, rfl, b1⟩
theorem enum_call {prog : Program} {w : World} {A : Around} {E : Value → Shared → Prop} {s : Shared} {v : Value} {o : Obj} {Hd : Heap → Prop} {Q : Value → Shared → Prop} (B : Begins v o Hd) (b0 : Hd s.heap)
    (q : ∀ h', IsEnum h' (s.heap.objs.size + 1) s.heap.objs.size 0 .none → h'.get? s.heap.objs.size = some o → (∀ b ob, s.heap.get? b = some ob → h'.get? b = some ob) → Q (.ref (s.heap.objs.size + 1)) { s with heap := h' }) :
    wpAny (model prog w) A (call (.type "enumerate") [v]) Q E s := by
  refine callType_new F.called_enumerate (by decide) (F.typeCall_enumerate_1 _) (F.newCall_enumerate_1 _) (fun ob => F.args_object_init_2 ob _) F.entry_enumerate_new (enum_made B) ⟨b0, ?_⟩
  have n1 : (s.heap.push o).objs.size = s.heap.objs.size + 1 := Heap.size_push ..
  have g1 := Heap.get?_push_size (s.heap.push o) (o := { cls := .type "enumerate", data := .fields #[.none, .bool false, .ref s.heap.objs.size, rawInt 0, .none, .none] }) rfl
  rw [n1] at g1
  show _ ∧ _
  rw [n1]
  exact ⟨⟨_, g1, rfl⟩, q _ g1 (Heap.get?_push_of_some _ (Heap.get?_push_size _ B.free)) fun b ob z => Heap.get?_push_of_some _ (Heap.get?_push_of_some _ z)⟩
def ItE (K : PySem.W.Frag) (a : Addr) (xs : List V) : It := ⟨fun i H => SqT K H a xs ∧ i < xs.length, fun i H v H' => ∃ T x, v = .ref T ∧ H T = none ∧ xs[i]? = some x ∧ H' = upd H T (.tup [.int (i : Nat), x]), fun i H => SqT K H a xs ∧ xs.length ≤ i⟩
theorem turn_enumT {P : Program} {w : World} {K : PySem.W.Frag} {elts : List Expr} {kk : Nat} {tpos : Pos} {xs : List V} {a e it : Addr} (n1 : e ≠ it) (n2 : a ≠ it) (n3 : e ≠ a) :
    Turn P w K (.Tuple elts kk tpos) (ItE K a xs) [e, it] e (fun i h => ((∃ old, IsEnum h e it ((i : Nat) : Int) old) ∧ h.IsTupleIter it a i) ∧ i ≤ xs.length) where
  mem := List.mem_cons_self ..
  obj := fun i h st b hb => by
    obtain ⟨⟨⟨old, he⟩, o, ho, hc, hd⟩, _⟩ := st
    rcases List.mem_cons.mp hb with rfl | hb
    · exact ⟨_, he, fun v q => nomatch q⟩
    · rw [List.mem_singleton.mp hb]
      exact ⟨o, ho, fun v q => by rw [hd] at q; cases q⟩
  keep := fun i h h' st k => by
    obtain ⟨⟨⟨old, he⟩, hi⟩, hle⟩ := st
    exact ⟨⟨⟨old, k e (List.mem_cons_self ..) _ he⟩, hi.at fun o q => k it (List.mem_cons_of_mem _ (List.mem_singleton.mpr rfl)) o q⟩, hle⟩
  item := by
    intro X hP hw hK hc i pins s σ H E I hf st hg
    subst hP hw hK
    obtain ⟨⟨⟨old, he⟩, hit⟩, hle⟩ := st
    obtain ⟨hq, hi⟩ := hg
    obtain ⟨its, rv, pt, _⟩ := I.tuple hq
    have pt : s.heap.IsTuple a its.toArray := pt
    have hsz : i < its.toArray.size := by rw [List.size_toArray, ← rv.length]; exact hi
    have le : e < s.heap.objs.size := Heap.lt_size he
    have li : it < s.heap.objs.size := by
      obtain ⟨_, z, _⟩ := hit
      exact Heap.lt_size z
    have nh : X.A.in1.handled = none := by simpa using I.ok.hd hc
    have nf : e ∉ [it, a] := fun z => by
      rcases List.mem_cons.mp z with z | z
      · exact n1 z
      · exact n3 (List.mem_singleton.mp z)
    refine wpAny_pyNext_enum_itemD (Draws.tuple nh it a n2 its.toArray) he ⟨hit, pt⟩ hsz n1 nf fun u h1 tk hu ho st1 hT _ hk => ?_
    obtain ⟨x, hx⟩ : ∃ x, xs[i]? = some x := ⟨xs[i], List.getElem?_eq_getElem hi⟩
    obtain ⟨u', hu', ru⟩ := rv.get hx
    have eu : u = u' := by
      have z : its.toArray[i]? = some u' := by simpa using hu'
      rw [hu] at z
      exact Option.some.inj z
    subst eu
    refine ⟨_, rfl, wpAny_letOwnedTupleGo_enum (s := { s with heap := h1, toks := tk + 1 }) ho fun h2 he2 sb => ?_⟩
    have hT2 := (sb.2 _ (Nat.ne_of_gt le)).trans hT
    have I1 : Inv X pins σ (upd H s.heap.objs.size (.tup [.int (i : Nat), x])) { s with heap := h2, toks := tk + 1 } := by
      refine I.turnedNew (ch := [e, it]) (fun b ob hb z => ?_) hf (Nat.le_refl _) ⟨by show 2 ≤ sizeLine; decide, [.int i tk, u], .cons ⟨_, rfl⟩ (.cons ru .nil), ⟨_, hT2, rfl, _, rfl⟩⟩
      have nb1 : b ≠ e := fun z => hb (by rw [z]; exact List.mem_cons_self ..)
      have nb2 : b ≠ it := fun z => hb (by rw [z]; exact List.mem_cons_of_mem _ (List.mem_singleton.mpr rfl))
      exact (sb.2 b nb1).trans (hk b ob nb1 nb2 z)
    refine ⟨.ref s.heap.objs.size, _, I1, rfl, ⟨_, x, rfl, I.hok.fresh (Nat.le_refl _), hx, rfl⟩, ⟨⟨⟨u, ?_⟩, st1.1.at fun o z => (sb.2 it (Ne.symm n1)).trans z⟩, hi⟩, fun b hb => ?_⟩
    · have e1 : ((i + 1 : Nat) : Int) = (i : Int) + 1 := Int.natCast_succ i
      rw [e1]
      exact he2
    · have lb : b < s.heap.objs.size := by
        rcases List.mem_cons.mp hb with rfl | hb
        · exact le
        · rw [List.mem_singleton.mp hb]
          exact li
      rw [upd_ne (Nat.ne_of_lt lb)]
      exact (hf b hb).1
  done := by
    intro X hP hw hK hc i pins s σ H E I hf st hg
    subst hP hw hK
    obtain ⟨⟨⟨old, he⟩, hit⟩, hle⟩ := st
    obtain ⟨hq, hge⟩ := hg
    obtain ⟨its, rv, pt, _⟩ := I.tuple hq
    have pt : s.heap.IsTuple a its.toArray := pt
    have ei : its.toArray.size = i := by
      rw [List.size_toArray, ← rv.length]
      omega
    obtain ⟨f0, f1, f2, f3, f4, f5⟩ := hf it (List.mem_cons_of_mem _ (List.mem_singleton.mpr rfl))
    have nh : X.A.in1.handled = none := by simpa using I.ok.hd hc
    exact wpAny_pyNext_enum_endD (Draws.tuple nh it a n2 its.toArray) he ⟨by rw [ei]; exact hit, pt⟩ fun h' eb => ⟨rfl, I.turned (t' := s.toks) (fun b o hb z => eb b o hb z) f0 f1 f3 f4 f5⟩
  self := fun A i s Q E st h => by
    obtain ⟨⟨⟨_, he⟩, _⟩, _⟩ := st
    exact wpAny_pyIter_enum he h
/-- enumerate of a list or of a tuple -/
def enJ (K : PySem.W.Frag) (a : Addr) (xs : List V) : Bool → It
  | true => ItE K a xs
  | false => Ite K a
def enO (xs : List V) : Bool → HO
  | true => .tup xs
  | false => .lst xs
def iEnumB (K : PySem.W.Frag) (ta : TA) : TI := fun σ H R => ta σ H fun vs H1 => ∃ (a : Addr) (xs : List V) (b : Bool), vs = [.ref a] ∧ H1 a = some (enO xs b) ∧ R (enJ K a xs b) H1
section
variable {X : Cx}
theorem pi_enumB {e : Expr} {ta : TA} {p pos tpos : Pos} {elts : List Expr} {kk : Nat} (hg : Gl X "enumerate") (hm : X.mg "enumerate" = none) (ha : PA X [e] ta) (hs : starEach [e] X.env = [(false, eval e X.env)] := by rfl) :
    PI X (.Tuple elts kk tpos) (.Call (.Name "enumerate" p) [e] [] pos) (iEnumB X.K ta) := by
  refine ⟨fun pins s σ H R I h => ?_⟩
  refine Call_ (ld_blt I hg hm boot_enumerate (PyProof.Rows.callWith_type1 (thn (ha.run pos pins s σ H _ I h) fun us s1 ⟨vs, H1, I1, r1, q1⟩ => ?_) hs rfl))
  obtain ⟨a, xs, b, rfl, hb, q⟩ := q1
  obtain ⟨u, rfl, ru⟩ := vals1 r1
  cases (show u = Value.ref a from ru)
  have far : ∀ b ∈ [s1.heap.objs.size + 1, s1.heap.objs.size], s1.heap.objs.size ≤ b := fun b hb => by
    rcases List.mem_cons.mp hb with rfl | hb
    · exact Nat.le_succ _
    · exact Nat.le_of_eq (List.mem_singleton.mp hb).symm
  cases b with
  | false =>
    obtain ⟨its, rv, pl, _⟩ := I1.list (SqL.of hb)
    exact enum_call (begins_list a its.toArray) pl.isList fun h' he hi hk => wpAny_pyIter_enum he
      ⟨s1.heap.objs.size + 1, _, _, _, H1, rfl, I1.kept (t' := s1.toks) hk, turn_enum a (s1.heap.objs.size + 1) s1.heap.objs.size, ⟨⟨.none, he⟩, ⟨_, hi, rfl, rfl⟩, Nat.succ_ne_self _⟩, fun b hb => I1.fpOk (far b hb) (I1.hok.fresh (far b hb)), q⟩
  | true =>
    obtain ⟨its, rv, pt, _⟩ := I1.tuple (SqT.of hb)
    have pt : s1.heap.IsTuple a its.toArray := pt
    have la : a < s1.heap.objs.size := by
      obtain ⟨_, z, _⟩ := pt
      exact Heap.lt_size z
    exact enum_call (begins_tuple a its.toArray) pt fun h' he hi hk => wpAny_pyIter_enum he
      ⟨s1.heap.objs.size + 1, _, _, _, H1, rfl, I1.kept (t' := s1.toks) hk, turn_enumT (a := a) (e := s1.heap.objs.size + 1) (it := s1.heap.objs.size) (Nat.succ_ne_self _) (Nat.ne_of_lt la) (Nat.ne_of_gt (Nat.lt_succ_of_lt la)), ⟨⟨⟨.none, he⟩, ⟨_, hi, rfl, rfl⟩⟩, Nat.zero_le _⟩, fun b hb => I1.fpOk (far b hb) (I1.hok.fresh (far b hb)), q⟩
end
/-- one walk for both -/
theorem walk_enB {K : PySem.W.Frag} {a : Addr} {xs : List V} {b : Bool} : Walk (enJ K a xs b) xs.length (fun H' => H' a = some (enO xs b)) (YPair (fun i => some (.int (i : Nat))) (fun i => xs[i]?)) := by
  cases b with
  | false => exact walk_enum.mono (fun H' h' => SqL.of h') fun _ _ _ _ _ _ y => y
  | true => exact ⟨fun i H' hi h' => ⟨SqT.of h', hi⟩, fun H' h' => ⟨SqT.of h', Nat.le_refl _⟩, fun i H' v H2 hi h' y => by
      obtain ⟨T, x, h1, h2, h3, h4⟩ := y
      exact ⟨T, _, x, h1, h2, h4, rfl, h3⟩⟩
end Mo
namespace Mo
open PySem PySem.Spec PyProof.Rows L2
theorem pi_listK {X : Cx} {K : PySem.W.Frag} {tg l : Expr} {tl : TE} (h : X.K = K) (hl : PE X l tl) : PI X tg l (iList K tl) := by
  subst h
  exact pi_list hl
end Mo

/-! ### zip of a tuple with a list; walks of a list or of a tuple -/
namespace Mo
open PySem PySem.Spec PyProof.Rows L2
def ItM (K : PySem.W.Frag) (a b : Addr) (xs ys : List V) : It := ⟨fun i H => (SqT K H a xs ∧ SqL K H b ys) ∧ i < xs.length ∧ i < ys.length, fun i H v H' => ∃ T x y, v = .ref T ∧ H T = none ∧ xs[i]? = some x ∧ ys[i]? = some y ∧ H' = upd H T (.tup [x, y]),
  fun i H => (SqT K H a xs ∧ SqL K H b ys) ∧ (xs.length ≤ i ∨ ys.length ≤ i)⟩
/-- the cells lie apart -/
structure Far (z TI TO i1 i2 a b : Addr) : Prop where
  nd : [z, TI, TO, i1, i2].Nodup
  na : a ∉ [z, TI, TO, i1, i2]
  nb : b ∉ [z, TI, TO, i1, i2]
theorem Far.sep {z TI TO i1 i2 a b : Addr} (f : Far z TI TO i1 i2 a b) : ZipSep2 z TI TO i1 i2 [i1, a] [i2, b] := by
  obtain ⟨nd, na, nb⟩ := f
  simp only [List.nodup_cons, List.mem_cons, List.not_mem_nil, or_false, not_or] at nd na nb
  obtain ⟨⟨z1, z2, z3, z4⟩, ⟨t1, t2, t3⟩, ⟨o1, o2⟩, j, _⟩ := nd
  obtain ⟨a1, a2, a3, a4, a5⟩ := na
  obtain ⟨b1, b2, b3, b4, b5⟩ := nb
  exact ⟨Ne.symm z1, Ne.symm z2, t1, t2, by simp, by simp only [List.mem_cons, List.not_mem_nil, or_false, not_or]; exact ⟨z3, Ne.symm a1⟩, by simp only [List.mem_cons, List.not_mem_nil, or_false, not_or]; exact ⟨o1, Ne.symm a3⟩, t3, by simp,
    by simp only [List.mem_cons, List.not_mem_nil, or_false, not_or]; exact ⟨z4, Ne.symm b1⟩, by simp only [List.mem_cons, List.not_mem_nil, or_false, not_or]; exact ⟨o2, Ne.symm b3⟩,
    by simp only [List.mem_cons, List.not_mem_nil, or_false, not_or]; exact ⟨j, Ne.symm b4⟩, by simp only [List.mem_cons, List.not_mem_nil, or_false, not_or]; exact ⟨Ne.symm j, Ne.symm a5⟩⟩
theorem turn_zipM {P : Program} {w : World} {K : PySem.W.Frag} {elts : List Expr} {kk : Nat} {tpos : Pos} {xs ys : List V} {a b z TI TO i1 i2 : Addr} (f : Far z TI TO i1 i2 a b) :
    Turn P w K (.Tuple elts kk tpos) (ItM K a b xs ys) [z, TI, TO, i1, i2] z (fun i h => (IsZip h z TI TO .none ∧ IsTupOf2 h TI (.ref i1) (.ref i2) ∧ (∃ x y, IsTupOf2 h TO x y) ∧ h.IsTupleIter i1 a i ∧ h.IsListIter i2 b i) ∧ i ≤ xs.length ∧ i ≤ ys.length) where
  mem := List.mem_cons_self ..
  obj := fun i h st c hc => by
    obtain ⟨⟨hz, hTI, ⟨x, y, hTO⟩, ⟨o1, e1, _, d1⟩, ⟨o2, e2, _, d2⟩⟩, _⟩ := st
    simp only [List.mem_cons, List.not_mem_nil, or_false] at hc
    rcases hc with q | q | q | q | q <;> rw [q]
    · exact ⟨_, hz, fun v q => nomatch q⟩
    · exact ⟨_, hTI, fun v q => nomatch q⟩
    · exact ⟨_, hTO, fun v q => nomatch q⟩
    · exact ⟨o1, e1, fun v q => by rw [d1] at q; cases q⟩
    · exact ⟨o2, e2, fun v q => by rw [d2] at q; cases q⟩
  keep := fun i h h' st k => by
    obtain ⟨⟨hz, hTI, ⟨x, y, hTO⟩, h1, h2⟩, hle⟩ := st
    exact ⟨⟨k z (by simp) _ hz, k TI (by simp) _ hTI, ⟨x, y, k TO (by simp) _ hTO⟩, h1.at fun o q => k i1 (by simp) o q, h2.at fun o q => k i2 (by simp) o q⟩, hle⟩
  item := by
    intro X hP hw hK hc i pins s σ H E I hf st hg
    subst hP hw hK
    obtain ⟨⟨hz, hTI, ⟨x0, y0, hTO⟩, h1, h2⟩, _⟩ := st
    obtain ⟨⟨hqx, hqy⟩, ix, iy⟩ := hg
    obtain ⟨its, rv, p, _⟩ := I.tuple hqx
    obtain ⟨its2, rv2, p2, _⟩ := I.list hqy
    have p : s.heap.IsTuple a its.toArray := p
    have s1 : i < its.toArray.size := by rw [List.size_toArray, ← rv.length]; exact ix
    have s2 : i < its2.toArray.size := by rw [List.size_toArray, ← rv2.length]; exact iy
    have hzl : z < s.heap.objs.size := Heap.lt_size hz
    have nh : X.A.in1.handled = none := by simpa using I.ok.hd hc
    have S := f.sep
    have na := f.na
    have nb := f.nb
    simp only [List.mem_cons, List.not_mem_nil, or_false, not_or] at na nb
    refine wpAny_pyNext_zipD2_item S (Draws.tuple nh i1 a na.2.2.2.1 its.toArray) (Draws.list nh i2 b nb.2.2.2.2 its2.toArray) hz hTI hTO ⟨h1, p⟩ ⟨h2, p2.isList⟩ s1 s2 fun u u2 h' tk g1 g2 z' TO' st1 st2 hT hsz hk => ?_
    refine ⟨_, rfl, wpAny_letOwnedTupleGo_zip (s := { s with heap := h', toks := tk }) z' fun h'' z'' sb => ?_⟩
    have hT2 : h''.get? s.heap.objs.size = some { cls := .type "tuple", data := .seq #[u, u2] } := (sb.2 _ (Nat.ne_of_gt hzl)).trans hT
    obtain ⟨x, hx⟩ : ∃ x, xs[i]? = some x := ⟨xs[i], List.getElem?_eq_getElem ix⟩
    obtain ⟨y, hy⟩ : ∃ y, ys[i]? = some y := ⟨ys[i], List.getElem?_eq_getElem iy⟩
    obtain ⟨v1, hv1, r1⟩ := rv.get hx
    obtain ⟨v2, hv2, r2⟩ := rv2.get hy
    have e1 : u = v1 := by
      have q : its.toArray[i]? = some v1 := by simpa using hv1
      rw [g1] at q
      exact Option.some.inj q
    have e2 : u2 = v2 := by
      have q : its2.toArray[i]? = some v2 := by simpa using hv2
      rw [g2] at q
      exact Option.some.inj q
    subst e1
    subst e2
    have I1 : Inv X pins σ (upd H s.heap.objs.size (.tup [x, y])) { s with heap := h'', toks := tk } := by
      refine I.turnedNew (ch := [z, TI, TO, i1, i2]) (fun c o hb q => ?_) hf (Nat.le_refl _) ⟨by show 2 ≤ sizeLine; decide, [u, u2], .cons r1 (.cons r2 .nil), ⟨_, hT2, rfl, _, rfl⟩⟩
      simp only [List.mem_cons, List.not_mem_nil, or_false, not_or] at hb
      exact (sb.2 c hb.1).trans (hk c o hb.1 hb.2.2.1 hb.2.2.2.1 hb.2.2.2.2 q)
    refine ⟨.ref s.heap.objs.size, _, I1, rfl, ⟨_, x, y, rfl, I.hok.fresh (Nat.le_refl _), hx, hy, rfl⟩, ⟨⟨z'', ?_, ⟨u, u2, ?_⟩, ?_, ?_⟩, ix, iy⟩, fun c hcm => ?_⟩
    · refine (sb.2 _ S.TIz).trans (hk _ _ S.TIz S.TITO S.TIi1 S.TIi2 hTI)
    · exact (sb.2 _ S.TOz).trans TO'
    · exact st1.1.at fun o q => (sb.2 _ (Ne.symm S.zi1)).trans q
    · exact st2.1.at fun o q => (sb.2 _ (Ne.symm S.zi2)).trans q
    · have hlt : c < s.heap.objs.size := by
        simp only [List.mem_cons, List.not_mem_nil, or_false] at hcm
        rcases hcm with q | q | q | q | q <;> rw [q]
        · exact hzl
        · exact Heap.lt_size hTI
        · exact Heap.lt_size hTO
        · obtain ⟨_, e1, _⟩ := h1
          exact Heap.lt_size e1
        · obtain ⟨_, e2, _⟩ := h2
          exact Heap.lt_size e2
      rw [upd_ne (Nat.ne_of_lt hlt)]
      exact (hf c hcm).1
  done := by
    intro X hP hw hK hc i pins s σ H E I hf st hg
    subst hP hw hK
    obtain ⟨⟨hz, hTI, ⟨x0, y0, hTO⟩, h1, h2⟩, le1, le2⟩ := st
    obtain ⟨⟨hqx, hqy⟩, hend⟩ := hg
    obtain ⟨its, rv, p, _⟩ := I.tuple hqx
    obtain ⟨its2, rv2, p2, _⟩ := I.list hqy
    have p : s.heap.IsTuple a its.toArray := p
    have l1 : its.toArray.size = xs.length := by rw [List.size_toArray, ← rv.length]
    have l2 : its2.toArray.size = ys.length := by rw [List.size_toArray, ← rv2.length]
    have nh : X.A.in1.handled = none := by simpa using I.ok.hd hc
    have na := f.na
    have nb := f.nb
    simp only [List.mem_cons, List.not_mem_nil, or_false, not_or] at na nb
    refine wpAny_pyNext_zipD2_end f.sep (Draws.tuple nh i1 a na.2.2.2.1 its.toArray) (Draws.list nh i2 b nb.2.2.2.2 its2.toArray) hz hTI hTO ⟨h1, p⟩ ⟨h2, p2.isList⟩ (by omega) (by omega) (by omega) fun h' tk hk => ⟨rfl, I.turnedL (t' := tk) (ch := [z, TI, TO, i1, i2]) (fun c o hb q => ?_) hf⟩
    simp only [List.mem_cons, List.not_mem_nil, or_false, not_or] at hb
    exact hk c o hb.1 hb.2.2.1 hb.2.2.2.1 hb.2.2.2.2 q
  self := fun A i s Q E st h => wpAny_pyIter_zip st.1.1 h
/-- zip of a list or of a tuple with a list -/
def zbJ (K : PySem.W.Frag) (a b : Addr) (xs ys : List V) : Bool → It
  | true => ItM K a b xs ys
  | false => Itz K a b
def iZipB (K : PySem.W.Frag) (ta : TA) : TI := fun σ H R => ta σ H fun vs H1 => ∃ (a b : Addr) (xs ys : List V) (f : Bool), vs = [.ref a, .ref b] ∧ H1 a = some (enO xs f) ∧ H1 b = some (.lst ys) ∧ R (zbJ K a b xs ys f) H1
/-- a list or a tuple, walked -/
def sqJ (K : PySem.W.Frag) (a : Addr) : Bool → It
  | true => Itt K a
  | false => Itl K a
def iSeqB (K : PySem.W.Frag) (tl : TE) : TI := fun σ H R => tl σ H fun x H1 => ∃ (a : Addr) (xs : List V) (f : Bool), x = .ref a ∧ H1 a = some (enO xs f) ∧ R (sqJ K a f) H1
section
variable {X : Cx} {K : PySem.W.Frag}
theorem pi_zipB {e e2 : Expr} {ta : TA} {p pos tpos : Pos} {elts : List Expr} {kk : Nat} (hK : X.K = K) (hg : Gl X "zip") (hm : X.mg "zip" = none) (ha : PA X [e, e2] ta)
    (hs : starEach [e, e2] X.env = (false, eval e X.env) :: starEach [e2] X.env := by rfl) (hpl : (backTo pos (starEach [e2] X.env)).any (·.1) = false := by rfl) :
    PI X (.Tuple elts kk tpos) (.Call (.Name "zip" p) [e, e2] [] pos) (iZipB K ta) := by
  subst hK
  refine ⟨fun pins s σ H R I h => ?_⟩
  refine Call_ (ld_blt I hg hm PyProof.Rows.boot_zip (PyProof.Rows.callWith_type1 (thn (ha.run pos pins s σ H _ I h) fun us s1 ⟨vs, H1, I1, r1, q1⟩ => ?_) hs hpl))
  obtain ⟨a, b, xs, ys, f, ex, h1, h2, q⟩ := q1
  subst ex
  cases r1 with
  | cons r rr =>
    cases rr with
    | cons r' rr =>
      cases rr
      cases r
      cases r'
      have far : ∀ c ∈ [s1.heap.objs.size + 4, s1.heap.objs.size + 2, s1.heap.objs.size + 3, s1.heap.objs.size, s1.heap.objs.size + 1], s1.heap.objs.size ≤ c := fun c hc => by
        simp only [List.mem_cons, List.not_mem_nil, or_false] at hc
        rcases hc with q | q | q | q | q <;> rw [q]
        · exact Nat.le_add_right _ _
        · exact Nat.le_add_right _ _
        · exact Nat.le_add_right _ _
        · exact Nat.le_refl _
        · exact Nat.le_add_right _ _
      have old : ∀ {c : Addr} {o : Obj}, s1.heap.get? c = some o → c ∉ [s1.heap.objs.size + 4, s1.heap.objs.size + 2, s1.heap.objs.size + 3, s1.heap.objs.size, s1.heap.objs.size + 1] := fun ho hc => absurd (Heap.lt_size ho) (Nat.not_lt.mpr (far _ hc))
      obtain ⟨its2, rv2, p2, _⟩ := I1.list (SqL.of h2)
      obtain ⟨o2, ho2, _⟩ := id p2.isList
      cases f with
      | false =>
        obtain ⟨its, rv, p1, _⟩ := I1.list (SqL.of h1)
        refine call_zip_2 p1.isList p2.isList fun h' hz hTI hTO g1 g2 hsz hk => wpAny_pyIter_zip hz ?_
        exact ⟨s1.heap.objs.size + 4, _, _, _, H1, rfl, I1.kept (t' := s1.toks) hk, turn_zip (PySem.W.ktu_apart s1.heap.objs.size a b p1.lt p2.lt), ⟨hz, hTI, ⟨_, _, hTO⟩, g1, g2⟩, fun c hc => I1.fpOk (far c hc) (I1.hok.fresh (far c hc)), q⟩
      | true =>
        obtain ⟨its, rv, pt, _⟩ := I1.tuple (SqT.of h1)
        have pt : s1.heap.IsTuple a its.toArray := pt
        obtain ⟨o1, ho1, _⟩ := id pt
        refine zip_begins2 (begins_tuple a its.toArray) (begins_list b its2.toArray) pt p2.isList fun h' hz hTI hTO g1 g2 hsz hk => wpAny_pyIter_zip hz ?_
        exact ⟨s1.heap.objs.size + 4, _, _, _, H1, rfl, I1.kept (t' := s1.toks) hk, turn_zipM (xs := xs) (ys := ys) ⟨by simp, old ho1, old ho2⟩, ⟨⟨hz, hTI, ⟨_, _, hTO⟩, ⟨_, g1, rfl, rfl⟩, ⟨_, g2, rfl, rfl⟩⟩, Nat.zero_le _, Nat.zero_le _⟩, fun c hc => I1.fpOk (far c hc) (I1.hok.fresh (far c hc)), q⟩
theorem walk_zipB {a b : Addr} {xs ys : List V} {f : Bool} {n : Nat} (hn : n = min xs.length ys.length) : Walk (zbJ K a b xs ys f) n (fun H' => H' a = some (enO xs f) ∧ H' b = some (.lst ys)) (YPair (fun i => xs[i]?) (fun i => ys[i]?)) := by
  cases f with
  | false => exact (walk_zip hn).mono (fun H' h' => ⟨SqL.of h'.1, SqL.of h'.2⟩) fun _ _ _ _ _ _ y => y
  | true => exact ⟨fun i H' hi h' => ⟨⟨SqT.of h'.1, SqL.of h'.2⟩, by omega, by omega⟩, fun H' h' => ⟨⟨SqT.of h'.1, SqL.of h'.2⟩, by omega⟩, fun i H' v H2 hi h' y => by
      obtain ⟨T, x, z, h1, h2, h3, h4, h5⟩ := y
      exact ⟨T, x, z, h1, h2, h5, h3, h4⟩⟩
theorem pi_seqB {tg l : Expr} {tl : TE} (hK : X.K = K) (hl : PE X l tl) : PI X tg l (iSeqB K tl) := by
  subst hK
  refine ⟨fun pins s σ H R I h => ?_⟩
  refine thn (hl.run pins s σ H _ I h) fun v s1 ⟨x, H1, I1, r1, q1⟩ => ?_
  obtain ⟨a, xs, f, e, ha, q⟩ := q1
  subst e
  cases r1
  have one : ∀ b ∈ [s1.heap.objs.size], FpOk X pins H1 b := fun b hb => by
    rw [List.mem_singleton.mp hb]
    exact I1.fpOk (Nat.le_refl _) (I1.hok.fresh (Nat.le_refl _))
  cases f with
  | false =>
    obtain ⟨its, rv, p, _⟩ := I1.list (SqL.of ha)
    exact wpAny_pyIter_list p.isList ⟨s1.heap.objs.size, _, _, _, H1, rfl, I1.kept (t' := s1.toks) fun b o e => Heap.get?_push_of_some _ e, turn_list a _, ⟨_, Heap.get?_push_size _ rfl, rfl, rfl⟩, one, q⟩
  | true =>
    obtain ⟨its, rv, p, _⟩ := I1.tuple (SqT.of ha)
    exact wpAny_pyIter_tuple (show s1.heap.IsTuple a its.toArray from p) ⟨s1.heap.objs.size, _, _, _, H1, rfl, I1.kept (t' := s1.toks) fun b o e => Heap.get?_push_of_some _ e, turn_tuple a _, ⟨_, Heap.get?_push_size _ rfl, rfl, rfl⟩, one, q⟩
theorem walk_sqB {a : Addr} {xs : List V} {f : Bool} : Walk (sqJ K a f) xs.length (fun H' => H' a = some (enO xs f)) (YAt xs) := by
  cases f with
  | false => exact walk_list.mono (fun H' h' => SqL.of h') fun _ _ _ _ _ _ y => y
  | true => exact walk_tup.mono (fun H' h' => SqT.of h') fun _ _ _ _ _ _ y => y
/-- a list or a tuple, as the rules that take both ask for it -/
theorem sqB {H : Hp} {a : Addr} {xs : List V} {f : Bool} (h : H a = some (enO xs f)) : SqL K H a xs ∨ SqT K H a xs := by
  cases f with
  | false => exact .inl (SqL.of h)
  | true => exact .inr (SqT.of h)
end
end Mo

/-! ### list(zip(..)): a zip whose tuples are kept -/
namespace Mo
open PySem PySem.Spec PyProof.Rows L2
section
variable {prog : Program} {w : World} {A : Around} {E : Value → Shared → Prop} {s : Shared}
variable {z TI TO i1 i2 : Addr} {fp1 fp2 : List Addr} {n1 n2 i : Nat} {P1 P2 : Nat → Value → Prop} {St1 St2 : Nat → Heap → Prop}
theorem held_item {T : Addr} {f : Bool} {oT : Obj} {Q : Value → Shared → Prop} (S : ZipSep2 z TI TO i1 i2 fp1 fp2) (D1 : Draws prog w A i1 fp1 n1 P1 St1) (D2 : Draws prog w A i2 fp2 n2 P2 St2)
    (hz : IsZipHeld s.heap z TI TO T f) (hT : s.heap.get? T = some oT) (ti : IsTupOf2 s.heap TI (.ref i1) (.ref i2)) (s1 : St1 i s.heap) (s2 : St2 i s.heap) (l1 : i < n1) (l2 : i < n2)
    (q : ∀ x y h' tk, P1 i x → P2 i y → IsZipHeld h' z TI TO T true → St1 (i + 1) h' → St2 (i + 1) h' → IsTupOf2 h' s.heap.objs.size x y →
      (∀ c o, c ≠ z → c ≠ i1 → c ≠ i2 → s.heap.get? c = some o → h'.get? c = some o) → Q (.ref s.heap.objs.size) { s with heap := h', toks := tk }) :
    wpAny (model prog w) A (Builtin.«zip.__next__» ⟨[.ref z], []⟩) (fun fin s' => ∃ v, fin = .done (.ret v) ∧ Q v s') E s := by
  obtain ⟨hp, g, d, tk0, os⟩ := s
  show wpAny _ _ (field (.ref z) 2 >>= _) _ _ _
  refine wpAny_bind (wpAny_field hz rfl (x := .bool false) rfl ?_)
  show wpAny _ _ (field (.ref z) 3 >>= _) _ _ _
  refine wpAny_bind (wpAny_field hz rfl (x := .ref TI) rfl (wpAny_bind (wpAny_seqItems ti rfl ?_)))
  show wpAny _ _ (Builtin.SmallTypes.ownedTupleIsFree (.ref z) >>= _) _ _ _
  refine wpAny_bind (wpAny_tupleHeld_zip hz hT fun h1 hz1 b1 => ?_)
  simp only [Bool.false_eq_true, if_false]
  refine wpAny_bind ?_
  rw [← Array.forIn_toList]
  simp only [List.forIn_cons, List.forIn_nil]
  refine wpAny_bind (wpAny_bind (wpAny_holding ?_))
  show wpAny _ _ (Builtin.SmallTypes.nextOf (.ref i1) >>= _) _ _ ⟨h1, g, d, tk0, os⟩
  have b1 : Heap.SameBut z hp h1 := b1
  refine wpAny_bind (D1.item i _ _ _ l1 (D1.over s1 b1 S.zf1) fun x h2 tk1 px t1 b2 => wpAny_pure (wpAny_pure ?_))
  have b2 : Heap.SameBut i1 h1 h2 := b2
  refine wpAny_bind (wpAny_bind (wpAny_holding ?_))
  show wpAny _ _ (Builtin.SmallTypes.nextOf (.ref i2) >>= _) _ _ ⟨h2, g, d, tk1, os⟩
  refine wpAny_bind (D2.item i _ _ _ l2 (D2.over (D2.over s2 b1 S.zf2) b2 S.sep1_2) fun y h3 tk2 py t2 b3 => wpAny_pure (wpAny_pure (wpAny_pure ?_)))
  have b3 : Heap.SameBut i2 h2 h3 := b3
  show wpAny _ _ (newTuple [x, y] >>= _) _ _ _
  refine wpAny_bind (wpAny_newTuple ?_)
  have sz : h3.objs.size = hp.objs.size := by rw [b3.1, b2.1, b1.1]
  have z3 : IsZipHeld h3 z TI TO T true := b3.extBut _ _ S.zi2 (b2.extBut _ _ S.zi1 hz1)
  have k3 : ∀ c o, c ≠ z → c ≠ i1 → c ≠ i2 → hp.get? c = some o → h3.get? c = some o := fun c o c1 c2 c3 e => b3.extBut _ _ c3 (b2.extBut _ _ c2 (b1.extBut _ _ c1 e))
  refine wpAny_pure ⟨_, rfl, ?_⟩
  show Q (.ref h3.objs.size) ⟨h3.push { cls := .type "tuple", data := .seq #[x, y] }, g, d, tk2, os⟩
  have np : IsTupOf2 (h3.push { cls := .type "tuple", data := .seq #[x, y] }) h3.objs.size x y := Heap.get?_push_size _ rfl
  rw [sz] at np ⊢
  exact q x y _ tk2 px py (Heap.get?_push_of_some _ z3) (D1.frame _ _ _ (D1.over t1 b3 S.sep2_1) fun b _ o e => Heap.get?_push_of_some _ e) (D2.frame _ _ _ t2 fun b _ o e => Heap.get?_push_of_some _ e) np
    fun c o c1 c2 c3 e => Heap.get?_push_of_some _ (k3 c o c1 c2 c3 e)
theorem held_end {T : Addr} {f : Bool} {oT : Obj} {Q : Fin → Shared → Prop} (S : ZipSep2 z TI TO i1 i2 fp1 fp2) (D1 : Draws prog w A i1 fp1 n1 P1 St1) (D2 : Draws prog w A i2 fp2 n2 P2 St2)
    (hz : IsZipHeld s.heap z TI TO T f) (hT : s.heap.get? T = some oT) (ti : IsTupOf2 s.heap TI (.ref i1) (.ref i2)) (s1 : St1 i s.heap) (s2 : St2 i s.heap) (l1 : i ≤ n1) (l2 : i ≤ n2) (le : i = n1 ∨ i = n2)
    (q : ∀ h' tk e, (∀ c o, c ≠ z → c ≠ i1 → c ≠ i2 → s.heap.get? c = some o → h'.get? c = some o) → (∃ o, h'.get? e = some o ∧ o.cls = .type "StopIteration") → E (.ref e) { s with heap := h', toks := tk }) :
    wpAny (model prog w) A (Builtin.«zip.__next__» ⟨[.ref z], []⟩) Q E s := by
  obtain ⟨hp, g, d, tk0, os⟩ := s
  show wpAny _ _ (field (.ref z) 2 >>= _) _ _ _
  refine wpAny_bind (wpAny_field hz rfl (x := .bool false) rfl ?_)
  show wpAny _ _ (field (.ref z) 3 >>= _) _ _ _
  refine wpAny_bind (wpAny_field hz rfl (x := .ref TI) rfl (wpAny_bind (wpAny_seqItems ti rfl ?_)))
  show wpAny _ _ (Builtin.SmallTypes.ownedTupleIsFree (.ref z) >>= _) _ _ _
  refine wpAny_bind (wpAny_tupleHeld_zip hz hT fun h1 hz1 b1 => ?_)
  simp only [Bool.false_eq_true, if_false]
  refine wpAny_bind ?_
  rw [← Array.forIn_toList]
  simp only [List.forIn_cons, List.forIn_nil]
  refine wpAny_bind (wpAny_bind (wpAny_holding ?_))
  show wpAny _ _ (Builtin.SmallTypes.nextOf (.ref i1) >>= _) _ _ ⟨h1, g, d, tk0, os⟩
  have b1 : Heap.SameBut z hp h1 := b1
  by_cases lt : i < n1
  · refine wpAny_bind (D1.item i _ _ _ lt (D1.over s1 b1 S.zf1) fun x h2 tk1 px t1 b2 => wpAny_pure (wpAny_pure ?_))
    have b2 : Heap.SameBut i1 h1 h2 := b2
    have e2 : i = n2 := by omega
    refine wpAny_bind (wpAny_bind (wpAny_holding ?_))
    show wpAny _ _ (Builtin.SmallTypes.nextOf (.ref i2) >>= _) _ _ ⟨h2, g, d, tk1, os⟩
    refine wpAny_bind (D2.done ⟨h2, g, d, tk1, os⟩ _ _ (by rw [← e2]; exact D2.over (D2.over s2 b1 S.zf2) b2 S.sep1_2) fun h3 e b3 he => ?_)
    exact q h3 tk1 e (fun c o c1 c2 c3 u => b3 _ _ c3 (b2.extBut _ _ c2 (b1.extBut _ _ c1 u))) he
  · have e1 : i = n1 := by omega
    refine wpAny_bind (D1.done ⟨h1, g, d, tk0, os⟩ _ _ (by rw [← e1]; exact D1.over s1 b1 S.zf1) fun h3 e b3 he => ?_)
    exact q h3 tk0 e (fun c o c1 c2 c3 u => b3 _ _ c2 (b1.extBut _ _ c1 u)) he
/-- a zip after i steps; out: the tuples that it gave, which are kept -/
structure Zat (z TI TO i1 i2 : Addr) (St1 St2 : Nat → Heap → Prop) (h : Heap) (i : Nat) (out : List Addr) : Prop where
  ti : IsTupOf2 h TI (.ref i1) (.ref i2)
  s1 : St1 i h
  s2 : St2 i h
  to : ∃ o, h.get? TO = some o
  own : (IsZip h z TI TO .none ∧ ∃ a b, IsTupOf2 h TO a b) ∨ ∃ T f oT, T ∈ out ∧ IsZipHeld h z TI TO T f ∧ h.get? T = some oT
theorem zat_item {out : List Addr} {Q : Option Value → Shared → Prop} (S : ZipSep2 z TI TO i1 i2 fp1 fp2) (D1 : Draws prog w A.in1 i1 fp1 n1 P1 St1) (D2 : Draws prog w A.in1 i2 fp2 n2 P2 St2)
    (Z : Zat z TI TO i1 i2 St1 St2 s.heap i out) (ap : ∀ T ∈ out, T ≠ z ∧ T ≠ TO ∧ T ≠ i1 ∧ T ≠ i2) (l1 : i < n1) (l2 : i < n2)
    (q : ∀ x y h' tk, P1 i x → P2 i y → IsTupOf2 h' s.heap.objs.size x y → Zat z TI TO i1 i2 St1 St2 h' (i + 1) (out ++ [s.heap.objs.size]) →
      (∀ c o, c ≠ z → c ≠ TO → c ≠ i1 → c ≠ i2 → s.heap.get? c = some o → h'.get? c = some o) → Q (some (.ref s.heap.objs.size)) { s with heap := h', toks := tk }) :
    wpAny (model prog w) A (pyNext (.ref z)) Q E s := by
  obtain ⟨ti, s1, s2, to, own⟩ := Z
  rcases own with ⟨hz, a, b, ho⟩ | ⟨T, f, oT, hm, hz, hT⟩
  · refine wpAny_pyNext_zipD2_item S D1 D2 hz ti ho s1 s2 l1 l2 fun x y h' tk p1 p2 b1 b2 d1 d2 b5 b6 k => ?_
    exact q x y h' tk p1 p2 b5 ⟨k _ _ S.TIz S.TITO S.TIi1 S.TIi2 ti, d1, d2, ⟨_, b2⟩, .inr ⟨_, false, _, List.mem_append_right _ (List.mem_singleton.mpr rfl), b1, b5⟩⟩ k
  · have hTy : s.TypeIs (.ref z) "zip" := ⟨_, hz, rfl⟩
    obtain ⟨a1, a2, a3, a4⟩ := ap T hm
    unfold pyNext
    refine wpAny_bind (wpAny_attempt (wpAny_callSpecial?_slot (name := Str.ofString "__next__") hTy F.slot_zip_next (wpAny_call_entry F.slot_zip_next hTy F.entry_zip_next
      (held_item S D1 D2 hz hT ti s1 s2 l1 l2 fun x y h' tk p1 p2 b1 d1 d2 b5 k => wpAny_pure ?_) (F.args_zip_next_1 _))))
    exact q x y h' tk p1 p2 b5 ⟨k _ _ S.TIz S.TIi1 S.TIi2 ti, d1, d2, to.imp fun o e => k _ _ S.TOz S.Ti1 S.Ti2 e, .inr ⟨T, true, oT, List.mem_append_left _ hm, b1, k _ _ a1 a3 a4 hT⟩⟩ fun c o c1 _ c3 c4 e => k c o c1 c3 c4 e
theorem zat_end {out : List Addr} {Q : Option Value → Shared → Prop} (S : ZipSep2 z TI TO i1 i2 fp1 fp2) (D1 : Draws prog w A.in1 i1 fp1 n1 P1 St1) (D2 : Draws prog w A.in1 i2 fp2 n2 P2 St2)
    (Z : Zat z TI TO i1 i2 St1 St2 s.heap i out) (l1 : i ≤ n1) (l2 : i ≤ n2) (le : i = n1 ∨ i = n2)
    (q : ∀ h' tk, (∀ c o, c ≠ z → c ≠ TO → c ≠ i1 → c ≠ i2 → s.heap.get? c = some o → h'.get? c = some o) → Q none { s with heap := h', toks := tk }) : wpAny (model prog w) A (pyNext (.ref z)) Q E s := by
  obtain ⟨ti, s1, s2, to, own⟩ := Z
  rcases own with ⟨hz, a, b, ho⟩ | ⟨T, f, oT, hm, hz, hT⟩
  · exact wpAny_pyNext_zipD2_end S D1 D2 hz ti ho s1 s2 l1 l2 le q
  · have hTy : s.TypeIs (.ref z) "zip" := ⟨_, hz, rfl⟩
    unfold pyNext
    refine wpAny_bind (wpAny_attempt (wpAny_callSpecial?_slot (name := Str.ofString "__next__") hTy F.slot_zip_next (wpAny_call_entry F.slot_zip_next hTy F.entry_zip_next
      (held_end S D1 D2 hz hT ti s1 s2 l1 l2 le fun h' tk e k he => ?_) (F.args_zip_next_1 _))))
    obtain ⟨o, ho, hc⟩ := he
    refine wpAny_bind (wpAny_isInstance (T := "StopIteration") (b := true) ⟨o, ho, hc⟩ isSubtype_stop ?_)
    exact wpAny_pure (q _ _ fun c o c1 _ c3 c4 e => k c o c1 c3 c4 e)
end
end Mo

/-! ### list(a zip) -/
namespace Mo
open PySem PySem.Spec PyProof.Rows L2
theorem zip_nolen : typeLookup (.type "zip") "__len__" = pure none := am_miss_of_fast (by decide +kernel)
theorem zip_nohint : typeLookup (.type "zip") "__length_hint__" = pure none := am_miss_of_fast (by decide +kernel)
/-- the tuples that were given -/
def Gave (P1 P2 : Nat → Value → Prop) (h : Heap) (out : List Addr) : Prop := ∀ (j : Nat) (T : Addr), out[j]? = some T → ∃ x y, P1 j x ∧ P2 j y ∧ IsTupOf2 h T x y
abbrev lsO (out : List Addr) (c : Nat) : Obj := { cls := .type "list", dict := none, data := .seq (out.map Value.ref).toArray c, slots := #[] }
section
variable {prog : Program} {w : World} {A : Around} {E : Value → Shared → Prop} {s : Shared}
variable {z TI TO i1 i2 : Addr} {fp1 fp2 : List Addr} {n1 n2 : Nat} {P1 P2 : Nat → Value → Prop} {St1 St2 : Nat → Heap → Prop} {R : Result → Shared → Prop}
theorem Zat.alive {h : Heap} {i : Nat} {out : List Addr} {B : Around} (D1 : Draws prog w B i1 fp1 n1 P1 St1) (D2 : Draws prog w B i2 fp2 n2 P2 St2) (Z : Zat z TI TO i1 i2 St1 St2 h i out) : h.objs.size ≠ z ∧ h.objs.size ≠ TO ∧ h.objs.size ≠ i1 ∧ h.objs.size ≠ i2 := by
  have ne : ∀ {b : Addr}, (∃ o, h.get? b = some o) → h.objs.size ≠ b := fun {b} ⟨o, e⟩ => Nat.ne_of_gt (Heap.lt_size e)
  refine ⟨ne ?_, ne Z.to, ne (D1.live _ _ Z.s1), ne (D2.live _ _ Z.s2)⟩
  rcases Z.own with ⟨hz, _⟩ | ⟨_, _, _, _, hz, _⟩
  · exact ⟨_, hz⟩
  · exact ⟨_, hz⟩
theorem Zat.upd {h h' : Heap} {i : Nat} {out : List Addr} {D : Addr} {B : Around} (D1 : Draws prog w B i1 fp1 n1 P1 St1) (D2 : Draws prog w B i2 fp2 n2 P2 St2) (Z : Zat z TI TO i1 i2 St1 St2 h i out) (hD : D ∉ z :: TI :: TO :: (fp1 ++ fp2)) (ho : D ∉ out)
    (k : ∀ b o, b ≠ D → h.get? b = some o → h'.get? b = some o) : Zat z TI TO i1 i2 St1 St2 h' i out := by
  have nz : z ≠ D := fun e => hD (by rw [e]; exact List.mem_cons_self)
  have nI : TI ≠ D := fun e => hD (by rw [e]; exact List.mem_cons_of_mem _ List.mem_cons_self)
  have nO : TO ≠ D := fun e => hD (by rw [e]; exact List.mem_cons_of_mem _ (List.mem_cons_of_mem _ List.mem_cons_self))
  have n1 : ∀ b ∈ fp1, b ≠ D := fun b hb e => hD (by rw [← e]; exact List.mem_cons_of_mem _ (List.mem_cons_of_mem _ (List.mem_cons_of_mem _ (List.mem_append_left _ hb))))
  have n2 : ∀ b ∈ fp2, b ≠ D := fun b hb e => hD (by rw [← e]; exact List.mem_cons_of_mem _ (List.mem_cons_of_mem _ (List.mem_cons_of_mem _ (List.mem_append_right _ hb))))
  refine ⟨k _ _ nI Z.ti, D1.frame _ _ _ Z.s1 fun b hb o e => k b o (n1 b hb) e, D2.frame _ _ _ Z.s2 fun b hb o e => k b o (n2 b hb) e, Z.to.imp fun o e => k _ _ nO e, ?_⟩
  rcases Z.own with ⟨hz, a, b, e⟩ | ⟨T, f, oT, hm, hz, hT⟩
  · exact .inl ⟨k _ _ nz hz, a, b, k _ _ nO e⟩
  · exact .inr ⟨T, f, oT, hm, k _ _ nz hz, k _ _ (fun e => ho (by rw [← e]; exact hm)) hT⟩
theorem zls_loop (S : ZipSep2 z TI TO i1 i2 fp1 fp2) (D1 : Draws prog w A.in1.in1 i1 fp1 n1 P1 St1) (D2 : Draws prog w A.in1.in1 i2 fp2 n2 P2 St2) {D : Addr} (hD : D ∉ z :: TI :: TO :: (fp1 ++ fp2)) (res : Value) {m : Nat} (hm : m = min n1 n2) (fit : m ≤ sizeLine) (base : Nat) :
    ∀ (k i : Nat) (s : Shared) (out : List Addr) (c : Nat), m - i = k → i ≤ m → out.length = i → base ≤ s.heap.objs.size → (∀ T ∈ out, base ≤ T) → out.Nodup → Zat z TI TO i1 i2 St1 St2 s.heap i out → (∀ T ∈ out, T ≠ D ∧ T ≠ z ∧ T ≠ TO ∧ T ≠ i1 ∧ T ≠ i2) → Gave P1 P2 s.heap out → s.heap.get? D = some (lsO out c) →
      (∀ h' tk out' c', out'.length = m → (∀ T ∈ out', base ≤ T) → out'.Nodup → Gave P1 P2 h' out' → h'.get? D = some (lsO out' c') → (∀ b o, b ≠ D → b ≠ z → b ≠ TO → b ≠ i1 → b ≠ i2 → s.heap.get? b = some o → h'.get? b = some o) → R (.ok (.ret res)) { s with heap := h', toks := tk }) →
      codeAny (model prog w) A (.builtin "list.extend.loop" ⟨[.ref D, .ref z, res], []⟩) R s := by
  have Dz : D ≠ z := fun e => hD (by rw [e]; exact List.mem_cons_self)
  have DO : D ≠ TO := fun e => hD (by rw [e]; exact List.mem_cons_of_mem _ (List.mem_cons_of_mem _ List.mem_cons_self))
  have Di1 : D ≠ i1 := fun e => hD (by rw [e]; exact List.mem_cons_of_mem _ (List.mem_cons_of_mem _ (List.mem_cons_of_mem _ (List.mem_append_left _ S.mem1))))
  have Di2 : D ≠ i2 := fun e => hD (by rw [e]; exact List.mem_cons_of_mem _ (List.mem_cons_of_mem _ (List.mem_cons_of_mem _ (List.mem_append_right _ S.mem2))))
  intro k
  induction k with
  | zero =>
    intro i s out c hk hi hl lo fr nd Z ap gv hd hR
    have ei : i = m := by omega
    refine codeAny_builtin F.entry_extend_loop ?_
    rw [Around.under_plainId F.plain_extend_loop _]
    show wpAny _ A.in1 (pyNext (.ref z) >>= _) _ _ s
    refine wpAny_bind (zat_end S D1 D2 Z (by omega) (by omega) (by omega) fun h' tk k => wpAny_pure (hR h' tk out c (by omega) fr nd (fun j T hj => ?_) (k _ _ Dz DO Di1 Di2 hd) fun b o _ c1 c2 c3 c4 e => k b o c1 c2 c3 c4 e))
    obtain ⟨x, y, p1, p2, t⟩ := gv j T hj
    obtain ⟨_, a1, a2, a3, a4⟩ := ap T (List.mem_of_getElem? hj)
    exact ⟨x, y, p1, p2, k _ _ a1 a2 a3 a4 t⟩
  | succ k ih =>
    intro i s out c hk hi hl lo fr nd Z ap gv hd hR
    have lt : i < m := by omega
    refine codeAny_builtin F.entry_extend_loop ?_
    rw [Around.under_plainId F.plain_extend_loop _]
    show wpAny _ A.in1 (pyNext (.ref z) >>= _) _ _ s
    obtain ⟨e1, e2, e3, e4⟩ := Z.alive D1 D2
    have eD : s.heap.objs.size ≠ D := Nat.ne_of_gt (Heap.lt_size hd)
    refine wpAny_bind (zat_item S D1 D2 Z (fun T hT => (ap T hT).2) (by omega) (by omega) fun x y h' tk p1 p2 nt Z' kp => ?_)
    have hd' := kp _ _ Dz DO Di1 Di2 hd
    show wpAny _ A.in1 (updateSeq D (·.push (.ref s.heap.objs.size)) >>= _) _ _ _
    have upk : ∀ b o, b ≠ D → h'.get? b = some o → (h'.update D (Obj.mapSeq (·.push (.ref s.heap.objs.size)))).get? b = some o := fun b o ne e => (Heap.get?_update_other _ _ (Ne.symm ne)).trans e
    have ap' : ∀ T ∈ out ++ [s.heap.objs.size], T ≠ D ∧ T ≠ z ∧ T ≠ TO ∧ T ≠ i1 ∧ T ≠ i2 := fun T hT => by
      rcases List.mem_append.mp hT with q | q
      · exact ap T q
      · rw [List.mem_singleton.mp q]
        exact ⟨eD, e1, e2, e3, e4⟩
    have hdn := Heap.get?_update_self (Obj.mapSeq (·.push (Value.ref s.heap.objs.size))) hd' rfl
    obtain ⟨c', hd2⟩ : ∃ c', (h'.update D (Obj.mapSeq (·.push (.ref s.heap.objs.size)))).get? D = some (lsO (out ++ [s.heap.objs.size]) c') := by
      have e : ((out.map Value.ref).toArray.push (.ref s.heap.objs.size)) = ((out ++ [s.heap.objs.size]).map Value.ref).toArray := by simp
      unfold Obj.mapSeq at hdn
      dsimp only at hdn
      rw [e] at hdn
      exact ⟨_, hdn⟩
    have small : ∀ T ∈ out, T < s.heap.objs.size := fun T hT => by
      obtain ⟨j, hj⟩ := List.getElem?_of_mem hT
      obtain ⟨_, _, _, _, t⟩ := gv j T hj
      exact Heap.lt_size t
    have fr' : ∀ T ∈ out ++ [s.heap.objs.size], base ≤ T := fun T hT => by
      rcases List.mem_append.mp hT with q | q
      · exact fr T q
      · rw [List.mem_singleton.mp q]
        exact lo
    have nd' : (out ++ [s.heap.objs.size]).Nodup := List.nodup_append.mpr ⟨nd, List.nodup_cons.mpr ⟨List.not_mem_nil, List.nodup_nil⟩, fun a ha b hb => by rw [List.mem_singleton.mp hb]; exact Nat.ne_of_lt (small a ha)⟩
    have lo' : base ≤ (h'.update D (Obj.mapSeq (·.push (.ref s.heap.objs.size)))).objs.size := Nat.le_trans lo (Nat.le_of_lt (Heap.lt_size (upk _ _ eD nt)))
    refine wpAny_bind (wpAny_updateSeq (s := { s with heap := h', toks := tk }) hd' rfl (wpAny_pure ⟨plainId_quiet F.plain_extend_loop _, ih (i + 1) _ (out ++ [s.heap.objs.size]) c' (by omega) (by omega) (by rw [List.length_append, hl]; rfl) lo' fr' nd'
      (Z'.upd D1 D2 hD (fun q => (ap' D q).1 rfl) upk) ap' (fun j T hj => ?_) hd2 fun h2 tk2 out2 c2 l2 f2 n2' g2 d2 k2 => ?_⟩) (by rw [List.size_toArray, List.length_map, hl]; omega) (by show (Array.push _ _).size ≤ sizeLine + 1; rw [Array.size_push, List.size_toArray, List.length_map, hl]; omega))
    · by_cases hj2 : j < out.length
      · rw [List.getElem?_append_left hj2] at hj
        obtain ⟨x', y', q1, q2, t⟩ := gv j T hj
        obtain ⟨a0, a1, a2, a3, a4⟩ := ap T (List.mem_of_getElem? hj)
        exact ⟨x', y', q1, q2, upk _ _ a0 (kp _ _ a1 a2 a3 a4 t)⟩
      · have ej : j = i := by
          have := (List.getElem?_eq_some_iff.mp hj).1
          rw [List.length_append] at this
          simp at this
          omega
        rw [ej, List.getElem?_append_right (by omega), hl, Nat.sub_self] at hj
        obtain rfl : s.heap.objs.size = T := Option.some.inj hj
        rw [ej]
        exact ⟨x, y, p1, p2, upk _ _ eD nt⟩
    · exact hR h2 tk2 out2 c2 l2 f2 n2' g2 d2 fun b o b0 b1 b2 b3 b4 e => k2 b o b0 b1 b2 b3 b4 (upk b o b0 (kp b o b1 b2 b3 b4 e))
end
end Mo

/-! ### list(a zip): the call -/
namespace Mo
open PySem PySem.Spec PyProof.Rows L2
section
variable {prog : Program} {w : World} {A : Around} {E : Value → Shared → Prop} {s : Shared}
variable {z TI TO i1 i2 : Addr} {fp1 fp2 : List Addr} {n1 n2 : Nat} {P1 P2 : Nat → Value → Prop} {St1 St2 : Nat → Heap → Prop} {R : Result → Shared → Prop}
theorem zls_extend (S : ZipSep2 z TI TO i1 i2 fp1 fp2) (D1 : Draws prog w A.in1.in1 i1 fp1 n1 P1 St1) (D2 : Draws prog w A.in1.in1 i2 fp2 n2 P2 St2) {D : Addr} (hD : D ∉ z :: TI :: TO :: (fp1 ++ fp2)) (res : Value) {m : Nat} (hm : m = min n1 n2) (fit : m ≤ sizeLine) (base : Nat) (lo : base ≤ s.heap.objs.size)
    {c : Nat} (Z : Zat z TI TO i1 i2 St1 St2 s.heap 0 []) (hz : IsZip s.heap z TI TO .none) (hd : s.heap.get? D = some (lsO [] c))
    (hR : ∀ h' tk out' c', out'.length = m → (∀ T ∈ out', base ≤ T) → out'.Nodup → Gave P1 P2 h' out' → h'.get? D = some (lsO out' c') → (∀ b o, b ≠ D → b ≠ z → b ≠ TO → b ≠ i1 → b ≠ i2 → s.heap.get? b = some o → h'.get? b = some o) → R (.ok (.ret res)) { s with heap := h', toks := tk }) :
    wpAny (model prog w) A.in1 (Builtin.List.listExtendWith (.ref D) (.ref z) res)
      (fun fin s' => match fin with | .done f => R (.ok f) s' | .again c' => c'.quiet = true ∧ codeAny (model prog w) A c' R s') (fun e s' => R (.error e) s') s := by
  have hT : s.TypeIs (.ref z) "zip" := ⟨_, hz, rfl⟩
  have Dz : D ≠ z := fun e => hD (by rw [e]; exact List.mem_cons_self)
  unfold Builtin.List.listExtendWith
  refine wpAny_bind (wpAny_typeOf hT ?_)
  simp only [show Builtin.List.listSameRef (.ref D) (.ref z) = false by simp [Builtin.List.listSameRef, Dz], show (Value.type "zip" == Value.type "list") = false by decide, show (Value.type "zip" == Value.type "tuple") = false by decide, Bool.or_false, Bool.false_eq_true, if_false]
  refine wpAny_bind (wpAny_pyIter_zip hz (wpAny_bind (wpAny_holding ?_)))
  unfold Builtin.List.listLengthHint
  refine wpAny_bind (wpAny_specialOf hT zip_nolen ?_)
  show wpAny _ A.in1 (specialOf (Value.ref z) (Str.ofString "__length_hint__") >>= _) _ _ _
  refine wpAny_bind (wpAny_specialOf hT zip_nohint (wpAny_pure ?_))
  show wpAny _ A.in1 (rule "list.extend.makes-room" >>= fun _ => Builtin.List.listTouch (.ref D) >>= fun _ => again (.builtin "list.extend.loop" ⟨[.ref D, .ref z, res], []⟩)) _ _ _
  refine wpAny_bind (wpAny_rule (wpAny_bind ?_))
  show wpAny _ A.in1 (updateSeq D (·.push .none) >>= fun _ => updateSeq D (·.pop)) _ _ _
  have up : ∀ (f : Array Value → Array Value) (h : Heap) b o, b ≠ D → h.get? b = some o → (h.update D (Obj.mapSeq f)).get? b = some o := fun f h b o ne e => (Heap.get?_update_other _ _ (Ne.symm ne)).trans e
  have hd1 := Heap.get?_update_self (Obj.mapSeq (·.push Value.none)) hd rfl
  have hd2 := Heap.get?_update_self (Obj.mapSeq (·.pop)) hd1 rfl
  refine wpAny_bind (wpAny_updateSeq hd rfl (wpAny_updateSeq (s := { s with heap := s.heap.update D (Obj.mapSeq (·.push Value.none)) }) hd1 rfl ?_ (by simp [sizeLine_eq]) (by simp [sizeLine_eq])) (by simp [sizeLine_eq]) (by simp [sizeLine_eq]))
  obtain ⟨c2, hd3⟩ : ∃ c2, ((s.heap.update D (Obj.mapSeq (·.push Value.none))).update D (Obj.mapSeq (·.pop))).get? D = some (lsO [] c2) := by
    unfold Obj.mapSeq at hd1 hd2 ⊢
    dsimp only at hd2 ⊢
    exact ⟨_, hd2⟩
  refine wpAny_pure ⟨plainId_quiet F.plain_extend_loop _, zls_loop S D1 D2 hD res hm fit base m 0 _ [] c2 (by omega) (Nat.zero_le _) rfl (by rw [Heap.size_update, Heap.size_update]; exact lo) (fun _ q => absurd q List.not_mem_nil) List.nodup_nil (Z.upd D1 D2 hD List.not_mem_nil fun b o ne e => up _ _ b o ne (up _ _ b o ne e)) (fun _ q => absurd q List.not_mem_nil)
    (fun j T q => nomatch q) hd3 fun h' tk out' c' l f n g d k => ?_⟩
  exact hR h' tk out' c' l f n g d fun b o b0 b1 b2 b3 b4 e => k b o b0 b1 b2 b3 b4 (up _ _ b o b0 (up _ _ b o b0 e))
theorem zls_init (S : ZipSep2 z TI TO i1 i2 fp1 fp2) (D1 : Draws prog w A.in1.in1 i1 fp1 n1 P1 St1) (D2 : Draws prog w A.in1.in1 i2 fp2 n2 P2 St2) {D : Addr} (hD : D ∉ z :: TI :: TO :: (fp1 ++ fp2)) {m : Nat} (hm : m = min n1 n2) (fit : m ≤ sizeLine) (base : Nat) (lo : base ≤ s.heap.objs.size)
    (Z : Zat z TI TO i1 i2 St1 St2 s.heap 0 []) (hz : IsZip s.heap z TI TO .none) (hd : s.heap.get? D = some (lsO [] 0))
    (hR : ∀ h' tk out' c', out'.length = m → (∀ T ∈ out', base ≤ T) → out'.Nodup → Gave P1 P2 h' out' → h'.get? D = some (lsO out' c') → (∀ b o, b ≠ D → b ≠ z → b ≠ TO → b ≠ i1 → b ≠ i2 → s.heap.get? b = some o → h'.get? b = some o) → R (.ok (.ret .none)) { s with heap := h', toks := tk }) :
    wpAny (model prog w) A.in1 (Builtin.«list.__init__» ⟨[.ref D, .ref z], []⟩)
      (fun fin s' => match fin with | .done f => R (.ok f) s' | .again c' => c'.quiet = true ∧ codeAny (model prog w) A c' R s') (fun e s' => R (.error e) s') s := by
  show wpAny _ A.in1 (do let old ← Builtin.List.listItems (.ref D); Builtin.List.listUpdate (.ref D) (fun _ => #[]); letGo old.toList.reverse; Builtin.List.listExtendWith (.ref D) (.ref z) .none) _ _ s
  refine wpAny_bind ?_
  unfold Builtin.List.listItems
  refine wpAny_bind (wpAny_seqItems hd rfl (wpAny_pure ?_))
  show wpAny _ A.in1 (updateSeq D (fun _ => #[]) >>= fun _ => letGo (#[] : Array Value).toList.reverse >>= fun _ => Builtin.List.listExtendWith (.ref D) (.ref z) .none) _ _ s
  have Dz : D ≠ z := fun e => hD (by rw [e]; exact List.mem_cons_self)
  have up : ∀ b o, b ≠ D → s.heap.get? b = some o → (s.heap.update D (Obj.mapSeq fun _ => (#[] : Array Value))).get? b = some o := fun b o ne e => (Heap.get?_update_other _ _ (Ne.symm ne)).trans e
  have hd1 := Heap.get?_update_self (Obj.mapSeq (fun _ => (#[] : Array Value))) hd rfl
  obtain ⟨c1, hd2⟩ : ∃ c1, (s.heap.update D (Obj.mapSeq fun _ => (#[] : Array Value))).get? D = some (lsO [] c1) := by
    unfold Obj.mapSeq at hd1 ⊢
    dsimp only at hd1 ⊢
    exact ⟨_, hd1⟩
  refine wpAny_bind (wpAny_updateSeq hd rfl (wpAny_bind (wpAny_letGo ?_)) (by simp [sizeLine_eq]) (by simp [sizeLine_eq]))
  refine zls_extend (s := { s with heap := s.heap.update D (Obj.mapSeq fun _ => (#[] : Array Value)) }) S D1 D2 hD .none hm fit base (by show _ ≤ (s.heap.update _ _).objs.size; rw [Heap.size_update]; exact lo) (Z.upd D1 D2 hD List.not_mem_nil up) (up _ _ (Ne.symm Dz) hz) hd2 fun h' tk out' c' l f n g d k => ?_
  exact hR h' tk out' c' l f n g d fun b o b0 b1 b2 b3 b4 e => k b o b0 b1 b2 b3 b4 (up b o b0 e)
theorem call_list_zip {Q : Value → Shared → Prop} (S : ZipSep2 z TI TO i1 i2 fp1 fp2) (D1 : Draws prog w A.in1.in1.in1 i1 fp1 n1 P1 St1) (D2 : Draws prog w A.in1.in1.in1 i2 fp2 n2 P2 St2) (hD : ∀ b ∈ z :: TI :: TO :: (fp1 ++ fp2), b < s.heap.objs.size) {m : Nat} (hm : m = min n1 n2) (fit : m ≤ sizeLine)
    (Z : Zat z TI TO i1 i2 St1 St2 s.heap 0 []) (hz : IsZip s.heap z TI TO .none)
    (q : ∀ h' tk out' c', out'.length = m → (∀ T ∈ out', s.heap.objs.size < T) → out'.Nodup → Gave P1 P2 h' out' → h'.get? s.heap.objs.size = some (lsO out' c') → (∀ b o, b ≠ z → b ≠ TO → b ≠ i1 → b ≠ i2 → s.heap.get? b = some o → h'.get? b = some o) → Q (.ref s.heap.objs.size) { s with heap := h', toks := tk }) :
    wpAny (model prog w) A (call (.type "list") [.ref z]) Q E s := by
  have nD : s.heap.objs.size ∉ z :: TI :: TO :: (fp1 ++ fp2) := fun e => Nat.lt_irrefl _ (hD _ e)
  refine callType_codes (Q₁ := fun obj s₁ => obj = .ref s.heap.objs.size ∧ s₁ = { s with heap := s.heap.push { cls := .type "list", data := .seq #[] } }) F.called_list (F.typeCall_list_1 _) F.entry_list_init (code_list_new _ ⟨rfl, rfl⟩) fun obj s₁ h₁ => ?_
  obtain ⟨rfl, rfl⟩ := h₁
  have hd : (s.heap.push { cls := .type "list", data := .seq #[] }).get? s.heap.objs.size = some (lsO [] 0) := Heap.get?_push_size _ rfl
  have up : ∀ b o, s.heap.get? b = some o → (s.heap.push { cls := .type "list", data := .seq #[] }).get? b = some o := fun b o e => Heap.get?_push_of_some _ e
  refine ⟨⟨_, hd, rfl⟩, F.args_list_init_2 _ _, zls_init (s := { s with heap := s.heap.push { cls := .type "list", data := .seq #[] } }) S D1 D2 nD hm fit (s.heap.objs.size + 1) (by show _ ≤ (s.heap.push _).objs.size; rw [Heap.size_push]; exact Nat.le_refl _) (Z.upd D1 D2 nD List.not_mem_nil fun b o _ e => up b o e) (up _ _ hz) hd fun h' tk out' c' l f n g d k => ?_⟩
  refine ⟨rfl, q h' tk out' c' l f n g d fun b o b1 b2 b3 b4 e => k b o (fun z => ?_) b1 b2 b3 b4 (up b o e)⟩
  exact Nat.lt_irrefl _ (by have := Heap.lt_size e; rw [z] at this; exact this)
end
end Mo

/-! ### list(zip(x, y)) of two texts: the rule -/
namespace Mo
open PySem PySem.Spec PyProof.Rows L2
/-- what stands, and the new things -/
def plus (H Hn : Hp) : Hp := fun b => match Hn b with
  | some o => some o
  | none => H b
theorem plus_old {H Hn : Hp} {b : Addr} (h : Hn b = none) : plus H Hn b = H b := by
  unfold plus
  rw [h]
theorem plus_new {H Hn : Hp} {b : Addr} {o : HO} (h : Hn b = some o) : plus H Hn b = some o := by
  unfold plus
  rw [h]
section
variable {X : Cx}
theorem inv_more {pins : List (Addr × Obj)} {σ : L2.St} {H Hn : Hp} {s : Shared} {h' : Heap} {t' : Nat} (I : Inv X pins σ H s) (k : ∀ b u, s.heap.get? b = some u → h'.get? b = some u) (gone : ∀ b o, Hn b = some o → s.heap.get? b = none ∧ H b = none)
    (new : ∀ b o, Hn b = some o → ObjOk X.prog X.w (plus H Hn) h' b o) : Inv X pins σ (plus H Hn) { s with heap := h', toks := t' } := by
  have old : ∀ {b : Addr} {u : Obj}, s.heap.get? b = some u → Hn b = none := fun {b u} e => by
    cases z : Hn b with
    | none => rfl
    | some o =>
      rw [(gone b o z).1] at e
      cases e
  have stay : ∀ {b : Addr} {o : HO}, H b = some o → plus H Hn b = some o := fun {b o} e => by
    refine (plus_old ?_).trans e
    cases z : Hn b with
    | none => rfl
    | some o2 =>
      rw [(gone b o2 z).2] at e
      cases e
  refine I.un ⟨fun b u e _ _ _ => k b u e, fun b u e _ _ _ => ⟨u.slots, k b u e⟩, fun b u e n _ => (plus_old (old e)).trans n, fun b u e _ => ⟨u, k b u e⟩, fun b xs e => stay e, fun b u xs e => stay e, fun b ps e => ⟨#[], by rw [stay e]; simp⟩⟩ fun b o e => ?_
  cases z : Hn b with
  | some o2 =>
    rw [plus_new z] at e
    obtain rfl := Option.some.inj e
    exact new b o2 z
  | none =>
    rw [plus_old z] at e
    exact (I.hok b o e).stay (fun c v _ q => k c v q) (fun c q => stay q) fun c xs q => stay q
theorem inv_plus {pins : List (Addr × Obj)} {σ : L2.St} {H Hn : Hp} {s : Shared} {h' : Heap} {t' : Nat} (I : Inv X pins σ H s) (k : ∀ b u, s.heap.get? b = some u → h'.get? b = some u) (fr : ∀ b o, Hn b = some o → s.heap.objs.size ≤ b)
    (new : ∀ b o, Hn b = some o → ObjOk X.prog X.w (plus H Hn) h' b o) : Inv X pins σ (plus H Hn) { s with heap := h', toks := t' } :=
  inv_more I k (fun b o e => ⟨by
    cases z : s.heap.get? b with
    | none => rfl
    | some u => exact absurd (Heap.lt_size z) (Nat.not_lt.mpr (fr b o e)), I.hok.fresh (fr b o e)⟩) new
end
def pairV (x y : Str) (j : Nat) : HO := .tup [.str ⟨#[x.cps.getD j 0]⟩, .str ⟨#[y.cps.getD j 0]⟩]
/-- the pairs from place j on, at ps -/
def pairsH (x y : Str) : List Addr → Nat → Hp
  | [], _ => fun _ => none
  | p :: ps, j => fun b => if b = p then some (pairV x y j) else pairsH x y ps (j + 1) b
theorem pairsH_of {x y : Str} : ∀ {ps : List Addr} {j : Nat} {b : Addr} {o : HO}, pairsH x y ps j b = some o → ∃ i, ps[i]? = some b ∧ o = pairV x y (j + i)
  | [], _, _, _, h => nomatch h
  | p :: ps, j, b, o, h => by
    unfold pairsH at h
    by_cases e : b = p
    · rw [if_pos e] at h
      exact ⟨0, by rw [e]; rfl, (Option.some.inj h).symm⟩
    · rw [if_neg e] at h
      obtain ⟨i, h1, h2⟩ := pairsH_of h
      exact ⟨i + 1, h1, by rw [h2, show j + 1 + i = j + (i + 1) by omega]⟩
theorem pairsH_at {x y : Str} : ∀ {ps : List Addr} {j i : Nat} {b : Addr}, ps.Nodup → ps[i]? = some b → pairsH x y ps j b = some (pairV x y (j + i))
  | [], _, _, _, _, h => nomatch h
  | p :: ps, j, 0, b, _, h => by
    obtain rfl : p = b := Option.some.inj h
    exact if_pos rfl
  | p :: ps, j, i + 1, b, nd, h => by
    have h : ps[i]? = some b := h
    have nd2 := List.nodup_cons.mp nd
    have ne : b ≠ p := fun e => nd2.1 (by rw [← e]; exact List.mem_of_getElem? h)
    have r := pairsH_at (x := x) (y := y) (j := j + 1) nd2.2 h
    unfold pairsH
    rw [if_neg ne, r, show j + 1 + i = j + (i + 1) by omega]
/-- the new things of list(zip(x, y)) -/
def zipH (l : Addr) (ps : List Addr) (x y : Str) : Hp := fun b => if b = l then some (.lst (ps.map V.ref)) else pairsH x y ps 0 b
/-- list(zip(x, y)) -/
def tLzip (ta : TA) : TE := fun σ H Q => ta σ H fun vs H1 => ∃ x y : Str, vs = [.str x, .str y] ∧ min x.cps.size y.cps.size ≤ 4000 ∧
  ∀ (l : Addr) (ps : List Addr) (H' : Hp), ps.length = min x.cps.size y.cps.size → Same H1 H' → H1 l = none → H' l = some (.lst (ps.map V.ref)) → (∀ (j : Nat) (p : Addr), ps[j]? = some p → H1 p = none ∧ H' p = some (pairV x y j)) → Q (.ref l) H'
theorem refs_vals1 : ∀ ps : List Addr, Vals (ps.map V.ref) (ps.map Value.ref)
  | [] => .nil
  | _ :: ps => .cons rfl (refs_vals1 ps)
section
variable {X : Cx}
theorem pe_lzip {e1 e2 : Expr} {ta : TA} {p1 p2 q1 q2 : Pos} (hc : X.calm = true) (hl : Gl X "list") (ml : X.mg "list" = none) (hz : Gl X "zip") (mz : X.mg "zip" = none) (ha : PA X [e1, e2] ta)
    (na : starEach [Expr.Call (.Name "zip" p2) [e1, e2] [] q2] X.env = (false, eval (.Call (.Name "zip" p2) [e1, e2] [] q2) X.env) :: starEach [] X.env := by rfl)
    (he : starEach [e1, e2] X.env = (false, eval e1 X.env) :: starEach [e2] X.env := by rfl) (hpl : (backTo q2 (starEach [e2] X.env)).any (·.1) = false := by rfl) :
    PE X (.Call (.Name "list" p1) [.Call (.Name "zip" p2) [e1, e2] [] q2] [] q1) (tLzip ta) := by
  refine ⟨fun pins s σ H Q I h => ?_⟩
  refine Call_ (ld_blt I hl ml (show bootBuiltins "list" = some (.type "list") by decide +kernel) ?_)
  refine PyProof.Rows.callWith_type1 (PyProof.Rows.args_cons ?_ na) na rfl
  refine Call_ (ld_blt I hz mz (show bootBuiltins "zip" = some (.type "zip") by decide +kernel) ?_)
  refine PyProof.Rows.callWith_type1 (thn (ha.run _ pins s σ H _ I h) fun us s1 ⟨vs, H1, I1, r1, qq⟩ => ?_) he hpl
  obtain ⟨x, y, rfl, fit, q⟩ := qq
  obtain ⟨t, u, rfl⟩ : ∃ t u, us = [.str x t, .str y u] := by
    cases r1 with
    | cons a r =>
      cases r with
      | cons b r =>
        cases r
        obtain ⟨t, rfl⟩ := a
        obtain ⟨u, rfl⟩ := b
        exact ⟨t, u, rfl⟩
  refine zip_begins2 (begins_text x t) (begins_text y u) trivial trivial fun h' z1 z2 z3 z4 z5 z6 kk => ?_
  refine PyProof.Rows.args_nil ?_
  have hh0 : X.A.handled = none := I1.ok.hd hc
  have hh : X.A.in1.in1.in1.handled = none := by simp [hh0]
  have sep : ZipSep2 (s1.heap.objs.size + 4) (s1.heap.objs.size + 2) (s1.heap.objs.size + 3) s1.heap.objs.size (s1.heap.objs.size + 1) [s1.heap.objs.size] [s1.heap.objs.size + 1] := by
    constructor <;> first | (intro z; omega) | (simp; try omega)
  have Z : Zat (s1.heap.objs.size + 4) (s1.heap.objs.size + 2) (s1.heap.objs.size + 3) s1.heap.objs.size (s1.heap.objs.size + 1) (fun i h => h.IsStrIter s1.heap.objs.size (strIterType x) x t i) (fun i h => h.IsStrIter (s1.heap.objs.size + 1) (strIterType y) y u i) h' 0 [] :=
    ⟨z2, ⟨_, z4, rfl, rfl⟩, ⟨_, z5, rfl, rfl⟩, ⟨_, z3⟩, .inl ⟨z1, _, _, z3⟩⟩
  refine call_list_zip (s := { s1 with heap := h' }) (m := min x.cps.size y.cps.size) sep (Draws.text hh s1.heap.objs.size x t) (Draws.text hh (s1.heap.objs.size + 1) y u) (fun b hb => ?_) rfl (by rw [sizeLine_eq]; omega) Z z1 fun h2 tk out c len fr nd gv hd k => ?_
  · show b < h'.objs.size
    rw [z6]
    simp only [List.mem_cons, List.mem_append, List.not_mem_nil, or_false] at hb
    rcases hb with rfl | rfl | rfl | rfl | rfl <;> first | exact Nat.add_lt_add_left (by decide) _ | exact Nat.lt_add_of_pos_right (by decide)
  have fr : ∀ T ∈ out, h'.objs.size < T := fr
  have hd : h2.get? h'.objs.size = some (lsO out c) := hd
  rw [z6] at fr hd
  have keep : ∀ b o, s1.heap.get? b = some o → h2.get? b = some o := fun b o e => by
    have := Heap.lt_size e
    exact k b o (Nat.ne_of_lt (Nat.lt_of_lt_of_le this (Nat.le_add_right _ _))) (Nat.ne_of_lt (Nat.lt_of_lt_of_le this (Nat.le_add_right _ _))) (Nat.ne_of_lt this) (Nat.ne_of_lt (Nat.lt_of_lt_of_le this (Nat.le_add_right _ _))) (kk b o e)
  have nl : ∀ T ∈ out, T ≠ s1.heap.objs.size + 5 := fun T hT => Nat.ne_of_gt (fr T hT)
  have at_ : ∀ {j : Nat} {p : Addr}, out[j]? = some p → zipH (s1.heap.objs.size + 5) out x y p = some (pairV x y j) := fun {j p} e => by
    unfold zipH
    rw [if_neg (nl p (List.mem_of_getElem? e)), pairsH_at nd e, Nat.zero_add]
  have atl : zipH (s1.heap.objs.size + 5) out x y (s1.heap.objs.size + 5) = some (.lst (out.map V.ref)) := if_pos rfl
  have fresh : ∀ b o, zipH (s1.heap.objs.size + 5) out x y b = some o → s1.heap.objs.size ≤ b := fun b o e => by
    unfold zipH at e
    by_cases z : b = s1.heap.objs.size + 5
    · rw [z]
      exact Nat.le_add_right _ _
    · rw [if_neg z] at e
      obtain ⟨i, h1, _⟩ := pairsH_of e
      exact Nat.le_trans (Nat.le_add_right _ 5) (Nat.le_of_lt (fr b (List.mem_of_getElem? h1)))
  have J : Inv X pins σ (plus H1 (zipH (s1.heap.objs.size + 5) out x y)) { s1 with heap := h2, toks := tk } := inv_plus I1 keep fresh fun b o e => by
    unfold zipH at e
    by_cases z : b = s1.heap.objs.size + 5
    · rw [if_pos z] at e
      obtain rfl := Option.some.inj e
      refine ⟨by rw [List.length_map, len, sizeLine_eq]; omega, out.map Value.ref, c, refs_vals1 out, ?_⟩
      rw [z]
      exact hd
    · rw [if_neg z] at e
      obtain ⟨i, h1, rfl⟩ := pairsH_of e
      obtain ⟨_, _, ⟨c1, u1, g1, rfl⟩, ⟨c2, u2, g2, rfl⟩, tp⟩ := gv i b h1
      refine ⟨by rw [sizeLine_eq]; show 2 ≤ 16777216; decide, [.str ⟨#[c1]⟩ u1, .str ⟨#[c2]⟩ u2], ?_, ⟨_, tp, rfl, 0, rfl⟩⟩
      rw [Nat.zero_add, Array.getD_eq_getD_getElem?, Array.getD_eq_getD_getElem?, g1, g2]
      exact .cons ⟨u1, rfl⟩ (.cons ⟨u2, rfl⟩ .nil)
  have fn : ∀ {b o}, zipH (s1.heap.objs.size + 5) out x y b = some o → H1 b = none := fun e => I1.hok.fresh (fresh _ _ e)
  refine ⟨.ref (s1.heap.objs.size + 5), _, J, ?_, q _ out _ len (fun b o e => ?_) (fn atl) (plus_new atl) fun j p e => ⟨fn (at_ e), plus_new (at_ e)⟩⟩
  · show Value.ref h'.objs.size = _
    rw [z6]
  · refine (plus_old ?_).trans e
    cases z : zipH (s1.heap.objs.size + 5) out x y b with
    | none => rfl
    | some o2 =>
      rw [fn z] at e
      cases e
end
end Mo

/-! ### sets of tuples whose elements are of any kind of key: adding one -/
namespace Mo
open PySem PySem.Spec PyProof.Rows L2 PySem.Froz
/-- the probe after c steps -/
def stop (t : SetTable) (h : Int) (c : Nat) : SetTable.Probe := nth t.mask (runAt t.mask (SetTable.bits h % (t.mask + 1)) (SetTable.bits h)) c
theorem stop_more (t : SetTable) (h : Int) (c q : Nat) : nth t.mask (stop t h c) q = stop t h (c + q) := (nth_add t.mask c _ q).symm
theorem dummy_nth (m : Nat) : ∀ (n : Nat) {p : SetTable.Probe}, p.dummy = none → (nth m p n).dummy = none
  | 0, _, h => h
  | n + 1, p, h => dummy_nth m n (p := adv m p) (by unfold adv; split <;> exact h)
/-- what stands in a list is what its places hold, in any order -/
theorem all_places {α : Type} : ∀ L : List α, (List.range L.length).filterMap (fun i => L[i]?) = L
  | [] => rfl
  | a :: l => by
    rw [List.length_cons, List.range_succ_eq_map, List.filterMap_cons, List.filterMap_map]
    exact congrArg (a :: ·) (all_places l)
theorem reorder {α : Type} (f : α → Int × Value) {L : List α} {es : Array (Int × Value)} {ord : Array Nat} (he : es.toList = L.map f) (hp : ord.toList.Perm (List.range L.length)) :
    ∃ L2 : List α, (ord.filterMap (es[·]?)).toList = L2.map f ∧ L2.Perm L ∧ (L2.map fun p => (f p).1) = ord.toList.map fun i => (es.map (·.1)).getD i 0 := by
  have get : ∀ i, es[i]? = (L[i]?).map f := fun i => by rw [← Array.getElem?_toList, he, List.getElem?_map]
  refine ⟨ord.toList.filterMap fun i => L[i]?, ?_, ?_, ?_⟩
  · rw [Array.toList_filterMap, List.map_filterMap]
    exact congrArg (fun g => List.filterMap g ord.toList) (funext get)
  · have q := hp.filterMap fun i => L[i]?
    rw [all_places] at q
    exact q
  · have low : ∀ l : List Nat, (∀ i ∈ l, i < L.length) → ((l.filterMap fun i => L[i]?).map fun p => (f p).1) = l.map fun i => (es.map (·.1)).getD i 0 := by
      intro l
      induction l with
      | nil => exact fun _ => rfl
      | cons i l ih =>
        intro hl
        have e := List.getElem?_eq_getElem (hl i List.mem_cons_self)
        have e2 : (es.map (·.1)).getD i 0 = (f (L[i]'(hl i List.mem_cons_self))).1 := by
          rw [Array.getD_eq_getD_getElem?, Array.getElem?_map, get, e]
          rfl
        rw [List.filterMap_cons_some e, List.map_cons, List.map_cons, ih fun j hj => hl j (List.mem_cons_of_mem _ hj), e2]
    exact low _ fun i hi => List.mem_range.mp (hp.mem_iff.mp hi)
section
variable {P : Program} {w : World} {A : Around} {E : Value → Shared → Prop} {s : Shared} {κ : Type} [DecidableEq κ] {knd : KeyKind P w κ}
/-- what a search and an adding ask of the elements -/
structure Mild (knd : KeyKind P w κ) : Prop where
  cls : ∀ (k : κ) (v : Value) (n : Nat), knd.is k v = true → ofAClassStatement n v = pure false
  hby : ∀ (k : κ) (v : Value), knd.is k v = true → ∃ b : Bool, ∀ n, hashByValue n v = pure b
theorem str_mild : Mild (strKind P w) where
  cls := fun k v n h => by
    obtain ⟨t, rfl⟩ := Value.isStrOf_shape (x := k) (v := v) h
    cases n <;> rfl
  hby := fun k v h => by
    obtain ⟨t, rfl⟩ := Value.isStrOf_shape (x := k) (v := v) h
    exact ⟨false, fun n => by cases n <;> rfl⟩
theorem each_key {ks : List κ} {vs : List Value} (h : ItemsAre knd ks vs) : ∀ v ∈ vs, ∃ k, knd.is k v = true := by
  induction h with
  | nil => exact fun v hv => nomatch hv
  | cons h1 _ ih =>
    intro v hv
    rcases List.mem_cons.mp hv with e | hv
    · exact ⟨_, by rw [e]; exact h1⟩
    · exact ih v hv
theorem mild_cls (M : Mild knd) {ks : List κ} {b : Addr} {Q : Bool → Shared → Prop} (hk : IsTupleKey knd s.heap ks b) (q : Q false s) : wpAny (model P w) A (ofAClassStatement 8 (.ref b)) Q E s := by
  have ty := hk.typeIs
  obtain ⟨o, its, n, ho, _, hd, hi⟩ := hk
  unfold ofAClassStatement
  refine wpAny_bind (wpAny_typeOf ty ?_)
  dsimp only
  simp only [show (("tuple" : String) == "tuple") = true by decide, if_true, Bool.not_true, Bool.false_eq_true, if_false]
  try refine wpAny_bind (wpAny_pure ?_)
  try simp only [Bool.not_true, Bool.false_eq_true, if_false]
  show wpAny _ _ (seqItems? (.ref b) >>= _) _ _ s
  refine wpAny_bind (wpAny_seqItems ho hd (wpAny_bind ?_))
  show wpAny _ _ (forIn its _ _) _ _ s
  rw [← Array.forIn_toList]
  refine wpAny_forIn_list _ (fun left r s' => (r.1 = none ∧ s' = s) ∧ ∀ v ∈ left, ∃ k, knd.is k v = true) _ ?_ ?_ _ _ ⟨⟨rfl, rfl⟩, each_key hi⟩
  · rintro v left r s' ⟨⟨hr, rfl⟩, all⟩
    obtain ⟨k, hk⟩ := all v List.mem_cons_self
    rw [M.cls k v _ hk]
    refine wpAny_bind (wpAny_pure ?_)
    simp only [Bool.false_eq_true, if_false]
    exact wpAny_pure ⟨⟨rfl, rfl⟩, fun u hu => all u (List.mem_cons_of_mem _ hu)⟩
  · rintro ⟨r1, r2⟩ s' ⟨⟨hr, rfl⟩, _⟩
    simp only at hr
    subst hr
    exact wpAny_pure q
theorem mild_hby (M : Mild knd) {ks : List κ} {b : Addr} {Q : Bool → Shared → Prop} (hk : IsTupleKey knd s.heap ks b) (q : ∀ r, Q r s) : wpAny (model P w) A (hashByValue 8 (.ref b)) Q E s := by
  have ty := hk.typeIs
  obtain ⟨o, its, n, ho, _, hd, hi⟩ := hk
  unfold hashByValue
  refine wpAny_bind (wpAny_specialOf ty F.slot_tuple_hash.lookup ?_)
  show wpAny _ _ (seqItems? (.ref b) >>= _) _ _ s
  refine wpAny_bind (wpAny_seqItems ho hd (wpAny_bind ?_))
  show wpAny _ _ (forIn its _ _) _ _ s
  rw [← Array.forIn_toList]
  refine wpAny_forIn_list _ (fun left r s' => (r.1 = none ∧ s' = s) ∧ ∀ v ∈ left, ∃ k, knd.is k v = true) _ ?_ ?_ _ _ ⟨⟨rfl, rfl⟩, each_key hi⟩
  · rintro v left r s' ⟨⟨hr, rfl⟩, all⟩
    obtain ⟨k, hk⟩ := all v List.mem_cons_self
    obtain ⟨z, hz⟩ := M.hby k v hk
    rw [hz]
    refine wpAny_bind (wpAny_pure ?_)
    cases z with
    | true =>
      simp only [Bool.not_true, Bool.false_eq_true, if_false]
      exact wpAny_pure ⟨⟨rfl, rfl⟩, fun u hu => all u (List.mem_cons_of_mem _ hu)⟩
    | false =>
      simp only [Bool.not_false, if_true]
      exact wpAny_pure (wpAny_pure (q false))
  · rintro ⟨r1, r2⟩ s' ⟨⟨hr, rfl⟩, _⟩
    simp only at hr
    subst hr
    exact wpAny_pure (q true)
/-- a search among such tuples shows nothing of the table -/
theorem mild_seen (M : Mild knd) {ks : List κ} {b : Addr} {Q : Bool → Shared → Prop} (hk : IsTupleKey knd s.heap ks b) {ys : List Value} (hy : ∀ y ∈ ys, ∃ ls c, y = Value.ref c ∧ IsTupleKey knd s.heap ls c) (q : Q false s) :
    wpAny (model P w) A (searchCouldBeSeen (.ref b) ys) Q E s := by
  unfold searchCouldBeSeen
  refine wpAny_bind (wpAny_forIn_list _ (fun left r s' => (r.1 = none ∧ s' = s) ∧ ∀ y ∈ left, ∃ ls c, y = Value.ref c ∧ IsTupleKey knd s.heap ls c) _ ?_ ?_ _ _ ⟨⟨rfl, rfl⟩, hy⟩)
  · rintro v left r s' ⟨⟨hr, rfl⟩, all⟩
    obtain ⟨ls, c, rfl, hc⟩ := all v List.mem_cons_self
    have on : ∀ y ∈ left, ∃ ls c, y = Value.ref c ∧ IsTupleKey knd s'.heap ls c := fun u hu => all u (List.mem_cons_of_mem _ hu)
    dsimp only
    by_cases hv : (b == c || (carriedByValue (.ref b) && carriedByValue (.ref c))) = true
    · exact wp_if_pos hv (wpAny_pure ⟨⟨rfl, rfl⟩, on⟩)
    · refine wp_if_neg hv (wpAny_bind (wpAny_eqIsQuiet_tuple hk ?_))
      simp only [Bool.not_true, Bool.false_eq_true, if_false]
      refine wpAny_bind (wpAny_eqIsQuiet_tuple hc ?_)
      simp only [Bool.not_true, Bool.false_eq_true, if_false]
      refine wpAny_bind (mild_cls M hk ?_)
      simp only [Bool.false_eq_true, if_false]
      refine wpAny_bind (mild_cls M hc ?_)
      simp only [Bool.false_eq_true, if_false]
      exact wpAny_pure ⟨⟨rfl, rfl⟩, on⟩
  · rintro ⟨r1, r2⟩ s' ⟨⟨hr, rfl⟩, _⟩
    simp only at hr
    subst hr
    exact wpAny_pure q
/-- a set of such tuples: where they stand and their keys, in the set's own order -/
structure Tps (knd : KeyKind P w κ) (h : Heap) (a : Addr) (L : List (Addr × List κ)) (es : Array (Int × Value)) (ep : Nat) (t : SetTable) : Prop where
  obj : ∃ o, h.get? a = some o ∧ o.ExactSet ∧ o.data = .set es ep t
  ent : es.toList = L.map fun p => (tupleKeyHash knd p.2, Value.ref p.1)
  tab : TabOk t (L.map fun p => tupleKeyHash knd p.2)
  one : (L.map (·.2)).Nodup
  here : ∀ p ∈ L, IsTupleKey knd h p.2 p.1
  led : w.params.followText "set-order" = true ∨ t.led = true
  low : L.length * 5 < t.mask * 3
  few : L.length < 64
variable {a : Addr} {L : List (Addr × List κ)} {es : Array (Int × Value)} {ep : Nat} {t : SetTable}
theorem ent_size {f : Addr × List κ → Int × Value} (h : es.toList = L.map f) : es.size = L.length := by
  rw [← Array.length_toList, h, List.length_map]
theorem tab_fits {hs : List Int} (T : TabOk t hs) (e : es.size = hs.length) (l : hs.length ≤ t.mask) : t.fits es.size = true := by
  have h1 := T.sz
  unfold SetTable.fits SetTable.fill
  rw [T.dm, Bool.and_eq_true, beq_iff_eq, decide_eq_true_eq]
  refine ⟨by omega, ?_⟩
  show t.place.size + 0 ≤ t.mask
  omega
theorem Tps.fits (R : Tps knd s.heap a L es ep t) : t.fits es.size = true := by
  have := R.low
  exact tab_fits R.tab (by rw [ent_size R.ent, List.length_map]) (by rw [List.length_map]; omega)
theorem Tps.at (R : Tps knd s.heap a L es ep t) {i : Nat} {p : Addr × List κ} (h : L[i]? = some p) : es[i]? = some (tupleKeyHash knd p.2, Value.ref p.1) := by
  rw [← Array.getElem?_toList, R.ent, List.getElem?_map, h]
  rfl
theorem Tps.stays (R : Tps knd s.heap a L es ep t) : ¬ t.gaveWay = true := by
  unfold SetTable.gaveWay
  rw [mask_odd R.tab.mok]
  decide
/-- the search for a key, from the c-th step on: the first empty place is that of step K -/
theorem seek (M : Mild knd) (R : Tps knd s.heap a L es ep t) {x : Addr} {k : List κ} (hx : IsTupleKey knd s.heap k x) (hu : A.units < cLine) {K : Nat} (kf : K < 10 * SetTable.turns t.mask)
    (ke : (stop t (tupleKeyHash knd k) K).j ∉ t.place.toList) (kb : ∀ c, c < K → (stop t (tupleKeyHash knd k) c).j ∈ t.place.toList) {Q : SetFound → Shared → Prop}
    (yes : k ∈ L.map (·.2) → Q (.there none) s) (no : k ∉ L.map (·.2) → Q (.free (stop t (tupleKeyHash knd k) K).j false) s) (f : Nat) :
    ∀ (c : Nat) (b : Option SetTable.Probe), b.getD (t.probeStart (tupleKeyHash knd k)) = stop t (tupleKeyHash knd k) c → c ≤ K → K < c + f →
      (∀ (i : Nat) p, L[i]? = some p → p.2 = k → ∃ c', c ≤ c' ∧ c' < K ∧ t.place.toList[i]? = some (stop t (tupleKeyHash knd k) c').j) →
      wpAny (model P w) A (setSearchFrom a (.ref x) (tupleKeyHash knd k) true f b) Q E s := by
  induction f with
  | zero => intro c b _ h1 h2; omega
  | succ f ih =>
    intro c b hb hc hf left
    obtain ⟨o, ho, hex, hd⟩ := R.obj
    have hash : ∀ (i : Nat) p, L[i]? = some p → (es[i]?.map (·.1)).getD 0 = tupleKeyHash knd p.2 := fun i p hp => by
      rw [R.at hp]
      rfl
    have live : ∀ {i : Nat} {j : Nat}, t.place.toList[i]? = some j → t.slot j = .live i := fun z => slot_live R.tab.ris z
    have spec := go_spec t R.tab.ris R.tab.dm (fun i => (es[i]?.map (·.1)).getD 0) (tupleKeyHash knd k) (10 * SetTable.turns t.mask) (K - c) (stop t (tupleKeyHash knd k) c) (dummy_nth _ _ rfl) (by omega)
      (fun q hq => by rw [stop_more]; exact kb _ (by omega)) (by rw [stop_more, show c + (K - c) = K by omega]; exact ke)
    simp only [stop_more] at spec
    rw [setSearchFrom_succ]
    refine wpAny_bind (wpAny_setState_of ho hd R.fits ?_)
    dsimp only
    refine wp_if_neg R.stays ?_
    try refine wpAny_bind (wpAny_pure ?_)
    rw [hb]
    rcases spec with ⟨q, i, hq, hi, he, first, pr⟩ | ⟨first, pr⟩
    · have pr : t.probe (fun i => (es[i]?.map (·.1)).getD 0) (tupleKeyHash knd k) (stop t (tupleKeyHash knd k) c) = some (.candidate (stop t (tupleKeyHash knd k) (c + q)).j i (stop t (tupleKeyHash knd k) (c + (q + 1)))) := pr
      rw [pr]
      dsimp only
      have hiL : i < L.length := by
        have h1 := (List.getElem?_eq_some_iff.mp hi).1
        have h2 := R.tab.sz
        rw [List.length_map] at h2
        rw [Array.length_toList] at h1
        omega
      obtain ⟨p, hp⟩ : ∃ p, L[i]? = some p := ⟨_, List.getElem?_eq_getElem hiL⟩
      have pin := List.mem_of_getElem? hp
      have on : wpAny (model P w) A (searchRest a (.ref x) (tupleKeyHash knd k) true f es t (stop t (tupleKeyHash knd k) (c + q)).j i (stop t (tupleKeyHash knd k) (c + (q + 1)))) Q E s := by
        unfold searchRest
        rw [R.at hp]
        refine wpAny_bind (wpAny_holding (wpAny_eqBool_tuple hu (R.here p pin) hx (wpAny_bind (wpAny_setState_of ho hd R.fits ?_))))
        dsimp only
        by_cases same : p.2 = k
        · exact wp_if_pos (by simp [same]) (wpAny_pure (yes (List.mem_map.mpr ⟨p, pin, same⟩)))
        refine wp_if_neg (by simp [same]) ?_
        try refine wpAny_bind (wpAny_pure ?_)
        rw [sameMem]
        dsimp only
        simp only [if_true, live hi, R.at hp]
        refine wpAny_bind (wpAny_isSame_ref_self (wpAny_bind (wpAny_pure ?_)))
        simp only [if_true]
        refine wp_if_neg (by simp [same]) (ih (c + (q + 1)) _ rfl (by omega) (by omega) fun i2 p2 h2 e2 => ?_)
        obtain ⟨c', l1, l2, l3⟩ := left i2 p2 h2 e2
        refine ⟨c', ?_, l2, l3⟩
        rcases Nat.lt_trichotomy c' (c + q) with z | z | z
        · refine absurd ((hash i2 p2 h2).trans (congrArg (tupleKeyHash knd) e2)) (first (c' - c) i2 (by omega) ?_)
          rw [show c + (c' - c) = c' by omega]
          exact l3
        · rw [z] at l3
          have u := (live hi).symm.trans (live l3)
          injection u with u
          rw [← u, hp] at h2
          exact absurd ((congrArg Prod.snd (Option.some.inj h2)).trans e2) same
        · omega
      by_cases hl : t.led = true
      · refine wp_if_neg (by simp [hl]) ?_
        try refine wpAny_bind (wpAny_pure ?_)
        exact on
      · refine wp_if_pos (by simp [hl]) (wpAny_bind (mild_seen M hx (fun y hy => ?_) ?_))
        · obtain ⟨e, e1, e2⟩ := List.mem_map.mp hy
          have e3 : e ∈ es.toList := by
            have : e ∈ es ∧ e.1 = tupleKeyHash knd k := by simpa using e1
            simpa using this.1
          rw [R.ent] at e3
          obtain ⟨p2, m2, rfl⟩ := List.mem_map.mp e3
          exact ⟨p2.2, p2.1, e2.symm, R.here p2 m2⟩
        · refine wp_if_neg (by decide) ?_
          try refine wpAny_bind (wpAny_pure ?_)
          exact on
    · rw [show c + (K - c) = K by omega] at pr
      have pr : t.probe (fun i => (es[i]?.map (·.1)).getD 0) (tupleKeyHash knd k) (stop t (tupleKeyHash knd k) c) = some (.empty (stop t (tupleKeyHash knd k) K).j none) := pr
      rw [pr]
      refine wpAny_pure (no fun hm => ?_)
      obtain ⟨p2, m2, e2⟩ := List.mem_map.mp hm
      obtain ⟨i2, h2⟩ := List.getElem?_of_mem m2
      obtain ⟨c', l1, l2, l3⟩ := left i2 p2 h2 e2
      refine first (c' - c) i2 (by omega) ?_ ((hash i2 p2 h2).trans (congrArg (tupleKeyHash knd) e2))
      rw [show c + (c' - c) = c' by omega]
      exact l3
/-- the search, as adding asks for it -/
theorem seek_all (M : Mild knd) (R : Tps knd s.heap a L es ep t) {x : Addr} {k : List κ} (hx : IsTupleKey knd s.heap k x) (hu : A.units < cLine) {Q : SetFound → Shared → Prop}
    (yes : k ∈ L.map (·.2) → Q (.there none) s)
    (no : ∀ K, k ∉ L.map (·.2) → way t.mask (tupleKeyHash knd k) K ∉ t.place.toList → (∀ c, c < K → way t.mask (tupleKeyHash knd k) c ∈ t.place.toList) → Q (.free (way t.mask (tupleKeyHash knd k) K) false) s) :
    wpAny (model P w) A (setSearch a (.ref x) (tupleKeyHash knd k) true) Q E s := by
  have low := R.low
  obtain ⟨K, kf, ke, kb⟩ := R.tab.first (by rw [List.length_map]; omega) (tupleKeyHash knd k)
  have big : 10 * SetTable.turns t.mask ≤ 1420 := by
    unfold SetTable.turns
    rcases R.tab.mok with e | e | e <;> omega
  unfold setSearch
  refine seek M R hx hu kf ke kb yes (fun z => no K z ke kb) 100000 0 none rfl (Nat.zero_le _) (by omega) fun i p hp e => ?_
  have hi : i < t.place.toList.length := by
    have h1 := (List.getElem?_eq_some_iff.mp hp).1
    have h2 := R.tab.sz
    rw [List.length_map] at h2
    rw [Array.length_toList]
    omega
  obtain ⟨c, c1, c2⟩ := R.tab.before ke (show (L.map fun p => tupleKeyHash knd p.2)[i]? = some (tupleKeyHash knd k) by rw [List.getElem?_map, hp, ← e]; rfl) (List.getElem?_eq_getElem hi)
  exact ⟨c, Nat.zero_le _, c1, by rw [List.getElem?_eq_getElem hi]; exact congrArg some c2.symm⟩
end
end Mo

/-! ### sets of tuples whose elements are of any kind of key: adding -/
namespace Mo
open PySem PySem.Spec PyProof.Rows L2 PySem.Froz
section
variable {P : Program} {w : World} {A : Around} {E : Value → Shared → Prop} {s : Shared} {κ : Type} [DecidableEq κ] {knd : KeyKind P w κ}
variable {a : Addr} {L : List (Addr × List κ)} {es : Array (Int × Value)} {ep : Nat} {t : SetTable}
/-- a tuple stays where another object is written -/
theorem key_but {h h' : Heap} {ks : List κ} {a b : Addr} {o : Obj} (x : IsTupleKey knd h ks b) (ho : h.get? a = some o) (hd : o.data = .set es ep t) (sb : Heap.SameBut a h h') : IsTupleKey knd h' ks b := by
  obtain ⟨o2, its, n, g, c, d, i⟩ := x
  have ne : b ≠ a := fun z => by
    rw [z, ho] at g
    rw [← Option.some.inj g, hd] at d
    cases d
  exact ⟨o2, its, n, (sb.2 b ne).trans g, c, d, i⟩
theorem key_kept {h h' : Heap} {ks : List κ} {b : Addr} (x : IsTupleKey knd h ks b) (k : ∀ c o, h.get? c = some o → h'.get? c = some o) : IsTupleKey knd h' ks b := by
  obtain ⟨o, its, n, g, r⟩ := x
  exact ⟨o, its, n, k _ _ g, r⟩
theorem Tps.kept {h h' : Heap} (R : Tps knd h a L es ep t) (k : ∀ o, h.get? a = some o → h'.get? a = some o) (hp : ∀ p ∈ L, IsTupleKey knd h' p.2 p.1) : Tps knd h' a L es ep t := by
  obtain ⟨⟨o, ho, r⟩, r1, r2, r3, _, r5, r6, r7⟩ := R
  exact ⟨⟨o, k _ ho, r⟩, r1, r2, r3, hp, r5, r6, r7⟩
/-- the table laid anew -/
theorem lay_anew {o : Obj} (ho : s.heap.get? a = some o) (hex : o.ExactSet) (hd : o.data = .set es ep t) (he : es.toList = L.map fun p => (tupleKeyHash knd p.2, Value.ref p.1)) (T : TabOk t (L.map fun p => tupleKeyHash knd p.2)) (hle : L.length ≤ t.mask)
    (one : (L.map (·.2)).Nodup) (here : ∀ p ∈ L, IsTupleKey knd s.heap p.2 p.1) (led : w.params.followText "set-order" = true ∨ t.led = true) (few : L.length < 64) {wanted m : Nat}
    (hw : SetTable.sizeAbove wanted - 1 = m) (hm : MaskOk m) (hs : SetTable.sizeAbove wanted ≤ 128) (low : L.length * 5 < m * 3) {Q : Unit → Shared → Prop}
    (q : ∀ h' L' es' ep' t', Heap.SameBut a s.heap h' → Tps knd h' a L' es' ep' t' → L'.Perm L → Q () { s with heap := h' }) : wpAny (model P w) A (setRelay a wanted) Q E s := by
  have n1 : es.size = L.length := ent_size he
  obtain ⟨t', ord, e, hp, T', e1, e2, _, _⟩ := relaid_ok t (hs := es.map (·.1)) hw hm (by rw [Array.size_map, n1]; omega)
  rw [Array.size_map, n1] at hp
  obtain ⟨L2, r1, r2, r3⟩ := reorder _ he hp
  rw [← r3] at T'
  have n2 : (ord.filterMap (es[·]?)).size = L.length := by rw [ent_size r1, r2.length_eq]
  rw [setRelay_eq]
  refine wpAny_bind (wpAny_setState_of ho hd (tab_fits T (by rw [n1, List.length_map]) (by rw [List.length_map]; exact hle)) ?_)
  dsimp only
  refine wp_if_neg (by rw [sizeLine_eq]; omega) ?_
  try refine wpAny_bind (wpAny_pure ?_)
  rw [e]
  dsimp only
  refine wpAny_bind (wp_if_neg (by rw [n2, n1]; simp) ?_)
  try refine wpAny_bind (wpAny_pure ?_)
  refine wpAny_pure (wpAny_storeSet_of ho hd ?_ (by rw [n2, sizeLine_eq]; omega))
  have sb : Heap.SameBut a s.heap (s.heap.update a (Obj.putSet (ord.filterMap (es[·]?)) t')) := Heap.SameBut.update ..
  exact q _ L2 _ (ep + 1) t' sb ⟨⟨_, store_at ho hd, ⟨hex.1, hex.2.1, hex.2.2⟩, rfl⟩, r1, T', (r2.map (·.2)).nodup_iff.mpr one, fun p h => key_but (here p (r2.mem_iff.mp h)) ho hd sb, by rw [e2]; exact led, by rw [r2.length_eq, e1]; exact low,
    by rw [r2.length_eq]; exact few⟩ r2
/-- one is added -/
theorem put_one (M : Mild knd) (R : Tps knd s.heap a L es ep t) {x : Addr} {k : List κ} (hx : IsTupleKey knd s.heap k x) (hu : A.units < cLine) (few : L.length + 1 < 64) {Q : Bool → Shared → Prop}
    (q : ∀ b h' L' es' ep' t', Heap.SameBut a s.heap h' → Tps knd h' a L' es' ep' t' → (k ∈ L.map (·.2) → L' = L) → (k ∉ L.map (·.2) → L'.Perm ((x, k) :: L)) → Q b { s with heap := h' }) :
    wpAny (model P w) A (setAddHashed a (.ref x) (tupleKeyHash knd k)) Q E s := by
  obtain ⟨o, ho, hex, hd⟩ := R.obj
  have n1 : es.size = L.length := ent_size R.ent
  have low := R.low
  unfold setAddHashed
  refine wpAny_holding ?_
  rw [show (100000 : Nat) = 99999 + 1 from rfl, setAddHashedIn_succ]
  refine wpAny_bind (wpAny_setState_of ho hd R.fits ?_)
  dsimp only
  refine wp_if_neg (by simp [byScan, Value.scannable]) ?_
  try refine wpAny_bind (wpAny_pure ?_)
  refine wpAny_bind (seek_all M R hx hu (fun old => wpAny_pure (q false s.heap L es ep t (Heap.SameBut.refl a s.heap) R (fun _ => rfl) fun z => absurd old z)) fun K new ke kb => ?_)
  dsimp only
  refine wpAny_bind (wpAny_setState_of ho hd R.fits ?_)
  dsimp only
  obtain ⟨p1, p2, p3, p4, p5, p6, p7, p8, p9⟩ := R.tab.put ke kb
  clear p6 p7 p8
  generalize t.put (way t.mask (tupleKeyHash knd k) K) = put at p1 p3 p4 p5 p9 ⊢
  obtain ⟨u, v⟩ := put
  dsimp only at p1 p3 p4 p5 p9 ⊢
  subst p1
  -- whether its hash is by value
  have ask : ∀ {F : Bool → Sem Bool}, (∀ r, wpAny (model P w) A (F r) Q E s) → wpAny (model P w) A (if u.plain = true then hashByValue 8 (.ref x) >>= F else pure true >>= F) Q E s := fun {F} hF => by
    by_cases z : u.plain = true
    · exact wp_if_pos z (wpAny_bind (mild_hby M hx hF))
    · exact wp_if_neg z (wpAny_bind (wpAny_pure (hF true)))
  refine ask fun r => ?_
  have same : ∃ u2 : SetTable, (if r = true then u else { u with plain := false }) = u2 ∧ TabOk u2 ((L.map fun p => tupleKeyHash knd p.2).take (SetTable.below t.place (way t.mask (tupleKeyHash knd k) K)) ++ tupleKeyHash knd k :: (L.map fun p => tupleKeyHash knd p.2).drop (SetTable.below t.place (way t.mask (tupleKeyHash knd k) K))) ∧
      u2.mask = u.mask ∧ u2.led = u.led ∧ u2.tooFull = u.tooFull := by
    cases r with
    | true => exact ⟨_, rfl, p3, rfl, rfl, rfl⟩
    | false => exact ⟨_, rfl, ⟨p3.ris, p3.dm, p3.sz, p3.mok, p3.bd, p3.reach⟩, rfl, rfl, rfl⟩
  obtain ⟨u2, e2, T2, m2, l2, f2⟩ := same
  rw [e2]
  generalize hpl : SetTable.below t.place (way t.mask (tupleKeyHash knd k) K) = pl at p2 T2 ⊢
  obtain ⟨L1, hL1⟩ : ∃ L1, L1 = L.take pl ++ (x, k) :: L.drop pl := ⟨_, rfl⟩
  have pm : L1.Perm ((x, k) :: L) := by
    rw [hL1]
    exact put_perm L pl (x, k)
  have hs1 : (L.map fun p => tupleKeyHash knd p.2).take pl ++ tupleKeyHash knd k :: (L.map fun p => tupleKeyHash knd p.2).drop pl = L1.map fun p => tupleKeyHash knd p.2 := by
    rw [hL1, List.map_append, List.map_cons, List.map_take, List.map_drop]
  rw [hs1] at T2
  have he1 : (SetTable.insertAt es pl (tupleKeyHash knd k, Value.ref x)).toList = L1.map fun p => (tupleKeyHash knd p.2, Value.ref p.1) := by
    rw [SetTable.toList_insertAt, R.ent, hL1, List.map_append, List.map_cons, List.map_take, List.map_drop]
  have one1 : (L1.map (·.2)).Nodup := by
    refine (pm.map (·.2)).nodup_iff.mpr ?_
    rw [List.map_cons]
    exact List.nodup_cons.mpr ⟨new, R.one⟩
  have len1 : L1.length = L.length + 1 := pm.length_eq
  have n2 := ent_size he1
  clear hL1 hs1 p3
  generalize SetTable.insertAt es pl (tupleKeyHash knd k, Value.ref x) = es1 at he1 n2 ⊢
  refine wpAny_bind (wpAny_storeSet_of ho hd ?_ (by rw [n2, len1, sizeLine_eq]; omega))
  have sb : Heap.SameBut a s.heap (s.heap.update a (Obj.putSet es1 u2)) := Heap.SameBut.update ..
  have ho1 := store_at (es' := es1) (t' := u2) ho hd
  have here1 : ∀ p ∈ L1, IsTupleKey knd (s.heap.update a (Obj.putSet es1 u2)) p.2 p.1 := fun p hp => by
    rcases List.mem_cons.mp (pm.mem_iff.mp hp) with e | hp
    · rw [e]
      exact key_but hx ho hd sb
    · exact key_but (R.here p hp) ho hd sb
  generalize s.heap.update a (Obj.putSet es1 u2) = h1 at sb ho1 here1 ⊢
  have led1 : w.params.followText "set-order" = true ∨ u2.led = true := by
    rw [l2, p5]
    exact R.led
  have full : u2.tooFull = decide ((L.length + 1) * 5 ≥ t.mask * 3) := by
    rw [f2]
    unfold SetTable.tooFull
    rw [p9, p4, List.length_map]
  by_cases hf : u2.tooFull = true
  · have hf2 := hf
    rw [full, decide_eq_true_eq] at hf2
    have at_ : (t.mask = 7 ∧ L.length = 4) ∨ (t.mask = 31 ∧ L.length = 18) := by
      rcases R.tab.mok with e | e | e
      · left; rw [e] at hf2 low; exact ⟨e, by omega⟩
      · right; rw [e] at hf2 low; exact ⟨e, by omega⟩
      · rw [e] at hf2; omega
    have grown : ∃ m, SetTable.sizeAbove (SetTable.grown (es.size + 1)) - 1 = m ∧ MaskOk m ∧ SetTable.sizeAbove (SetTable.grown (es.size + 1)) ≤ 128 ∧ L1.length * 5 < m * 3 := by
      rw [n1, len1]
      rcases at_ with ⟨_, e⟩ | ⟨_, e⟩
      · rw [e, size_20]
        exact ⟨31, rfl, .inr (.inl rfl), by decide, by decide⟩
      · rw [e, size_76]
        exact ⟨127, rfl, .inr (.inr rfl), by decide, by decide⟩
    obtain ⟨m, g1, g2, g3, g4⟩ := grown
    refine wp_if_pos (by simp [hf]) (wpAny_bind ?_)
    refine lay_anew (s := { s with heap := h1 }) ho1 ⟨hex.1, hex.2.1, hex.2.2⟩ rfl he1 T2 (by rw [m2, p4, len1]; omega) one1 here1 led1 (by omega) g1 g2 g3 g4 fun h2 L2 es2 ep2 t2 sb2 R2 pm2 => ?_
    exact wpAny_pure (q true h2 L2 es2 ep2 t2 (sb.trans sb2) R2 (fun z => absurd z new) fun _ => pm2.trans pm)
  · refine wp_if_neg (by simp [hf]) ?_
    try refine wpAny_bind (wpAny_pure ?_)
    refine wpAny_pure (q true h1 L1 es1 (ep + 1) u2 sb ⟨⟨_, ho1, ⟨hex.1, hex.2.1, hex.2.2⟩, rfl⟩, he1, T2, one1, here1, led1, ?_, by omega⟩ (fun z => absurd z new) fun _ => pm)
    rw [full, decide_eq_true_eq] at hf
    rw [m2, p4, len1]
    omega
end
end Mo

/-! ### set(a list of tuples whose elements are of any kind of key) -/
namespace Mo
open PySem PySem.Spec PyProof.Rows L2 PySem.Froz
/-- L: of each key of ks one -/
structure Has {κ : Type} (ks L : List (Addr × List κ)) : Prop where
  of : ∀ p ∈ L, p ∈ ks
  all : ∀ p ∈ ks, p.2 ∈ L.map (·.2)
  len : L.length ≤ ks.length
theorem Has.nil {κ : Type} : Has (κ := κ) [] [] := ⟨fun _ h => h, fun _ h => absurd h List.not_mem_nil, Nat.le_refl _⟩
theorem Has.old {κ : Type} {ks L : List (Addr × List κ)} {x : Addr × List κ} (h : Has ks L) (e : x.2 ∈ L.map (·.2)) : Has (ks ++ [x]) L := by
  refine ⟨fun p hp => List.mem_append_left _ (h.of p hp), fun p hp => ?_, by rw [List.length_append]; exact Nat.le_trans h.len (Nat.le_add_right _ _)⟩
  rcases List.mem_append.mp hp with z | z
  · exact h.all p z
  · rw [List.mem_singleton.mp z]
    exact e
theorem Has.new {κ : Type} {ks L L2 : List (Addr × List κ)} {x : Addr × List κ} (h : Has ks L) (pm : L2.Perm (x :: L)) : Has (ks ++ [x]) L2 := by
  refine ⟨fun p hp => ?_, fun p hp => (pm.map (·.2)).mem_iff.mpr ?_, by rw [pm.length_eq, List.length_append]; exact Nat.succ_le_succ h.len⟩
  · rcases List.mem_cons.mp (pm.mem_iff.mp hp) with z | z
    · exact List.mem_append_right _ (List.mem_singleton.mpr z)
    · exact List.mem_append_left _ (h.of p z)
  · rw [List.map_cons]
    rcases List.mem_append.mp hp with z | z
    · exact List.mem_cons_of_mem _ (h.all p z)
    · rw [List.mem_singleton.mp z]
      exact List.mem_cons_self
section
variable {P : Program} {w : World} {A : Around} {E : Value → Shared → Prop} {s : Shared} {κ : Type} [DecidableEq κ] {knd : KeyKind P w κ}
variable {a : Addr} {L : List (Addr × List κ)} {es : Array (Int × Value)} {ep : Nat} {t : SetTable}
theorem tps_fresh {h : Heap} {a : Addr} (e : h.get? a = some { cls := .type "set", dict := none, data := .set #[] 0 (.fresh 0 0 (!w.params.followText "set-order")) }) : Tps knd h a [] #[] 0 (.fresh 0 0 (!w.params.followText "set-order")) := by
  refine ⟨⟨_, e, ⟨rfl, rfl, rfl⟩, rfl⟩, rfl, ⟨List.Pairwise.nil, rfl, rfl, .inl rfl, fun _ hx => absurd hx List.not_mem_nil, fun i h j hi => nomatch hi⟩, List.nodup_nil, fun _ hp => absurd hp List.not_mem_nil, ?_, show 0 * 5 < 7 * 3 by decide, show 0 < 64 by decide⟩
  show _ ∨ (!w.params.followText "set-order") = true
  cases w.params.followText "set-order"
  · exact .inr rfl
  · exact .inl rfl
theorem kset_loop (M : Mild knd) {I : Addr} {fp wr : List Addr} {G : Array GenState → Array GenState → Prop} {n : Nat} {Pv : Nat → Value → Prop} {St : Nat → Shared → Prop} {R : Result → Shared → Prop}
    (W : WalksS P w A.in1 I fp wr G n Pv St) (D : Addr) (hD : D ∉ fp) (ks : List (Addr × List κ)) (hn : n = ks.length) (hb : ks.length < 64) (hu : A.in1.units < cLine)
    (hval : ∀ i v, Pv i v → ∃ p, ks[i]? = some p ∧ v = .ref p.1) (h0 : Heap) (hks : ∀ p ∈ ks, IsTupleKey knd h0 p.2 p.1) (nD : h0.get? D = none) (nw : ∀ b ∈ wr, h0.get? b = none) :
    ∀ (k i : Nat) (s : Shared), n - i = k → i ≤ n → St i s → (∀ b o, h0.get? b = some o → s.heap.get? b = some o) → (∃ L es ep t, Tps knd s.heap D L es ep t ∧ Has (ks.take i) L) →
      (∀ s' L es ep t, Moved (D :: wr) G s s' → (∀ b o, h0.get? b = some o → s'.heap.get? b = some o) → Tps knd s'.heap D L es ep t → Has ks L → R (.ok (.ret .none)) s') →
      codeAny (model P w) A (.builtin "set.update.loop" ⟨[.ref D, .ref I], []⟩) R s := by
  have hDw : D ∉ wr := fun h => hD (W.sub _ h)
  have up : ∀ b ∈ wr, b ∈ D :: wr := fun b q => List.mem_cons_of_mem _ q
  have on : ∀ {s s' : Shared}, Moved wr G s s' → (∀ b o, h0.get? b = some o → s.heap.get? b = some o) → ∀ b o, h0.get? b = some o → s'.heap.get? b = some o := fun m z b o e =>
    m.heap b o (fun hb => by rw [nw b hb] at e; cases e) (z b o e)
  have keys : ∀ {h : Heap}, (∀ b o, h0.get? b = some o → h.get? b = some o) → ∀ p ∈ ks, IsTupleKey knd h p.2 p.1 := fun z p hp => key_kept (hks p hp) z
  intro k
  induction k with
  | zero =>
    intro i s hk hi hst hz hS hR
    obtain rfl : i = n := by omega
    obtain ⟨L, es, ep, t, T, g⟩ := hS
    rw [List.take_of_length_le (by omega)] at g
    refine codeAny_builtin PyProof.Rows.F.entry_set_update_loop (by
      rw [Around.under_plainId PyProof.Rows.F.plain_set_update_loop _]
      show wpAny _ A.in1 (pyNext (.ref I) >>= _) _ _ s
      refine wpAny_bind (W.done s _ _ hst fun s' hm => wpAny_pure (hR s' L es ep t (hm.mono up) (on hm hz) ?_ g))
      exact T.kept (fun o ho => hm.heap D o hDw ho) fun p hp => keys (on hm hz) p (g.of p hp))
  | succ k ih =>
    intro i s hk hi hst hz hS hR
    have hlt : i < n := by omega
    obtain ⟨L, es, ep, t, T, g⟩ := hS
    refine codeAny_builtin PyProof.Rows.F.entry_set_update_loop (by
      rw [Around.under_plainId PyProof.Rows.F.plain_set_update_loop _]
      show wpAny _ A.in1 (pyNext (.ref I) >>= _) _ _ s
      refine wpAny_bind (W.item i s _ _ hlt hst fun v s' hP hst' hm => ?_)
      obtain ⟨p, hp, rfl⟩ := hval i v hP
      have z1 := on hm hz
      have pin := List.mem_of_getElem? hp
      have e3 : ks.take (i + 1) = ks.take i ++ [p] := by
        rw [List.take_add_one, hp]
        rfl
      have T1 : Tps knd s'.heap D L es ep t := T.kept (fun o ho => hm.heap D o hDw ho) fun p hp => keys z1 p (List.mem_of_mem_take (g.of p hp))
      have ll : L.length ≤ i := Nat.le_trans g.len (by rw [List.length_take]; omega)
      show wpAny _ A.in1 (holding [Value.ref p.1] (setAdd D (.ref p.1)) >>= _) _ _ s'
      refine wpAny_bind (wpAny_holding (by
        unfold setAdd
        refine wpAny_holding (wpAny_bind ((tupleKind knd).pyHash (k := p.2) hu (keys z1 p pin) ?_))
        refine put_one M (s := { s' with toks := s'.toks + (tupleKind knd).draws p.2 }) T1 (keys z1 p pin) hu (by omega) fun b h' L2 es2 ep2 t2 sb T2 q1 q2 => ?_
        have g2 : Has (ks.take (i + 1)) L2 := by
          rw [e3]
          by_cases m : p.2 ∈ L.map (·.2)
          · rw [q1 m]
            exact g.old m
          · exact g.new (q2 m)
        have z2 : ∀ b o, h0.get? b = some o → h'.get? b = some o := fun b o e => by
          rw [sb.2 b (fun z : b = D => by rw [z, nD] at e; cases e)]
          exact z1 b o e
        refine wpAny_pure ⟨plainId_quiet PyProof.Rows.F.plain_set_update_loop _, ih (i + 1) _ (by omega) hlt (W.frame _ s' _ _ hst' (Nat.le_add_right _ _) fun b q o e => ?_) z2 ⟨L2, es2, ep2, t2, T2, g2⟩ fun s2 L3 es3 ep3 t3 hm2 z3 T3 g3 => ?_⟩
        · rw [sb.2 b (fun z : b = D => hD (by rw [← z]; exact q))]
          exact e
        · refine hR s2 L3 es3 ep3 t3 (Moved.trans W.gtrans ((hm.mono up).then_heap (Nat.le_add_right _ _) fun b o q e => ?_) hm2) z3 T3 g3
          rw [sb.2 b (fun z : b = D => q (by rw [z]; exact List.mem_cons_self))]
          exact e)))
end
end Mo

/-! ### set(a list of tuples whose elements are of any kind of key): the call -/
namespace Mo
open PySem PySem.Spec PyProof.Rows L2 PySem.Froz
section
variable {P : Program} {w : World} {A : Around} {E : Value → Shared → Prop} {s : Shared} {κ : Type} [DecidableEq κ] {knd : KeyKind P w κ}
set_option maxHeartbeats 8000000 in
theorem call_kset (M : Mild knd) {l : Addr} {items : Array Value} (ks : List (Addr × List κ)) {Q : Value → Shared → Prop} (hh : A.handled = none) (hl : s.heap.IsList l items) (hit : items.toList = ks.map fun p => Value.ref p.1)
    (hks : ∀ p ∈ ks, IsTupleKey knd s.heap p.2 p.1) (hb : ks.length < 64) (hu : A.units + 3 < cLine)
    (h : ∀ (h' : Heap) (tk : Nat) L es ep t, Tps knd h' s.heap.objs.size L es ep t → Has ks L → (∀ b o, s.heap.get? b = some o → h'.get? b = some o) → Q (.ref s.heap.objs.size) { s with heap := h', toks := tk }) :
    wpAny (model P w) A (call (.type "set") [.ref l]) Q E s := by
  have n1 : items.size = ks.length := by rw [← Array.length_toList, hit, List.length_map]
  obtain ⟨c, tl, hmro⟩ := PySem.F.called_set.mro
  have hmade := PySem.F.called_set.made; have hsub := PySem.F.called_set.sub
  refine wpAny_call (codeAny_of_tree (by
    show wpAny _ _ (callAny (.type "set") _) _ _ _
    refine wpAny_pure ⟨Code.quiet_builtin _ (by decide +kernel), codeAny_builtin PySem.F.entry_type_call ?_⟩
    rw [Around.under_plain (weight_type_call_type "set" [.ref l] []) rfl]
    have h1 := PySem.F.called_set.notType; have h2 := PySem.F.called_set.canCreate
    have hct := PySem.F.typeCall_set_1 (.ref l)
    repeat (any_goals (first | assumption | wp_step))
    refine codeAny_mono (code_set_led1 (.ref l) (E := E) (Q₁ := fun obj s₁ => obj = .ref s.heap.objs.size ∧ s₁ = { s with heap := s.heap.push { cls := .type "set", dict := none, data := .set #[] 0 (.fresh 0 0 (!w.params.followText "set-order")) } }) ⟨rfl, rfl⟩) fun r s₁ hr => ?_
    cases r with
    | error e => exact hr
    | ok fl =>
      cases fl with
      | ret obj =>
        obtain ⟨rfl, rfl⟩ := hr
        generalize hNew : ({ cls := .type "set", dict := none, data := .set #[] 0 (.fresh 0 0 (!w.params.followText "set-order")) } : Obj) = nw
        have hfr : ∀ (h : Heap) (a : Addr), h.get? a = some nw → Tps knd h a [] #[] 0 (.fresh 0 0 (!w.params.followText "set-order")) := by
          intro h a e
          rw [← hNew] at e
          exact tps_fresh e
        have hcls : nw.cls = .type "set" := by rw [← hNew]
        have hnf : nw.isFreed = false := by rw [← hNew]; rfl
        have hS : (s.heap.push nw).get? s.heap.objs.size = some nw := Heap.get?_push_size _ hnf
        have hT : Shared.TypeIs { s with heap := s.heap.push nw } (.ref s.heap.objs.size) "set" := ⟨_, hS, hcls⟩
        have hli := PySem.F.called_set.init.lookup; have hbi := PySem.F.called_set.init.bind (.ref s.heap.objs.size)
        repeat (any_goals (first | assumption | wp_step))
        refine codeAny_mono (codeAny_call_builtin (R := wants (fun r s₂ => r = .none ∧ ∃ h' tk L es ep t, s₂ = { s with heap := h', toks := tk } ∧ Tps knd h' s.heap.objs.size L es ep t ∧ Has ks L ∧
          (∀ b o, s.heap.get? b = some o → h'.get? b = some o)) E) PySem.F.called_set.init.plain PySem.F.entry_set_init (check_set_init_1 hT ?_)) fun r₂ s₂ hr₂ => ?_
        · obtain ⟨ol, hol, hcl, nl, hdl⟩ := hl
          obtain ⟨ocls, odict, odata, oslots⟩ := ol
          simp only at hcl hdl
          subst hcl; subst hdl
          have hlt : l < s.heap.objs.size := Heap.lt_size hol
          have hl1 : (s.heap.push nw).IsList l items := ⟨_, Heap.get?_push_of_some _ hol, rfl, nl, rfl⟩
          have hol' := Heap.get?_push_of_some nw hol
          subst hNew
          have n1' := PySem.F.sub_list_set
          have n2' := PySem.F.sub_list_frozenset
          have n3 : (Value.type "list" == Value.type "dict") = false := by decide
          unfold Builtin.«set.__init__» noKeywords Builtin.Frozenset.updateFrom
          generalize hPI : pyIter = PI
          wp_walk
          subst hPI
          have hh3 : A.in1.in1.in1.handled = none := by simp [hh]
          generalize hNew : ({ cls := .type "set", data := .set #[] 0 (.fresh 0 0 (!w.params.followText "set-order")) } : Obj) = nw at *
          have hz1 : (s.heap.push nw).objs.size = s.heap.objs.size + 1 := Heap.size_push ..
          have none_of : ∀ b, s.heap.objs.size ≤ b → s.heap.get? b = none := fun b hb => by
            cases q : s.heap.get? b with
            | none => rfl
            | some o => exact absurd (Nat.lt_of_lt_of_le (Heap.lt_size q) hb) (Nat.lt_irrefl _)
          have hval : ∀ (i : Nat) (v : Value), items[i]? = some v → ∃ p, ks[i]? = some p ∧ v = .ref p.1 := fun i v hv => by
            rw [← Array.getElem?_toList, hit, List.getElem?_map] at hv
            cases hq : ks[i]? with
            | none => rw [hq] at hv; cases hv
            | some p =>
              rw [hq] at hv
              exact ⟨p, rfl, (Option.some.inj hv).symm⟩
          refine wpAny_pyIter_list hl1 (wpAny_bind (wpAny_runValue ?_))
          refine kset_loop M ((Walks.list hh3 _ l (by rw [hz1]; exact Nat.ne_of_lt (Nat.lt_succ_of_lt hlt)) items).toS) s.heap.objs.size (by rw [hz1]; simp only [List.mem_cons, List.not_mem_nil, or_false, not_or]; exact ⟨Nat.ne_of_lt (Nat.lt_succ_self _), Nat.ne_of_gt hlt⟩) ks n1 hb hu hval s.heap hks
            (none_of _ (Nat.le_refl _)) (fun b hb => none_of b (by rw [List.mem_singleton.mp hb, hz1]; exact Nat.le_succ _)) (items.size - 0) 0 _ (by omega) (Nat.zero_le _) ⟨⟨_, Heap.get?_push_size _ rfl, rfl, rfl⟩, hl1.push _⟩
            (fun b o e => Heap.get?_push_of_some _ (Heap.get?_push_of_some _ e)) ⟨[], #[], 0, _, hfr _ _ (Heap.get?_push_of_some _ hS), Has.nil⟩ fun s' L es ep t hm hk2 T g => ?_
          obtain ⟨h', g', d', tk', os'⟩ := s'
          obtain rfl : g' = s.gens := hm.gens
          obtain rfl : d' = s.drawn := hm.drawn
          obtain rfl : os' = s.os := hm.os
          refine wpAny_pure ?_
          exact wpAny_pure ⟨rfl, h', tk', L, es, ep, t, rfl, T, g, hk2⟩
        · cases r₂ with
          | error e => exact hr₂
          | ok fl₂ =>
            cases fl₂ with
            | ret r =>
              obtain ⟨rfl, h', tk, L, es, ep, t, rfl, T, g, hk'⟩ := hr₂
              repeat (any_goals (first | assumption | wp_step))
              exact h _ _ _ _ _ _ T g hk'
            | _ => exact hr₂.elim
      | _ => exact hr.elim))
end
end Mo

/-! ### lists of pairs of texts, sorted -/
namespace Mo
open PySem PySem.Spec PyProof.Rows L2
/-- texts by their signs -/
def sltB (x y : Str) : Bool := decide (x.cps.toList < y.cps.toList)
theorem str_of_list {x y : Str} (h : x.cps.toList = y.cps.toList) : x = y := by
  cases x
  cases y
  congr
  exact Array.toList_inj.mp h
theorem slt_asym {x y : Str} (h : sltB x y = true) : sltB y x = false := decide_eq_false (List.lt_asymm (of_decide_eq_true h))
theorem slt_ntr {x y z : Str} (h1 : sltB y x = false) (h2 : sltB z y = false) : sltB z x = false := by
  have a := of_decide_eq_false h1
  have b := of_decide_eq_false h2
  exact decide_eq_false (List.not_lt.mpr (List.le_trans (List.not_lt.mp a) (List.not_lt.mp b)))
theorem slt_eq {x y : Str} (h1 : sltB x y = false) (h2 : sltB y x = false) : x = y :=
  str_of_list (List.le_antisymm (List.not_lt.mp (of_decide_eq_false h2)) (List.not_lt.mp (of_decide_eq_false h1)))
/-- pairs of texts: by the first, then by the second -/
def lexS (p q : Str × Str) : Bool := if p.1 = q.1 then sltB p.2 q.2 else sltB p.1 q.1
theorem lexS_asym {p q : Str × Str} (h : lexS p q = true) : lexS q p = false := by
  unfold lexS at h ⊢
  by_cases e : p.1 = q.1
  · rw [if_pos e] at h
    rw [if_pos e.symm]
    exact slt_asym h
  · rw [if_neg e] at h
    rw [if_neg (fun z => e z.symm)]
    exact slt_asym h
theorem lexS_ntr {p q r : Str × Str} (h1 : lexS q p = false) (h2 : lexS r q = false) : lexS r p = false := by
  unfold lexS at h1 h2 ⊢
  by_cases e1 : q.1 = p.1
  · rw [if_pos e1] at h1
    by_cases e2 : r.1 = q.1
    · rw [if_pos e2] at h2
      rw [if_pos (e2.trans e1)]
      exact slt_ntr h1 h2
    · rw [if_neg e2] at h2
      rw [if_neg (fun z => e2 (z.trans e1.symm)), ← e1]
      exact h2
  · rw [if_neg e1] at h1
    by_cases e2 : r.1 = q.1
    · rw [if_neg (fun z => e1 (e2.symm.trans z)), e2]
      exact h1
    · rw [if_neg e2] at h2
      have t := slt_ntr h1 h2
      by_cases e3 : r.1 = p.1
      · exfalso
        rw [e3] at h2
        exact e1 (slt_eq h1 h2)
      · rw [if_neg e3]
        exact t
theorem lexS_eq {p q : Str × Str} (h1 : lexS p q = false) (h2 : lexS q p = false) : p = q := by
  unfold lexS at h1 h2
  by_cases e : p.1 = q.1
  · rw [if_pos e] at h1
    rw [if_pos e.symm] at h2
    exact Prod.ext e (slt_eq h1 h2)
  · rw [if_neg e] at h1
    rw [if_neg (fun z => e z.symm)] at h2
    exact absurd (slt_eq h1 h2) e
theorem swo_lexS (k : Value → Str × Str) : SrtO.Swo fun v u => lexS (k v) (k u) := ⟨fun _ _ => lexS_asym, fun _ _ _ => lexS_ntr⟩
/-- v is a pair of these texts -/
def IsPS (h : Heap) (v : Value) (k : Str × Str) : Prop := ∃ a o t u n, v = .ref a ∧ h.get? a = some o ∧ o.cls = .type "tuple" ∧ o.data = .seq #[.str k.1 t, .str k.2 u] n
theorem IsPS.keeps {h h' : Heap} {v : Value} {x : Str × Str} (p : IsPS h v x) (k : ∀ b o, h.get? b = some o → o.cls = .type "tuple" → h'.get? b = some o) : IsPS h' v x := by
  obtain ⟨a, o, t, u, n, e, ho, hc, hd⟩ := p
  exact ⟨a, o, t, u, n, e, k _ _ ho hc, hc, hd⟩
theorem first_texts {h : Heap} : ∀ {vs : List Value}, (∀ v ∈ vs, ∃ k, IsPS h v k) → ∃ fs : List Value, PySem.W.KatTups h vs fs ∧ fs.length = vs.length ∧ ∀ f ∈ fs, ∃ x t, f = Value.str x t
  | [], _ => ⟨[], PySem.W.KatTups.nil, rfl, fun _ hm => absurd hm List.not_mem_nil⟩
  | v :: vs, hp => by
    obtain ⟨fs, h1, h2, h3⟩ := first_texts (vs := vs) fun u hm => hp u (List.mem_cons_of_mem _ hm)
    obtain ⟨k, a, o, t, u, n, rfl, ho, hc, hd⟩ := hp v List.mem_cons_self
    refine ⟨.str k.1 t :: fs, PySem.W.KatTups.cons ho hc hd rfl h1, by rw [List.length_cons, List.length_cons, h2], fun f hm => ?_⟩
    rcases List.mem_cons.mp hm with e | hm
    · exact ⟨k.1, t, e⟩
    · exact h3 f hm
section
variable {prog : Program} {w : World} {A : Around} {E : Value → Shared → Prop} {s : Shared}
theorem ps_cmp {vs : List Value} {k : Value → Str × Str} (hp : ∀ v ∈ vs, IsPS s.heap v (k v)) : SrtO.Cmp prog w A s (tuples' true) (fun p => p.1 ∈ vs) (SrtO.lt2 fun v u => lexS (k v) (k u)) := by
  intro p q hm hm'
  have h1 := hp _ hm
  have h2 := hp _ hm'
  show wpAny (model prog w) A (keyLt' (tuples' true) p.1 q.1) (fun r s' => s' = s ∧ r = lexS (k p.1) (k q.1)) (fun _ _ => False) s
  unfold lexS
  obtain ⟨a, o, t, u, n, e, ho, hc, hd⟩ := h1
  obtain ⟨a', o', t', u', n', e', ho', hc', hd'⟩ := h2
  generalize k p.1 = x at *
  generalize k q.1 = y at *
  rw [e, e']
  refine PySem.W.kat_lt ho hd ho' hd' ?_
  show PySem.W.KatLex prog w A true (decide (2 < 2)) _ [(.str x.1 t, .str y.1 t'), (.str x.2 u, .str y.2 u')] 0 s
  refine PySem.W.kat_cons (SeqAt.EqAt.str_str x.1 t y.1 t' prog w _ _ ?_)
  refine PySem.W.kat_go (fun e1 => ?_) (fun e1 => ?_)
  · have ex : x.1 = y.1 := by simpa using e1
    rw [if_pos ex]
    refine PySem.W.kat_yes (PySem.W.kat_cons (SeqAt.EqAt.str_str x.2 u y.2 u' prog w _ _ ?_))
    refine PySem.W.kat_go (fun e2 => ?_) (fun e2 => ?_)
    · have ey : x.2 = y.2 := by simpa using e2
      refine PySem.W.kat_yes (PySem.W.kat_nil ⟨rfl, ?_⟩)
      rw [ey]
      exact (decide_eq_false (List.lt_irrefl _)).symm
    · exact PySem.W.kat_no (PySem.W.kat_one _ _ (PyProof.Rows.lt_str ⟨rfl, by simp [sltB]⟩))
  · have ex : ¬ x.1 = y.1 := by simpa using e1
    rw [if_neg ex]
    exact PySem.W.kat_no (oneLt_str ⟨rfl, rfl⟩)
theorem ps_sortable {a : Addr} {vs : List Value} {k : Value → Str × Str} (h0 : 0 < vs.length) (hp : ∀ v ∈ vs, IsPS s.heap v (k v)) (ha : ∀ o, s.heap.get? a = some o → o.cls ≠ .type "tuple") : SrtO.SortableO prog w A s a vs fun v u => lexS (k v) (k u) := by
  intro h' keep
  have hp' : ∀ v ∈ vs, IsPS h' v (k v) := fun v hm => (hp v hm).keeps fun b o e c => keep b o (fun z => ha o (by rw [← z]; exact e) c) e
  obtain ⟨fs, h1, h2, h3⟩ := first_texts fun v hm => ⟨_, hp' v hm⟩
  refine ⟨tuples' true, fun Q E hq => ?_, ps_cmp hp'⟩
  refine PySem.W.kat_kind (T := .type "str") h1 (by omega) (fun f hm => ?_) (by rfl) ?_
  · obtain ⟨x, t, rfl⟩ := h3 f hm
    exact PySem.W.Looks.now
  · have e : (Value.type "str" != Value.type "tuple") = true := by first | decide +kernel | rfl | decide
    rw [e]
    exact hq
end
end Mo

/-! ### sorted(set(a list of pairs of texts)): the rules -/
namespace Mo
open PySem PySem.Spec PyProof.Rows L2 PySem.Froz
def two (l : List Str) : Str × Str := (l.getD 0 Str.empty, l.getD 1 Str.empty)
/-- the two texts of a pair -/
def pairAt (h : Heap) (v : Value) : Str × Str := match v with
  | .ref a => match h.get? a with
    | some o => match o.data with
      | .seq its _ => (strOf (its.getD 0 .none), strOf (its.getD 1 .none))
      | _ => (Str.empty, Str.empty)
    | none => (Str.empty, Str.empty)
  | _ => (Str.empty, Str.empty)
theorem IsPS.at {h : Heap} {v : Value} {k : Str × Str} (p : IsPS h v k) : pairAt h v = k := by
  obtain ⟨a, o, t, u, n, rfl, ho, hc, hd⟩ := p
  unfold pairAt
  simp only [ho, hd]
  rfl
theorem perm_of_map {α β : Type} {f : α → β} {l m : List β} (p : l.Perm m) : ∀ {L : List α}, m = L.map f → ∃ L2 : List α, L2.Perm L ∧ l = L2.map f := by
  induction p with
  | nil => intro L e; exact ⟨L, .refl _, e⟩
  | cons x _ ih =>
    intro L e
    cases L with
    | nil => cases e
    | cons a L =>
      rw [List.map_cons] at e
      obtain ⟨e1, e2⟩ := List.cons.inj e
      obtain ⟨L2, q, e3⟩ := ih e2
      exact ⟨a :: L2, q.cons a, by rw [List.map_cons, e1, e3]⟩
  | swap x y l =>
    intro L e
    match L, e with
    | a :: b :: L, e =>
      rw [List.map_cons, List.map_cons] at e
      obtain ⟨e1, e2⟩ := List.cons.inj e
      obtain ⟨e2, e3⟩ := List.cons.inj e2
      exact ⟨b :: a :: L, .swap .., by rw [List.map_cons, List.map_cons, e1, e2, e3]⟩
  | trans _ _ ih1 ih2 =>
    intro L e
    obtain ⟨L2, q2, e2⟩ := ih2 e
    obtain ⟨L3, q3, e3⟩ := ih1 e2
    exact ⟨L3, q3.trans q2, e3⟩
section
variable {P : Program} {w : World} {A : Around} {E : Value → Shared → Prop} {s : Shared}
theorem key_pair {h : Heap} {ks : List Str} {b : Addr} (x : IsTupleKey (strKind P w) h ks b) (l2 : ks.length = 2) : IsPS h (.ref b) (two ks) := by
  obtain ⟨o, its, n, ho, hc, hd, hi⟩ := x
  match ks, l2 with
  | [k1, k2], _ =>
    generalize hl : its.toList = l at hi
    cases hi with
    | cons h1 t1 =>
      cases t1 with
      | cons h2 t2 =>
        cases t2
        obtain ⟨t, rfl⟩ := Value.isStrOf_shape h1
        obtain ⟨u, rfl⟩ := Value.isStrOf_shape h2
        refine ⟨b, o, t, u, n, rfl, ho, hc, ?_⟩
        rw [hd, Array.toList_inj.mp (show its.toList = (#[.str k1 t, .str k2 u] : Array Value).toList from hl)]
        rfl
theorem sorted_kset {a : Addr} {L : List (Addr × List Str)} {es : Array (Int × Value)} {ep : Nat} {t : SetTable} {Q : Value → Shared → Prop} (R : Tps (strKind P w) s.heap a L es ep t) (hh : A.handled = none) (hl : ∀ p ∈ L, p.2.length = 2)
    (hQ : ∀ s' p (out : Array Value) (c : Nat) (L' : List (Addr × List Str)), (∀ b o, s.heap.get? b = some o → s'.heap.get? b = some o) → s'.gens = s.gens → s'.os = s.os → s.heap.objs.size ≤ p →
      s'.heap.get? p = some (seqObj "list" out c) → out.toList = L'.map (fun q => Value.ref q.1) → L'.Perm L → L'.Pairwise (fun q r => lexS (two r.2) (two q.2) = false) → Q (.ref p) s') :
    wpAny (model P w) A (call (.builtin "sorted") [.ref a]) Q E s := by
  obtain ⟨o, ho, hex, hd⟩ := R.obj
  have n1 : es.size = L.length := ent_size R.ent
  have few := R.few
  refine Calls.call_function_entry kind_sorted plain_sorted entry_sorted (args_sorted1 _) ?_
  unfold Builtin.«sorted»
  refine wpAny_bind (m := checkCount "sorted" 1 1 _) (wpAny_pure ?_)
  refine wpAny_bind (collect_set (A := A.in1) hh ⟨o, ho, hex.1, hd⟩ R.fits (by unfold scanBound; omega) R.tab.ris R.led fun s1 vs k1 hz g1 o1 pm => ?_)
  rw [R.ent, List.map_map] at pm
  have lv : vs.length = L.length := by rw [pm.length_eq, List.length_map]
  refine wpAny_bind (wpAny_newList ?_ (by rw [lv, sizeLine_eq]; omega))
  have hoL : (s1.heap.push (seqObj "list" vs.toArray 0)).get? s1.heap.objs.size = some (seqObj "list" vs.toArray 0) := Heap.get?_push_size _ rfl
  have at_ : ∀ q ∈ L, IsPS (s1.heap.push (seqObj "list" vs.toArray 0)) (.ref q.1) (two q.2) := fun q hq =>
    key_pair (P := P) (w := w) (key_kept (R.here q hq) fun b u e => Heap.get?_push_of_some _ (k1 b u e)) (hl q hq)
  have each : ∀ v ∈ vs, IsPS (s1.heap.push (seqObj "list" vs.toArray 0)) v (pairAt (s1.heap.push (seqObj "list" vs.toArray 0)) v) := fun v hv => by
    obtain ⟨q, hq, e⟩ := List.mem_map.mp (pm.mem_iff.mp hv)
    have e : Value.ref q.1 = v := e
    have x := at_ q hq
    rw [e] at x
    rw [x.at]
    exact x
  refine wpAny_bind (wpAny_holding (wpAny_call_entry slot_list_sort ⟨_, hoL, rfl⟩ entry_list_sort
    (SrtO.list_sort_ord (s := { s1 with heap := s1.heap.push (seqObj "list" vs.toArray 0) }) (swo_lexS (pairAt (s1.heap.push (seqObj "list" vs.toArray 0)))) hoL (by rw [lv, sizeLine_eq]; omega) (fun h2 => ?_) fun out hs hb => ⟨_, rfl, ?_⟩) (args_list_sort _)))
  · refine ps_sortable (by omega) each fun u e c => ?_
    have e : some (seqObj "list" vs.toArray 0) = some u := hoL.symm.trans e
    obtain rfl := Option.some.inj e
    exact absurd (Value.type.inj c) (by decide)
  · obtain ⟨L', p1, p2⟩ := perm_of_map (hb.perm.trans pm) rfl
    obtain ⟨c, hc⟩ := sortedHeap_at (vs := vs) (out := out.toArray) hoL
    refine wpAny_pure ⟨_, rfl, hQ _ s1.heap.objs.size out.toArray c L' (fun b u e => ?_) g1 o1 hz hc p2 p1 ?_⟩
    · have q := k1 b u e
      have hlt := Heap.lt_size q
      show (sortedHeap (s1.heap.push (seqObj "list" vs.toArray 0)) s1.heap.objs.size vs out.toArray).get? b = some u
      rw [sortedHeap_old (Nat.ne_of_lt hlt) (by rw [size_push']; exact Nat.lt_succ_of_lt hlt)]
      exact Heap.get?_push_of_some _ q
    · rw [p2] at hs
      refine List.Pairwise.imp_of_mem (fun {q r} hq hr e => ?_) (List.pairwise_map.mp hs)
      have e : lexS (pairAt (s1.heap.push (seqObj "list" vs.toArray 0)) (.ref r.1)) (pairAt (s1.heap.push (seqObj "list" vs.toArray 0)) (.ref q.1)) = false := e
      rw [(at_ q (p1.mem_iff.mp hq)).at, (at_ r (p1.mem_iff.mp hr)).at] at e
      exact e
/-- the set alone, without the tuples -/
def Tp0 (P : Program) (w : World) (h : Heap) (a : Addr) (L : List (Addr × List Str)) : Prop := ∃ (es : Array (Int × Value)) (ep : Nat) (t : SetTable), (∃ o, h.get? a = some o ∧ o.ExactSet ∧ o.data = .set es ep t) ∧
  es.toList = (L.map fun p => (tupleKeyHash (strKind P w) p.2, Value.ref p.1)) ∧ TabOk t (L.map fun p => tupleKeyHash (strKind P w) p.2) ∧ (L.map (·.2)).Nodup ∧ (w.params.followText "set-order" = true ∨ t.led = true) ∧ L.length * 5 < t.mask * 3 ∧ L.length < 64
def SetKO (P : Program) (w : World) (a : Addr) (L : List (Addr × List Str)) : HO := .ext fun h => Tp0 P w h a L
theorem Tps.alone {a : Addr} {L : List (Addr × List Str)} {es : Array (Int × Value)} {ep : Nat} {t : SetTable} {h : Heap} (R : Tps (strKind P w) h a L es ep t) : Tp0 P w h a L := ⟨es, ep, t, R.obj, R.ent, R.tab, R.one, R.led, R.low, R.few⟩
theorem Tp0.full {a : Addr} {L : List (Addr × List Str)} {h : Heap} (R : Tp0 P w h a L) (hk : ∀ p ∈ L, IsTupleKey (strKind P w) h p.2 p.1) : ∃ es ep t, Tps (strKind P w) h a L es ep t := by
  obtain ⟨es, ep, t, r1, r2, r3, r4, r5, r6, r7⟩ := R
  exact ⟨es, ep, t, r1, r2, r3, r4, hk, r5, r6, r7⟩
theorem setKO_new {H : Hp} {h : Heap} {a : Addr} {L : List (Addr × List Str)} (R : Tp0 P w h a L) : ObjOk P w H h a (SetKO P w a L) := by
  have ⟨_, _, _, ⟨o, ho, _⟩, _⟩ := R
  refine ⟨R, ⟨o, ho⟩, fun h1 h2 p k => ?_⟩
  obtain ⟨es, ep, t, ⟨u, hu, r⟩, r2⟩ := p
  exact ⟨es, ep, t, ⟨u, k _ hu, r⟩, r2⟩
theorem items_str : ∀ {k : List Str} {us : List Value}, Vals (k.map V.str) us → ItemsAre (strKind P w) k us
  | [], _, .nil => .nil
  | x :: k, _, .cons r t => by
    obtain ⟨u, rfl⟩ := r
    exact .cons (is_str x u) (items_str t)
theorem refs_vals {κ : Type} : ∀ {ks : List (Addr × κ)} {us : List Value}, Vals (ks.map fun p => V.ref p.1) us → us = ks.map fun p => Value.ref p.1
  | [], _, .nil => rfl
  | p :: ks, _, .cons r t => by
    cases r
    rw [refs_vals t]
    rfl
theorem vals_refs {κ : Type} : ∀ ks : List (Addr × κ), Vals (ks.map fun p => V.ref p.1) (ks.map fun p => Value.ref p.1)
  | [] => .nil
  | _ :: ks => .cons rfl (vals_refs ks)
end
section
variable {X : Cx}
theorem inv_key {pins : List (Addr × Obj)} {σ : L2.St} {H : Hp} {s : Shared} {b : Addr} {k : List Str} (I : Inv X pins σ H s) (h : SqT X.K H b (k.map V.str)) : IsTupleKey (strKind X.prog X.w) s.heap k b := by
  obtain ⟨its, r, ⟨o, ho, hc, n, hd⟩, _⟩ := I.tuple h
  exact ⟨o, its.toArray, n, ho, hc, hd, by simpa using items_str r⟩
/-- set(xs), xs a list of tuples of texts -/
def rSetKs (K : PySem.W.Frag) (P : Program) (w : World) : List V → Hp → VK → Prop := fun xs H Q => ∃ (l : Addr) (ks : List (Addr × List Str)), xs = [V.ref l] ∧ SqL K H l (ks.map fun p => V.ref p.1) ∧ (∀ p ∈ ks, SqT K H p.1 (p.2.map V.str)) ∧ ks.length < 64 ∧
  ∀ a L, H a = none → Has ks L → (L.map (·.2)).Nodup → Q (.ref a) (upd H a (SetKO P w a L))
theorem cr_setKs {P : Program} {w : World} (hp : X.prog = P) (hw : X.w = w) (hc : X.calm = true) (hu : X.A.units + 64 < cLine) : CallR X (.type "set") (rSetKs X.K P w) := by
  subst hp
  subst hw
  intro pins s σ H xs us Q I r h
  obtain ⟨l, ks, rfl, hl, hk, hf, q⟩ := h
  rw [Vals.ref1 r]
  obtain ⟨its, rv, pl, hz⟩ := I.list hl
  refine call_kset (P := X.prog) (w := X.w) str_mild ks (I.ok.hd hc) pl.isList (by simpa using refs_vals rv) (fun p hp => inv_key I (hk p hp)) hf (by omega) fun h' tk L es ep t R g k => ?_
  exact ⟨.ref s.heap.objs.size, _, I.laid (t' := tk) k (Nat.le_refl _) (setKO_new R.alone), rfl, q _ L (I.hok.fresh (Nat.le_refl _)) g R.one⟩
/-- sorted(a set of pairs of texts) -/
def rSortKs (K : PySem.W.Frag) (P : Program) (w : World) : List V → Hp → VK → Prop := fun vs H Q => ∃ (a : Addr) (L : List (Addr × List Str)), vs = [V.ref a] ∧ H a = some (SetKO P w a L) ∧ (∀ p ∈ L, SqT K H p.1 (p.2.map V.str) ∧ p.2.length = 2) ∧
  ∀ (L' : List (Addr × List Str)) (p : Addr), L'.Perm L → L'.Pairwise (fun q r => lexS (two r.2) (two q.2) = false) → H p = none → Q (.ref p) (upd H p (.lst (L'.map fun q => V.ref q.1)))
theorem cr_sortKs {P : Program} {w : World} (hp : X.prog = P) (hw : X.w = w) (hc : X.calm = true) : CallR X (.builtin "sorted") (rSortKs X.K P w) := by
  subst hp
  subst hw
  intro pins s σ H vs us Q I r h
  obtain ⟨a, L, rfl, ha, hk, q⟩ := h
  have R0 : Tp0 X.prog X.w s.heap a L := (I.hok a _ ha).1
  obtain ⟨es, ep, t, R⟩ := R0.full fun p hp => inv_key I (hk p hp).1
  rw [Vals.ref1 r]
  refine sorted_kset R (I.ok.hd hc) (fun p hp => (hk p hp).2) fun s' p out c L' k g o hp hg hout pm pw => ?_
  have few := R.few
  have hlen : (L'.map fun q => V.ref q.1).length ≤ sizeLine := by rw [List.length_map, pm.length_eq, sizeLine_eq]; omega
  have hn : H p = none := I.hok.fresh hp
  have J : Inv X pins σ (upd H p (.lst (L'.map fun q => V.ref q.1))) { s with heap := s'.heap, gens := s'.gens, drawn := s'.drawn, toks := s'.toks } :=
    I.call (ch := []) (Un.laid k hp hn) (I.hok.laid k hp ⟨hlen, out.toList, c, by rw [hout]; exact vals_refs L', hg⟩) (by rw [g]; exact I.bare) (fun _ z => nomatch z)
  have e : s' = { s with heap := s'.heap, gens := s'.gens, drawn := s'.drawn, toks := s'.toks } := by
    cases s'
    cases s
    cases o
    rfl
  rw [e]
  exact ⟨.ref p, _, J, rfl, q L' p pm pw hn⟩
end
end Mo

/-! ### sorted(a list of texts), any number of them -/
namespace Mo
open PySem PySem.Spec PyProof.Rows L2
theorem swo_strs : SrtO.Swo fun v u => sltB (strOf v) (strOf u) := ⟨fun _ _ => slt_asym, fun _ _ _ => slt_ntr⟩
theorem strs_mem : ∀ {vs : List Value} {ys : List Str}, StrsAre vs ys → ∀ v ∈ vs, ∃ x t, v = Value.str x t
  | _, _, .nil, v, h => absurd h List.not_mem_nil
  | _, _, .cons n t r, v, h => by
    rcases List.mem_cons.mp h with e | h
    · exact ⟨n, t, e⟩
    · exact strs_mem r v h
theorem strOf_strs : ∀ {vs : List Value} {ys : List Str}, StrsAre vs ys → vs.map strOf = ys
  | _, _, .nil => rfl
  | _, _, .cons n t r => congrArg (n :: ·) (strOf_strs r)
theorem vals_strs : ∀ {ys : List Str} {us : List Value}, Vals (ys.map V.str) us → StrsAre us ys
  | [], _, .nil => .nil
  | y :: ys, _, .cons r t => by
    obtain ⟨u, rfl⟩ := r
    exact .cons y u (vals_strs t)
section
variable {prog : Program} {w : World} {A : Around} {E : Value → Shared → Prop} {s : Shared}
theorem str_cmp {vs : List Value} {ys : List Str} (h : StrsAre vs ys) : SrtO.Cmp prog w A s oneType' (fun p => p.1 ∈ vs) (SrtO.lt2 fun v u => sltB (strOf v) (strOf u)) := by
  intro p q hm hm'
  obtain ⟨a, t, e⟩ := strs_mem h _ hm
  obtain ⟨b, u, e'⟩ := strs_mem h _ hm'
  show wpAny (model prog w) A (keyLt' oneType' p.1 q.1) (fun r s' => s' = s ∧ r = sltB (strOf p.1) (strOf q.1)) (fun _ _ => False) s
  rw [e, e', keyLt'_oneType]
  exact oneLt_str ⟨rfl, rfl⟩
theorem str_sortable {a : Addr} {vs : List Value} {ys : List Str} (h : StrsAre vs ys) (h2 : 2 ≤ vs.length) : SrtO.SortableO prog w A s a vs fun v u => sltB (strOf v) (strOf u) := by
  intro h' _
  refine ⟨oneType', fun Q E hq => ?_, str_cmp h⟩
  match vs, h, h2 with
  | v1 :: v2 :: rest, h, _ =>
    rw [keyKind_strs h]
    exact wpAny_pure hq
  | [], _, h => exact absurd h (by decide)
  | [v], _, h => exact absurd h (by simp)
end
section
variable {X : Cx}
/-- sorted(xs), xs a list of texts -/
def rSortStr (K : PySem.W.Frag) : List V → Hp → VK → Prop := fun vs H Q => ∃ (l : Addr) (ys : List Str), vs = [V.ref l] ∧ SqL K H l (ys.map V.str) ∧
  ∀ (zs : List Str) (p : Addr), zs.Perm ys → zs.Pairwise (fun x y => sltB y x = false) → H p = none → Q (.ref p) (upd H p (.lst (zs.map V.str)))
theorem cr_sortStr : CallR X (.builtin "sorted") (rSortStr X.K) := by
  intro pins s σ H vs us Q I r h
  obtain ⟨a, ys, rfl, hs, q⟩ := h
  obtain ⟨its, rv, hl, hz⟩ := I.list hs
  rw [Vals.ref1 r]
  have hi := vals_strs rv
  refine SrtO.sorted_ord swo_strs hl.isList (by rw [← rv.length]; exact hz) (fun h2 h₁ a' _ _ => str_sortable hi h2) fun out h1 h2 => ?_
  have ho : StrsAre out (out.map strOf) := strs_of_all fun v hv => strs_mem hi v (h2.perm.mem_iff.mp hv)
  have pm : (out.map strOf).Perm ys := by
    have q := h2.perm.map strOf
    rw [strOf_strs hi] at q
    exact q
  obtain ⟨ep, he'⟩ := PyProof.Rows.sortedAll_at s.heap its out.toArray
  have hlen : ((out.map strOf).map V.str).length ≤ sizeLine := by
    rw [List.length_map, pm.length_eq]
    rw [List.length_map] at hz
    exact hz
  exact ⟨.ref _, upd H (s.heap.objs.size + 1) (.lst ((out.map strOf).map V.str)), I.laid (t' := s.toks) (fun _ _ => PyProof.Rows.sortedAll_old) (Nat.le_succ _) ⟨hlen, out, ep, vals_of_strs ho, he'⟩, rfl, q _ _ pm (List.pairwise_map.mpr h1) (I.hok.fresh (Nat.le_succ _))⟩
end
end Mo

/-! ### sorted(a text): its signs -/
namespace Mo
open PySem PySem.Spec PyProof.Rows L2
theorem strs_by {vs : List Value} {ys : List Str} (hl : vs.length = ys.length) (h : ∀ (j : Nat) (v : Value), vs[j]? = some v → ∃ y t, ys[j]? = some y ∧ v = .str y t) : StrsAre vs ys := by
  induction vs generalizing ys with
  | nil =>
    cases ys with
    | nil => exact .nil
    | cons y ys => cases hl
  | cons v vs ih =>
    cases ys with
    | nil => cases hl
    | cons y ys =>
      obtain ⟨y', t, e, rfl⟩ := h 0 v rfl
      obtain rfl : y = y' := Option.some.inj e
      exact .cons y t (ih (Nat.succ.inj hl) fun j u hj => h (j + 1) u hj)
section
variable {prog : Program} {w : World} {A : Around} {E : Value → Shared → Prop} {s : Shared}
theorem sorted_text {x : Str} {t : Tok} {Q : Value → Shared → Prop} (hh : A.handled = none) (hz : x.cps.size ≤ 4000)
    (q : ∀ (s' : Shared) (d : Addr) (out : List Value) (zs : List Str), StrsAre out zs → zs.Perm (x.cps.toList.map fun c => (⟨#[c]⟩ : Str)) → (zs.Pairwise fun a b => sltB b a = false) → (∀ b o, s.heap.get? b = some o → s'.heap.get? b = some o) → s.heap.get? d = none → s'.gens = s.gens → s'.drawn = s.drawn → s'.os = s.os →
      (∃ n, s'.heap.get? d = some (seqObj "list" out.toArray n)) → Q (.ref d) s') :
    wpAny (model prog w) A (call (.builtin "sorted") [.str x t]) Q E s := by
  refine Calls.call_function_entry kind_sorted plain_sorted entry_sorted (args_sorted1 _) ?_
  unfold Builtin.«sorted»
  refine wpAny_bind (m := checkCount "sorted" 1 1 _) (wpAny_pure ?_)
  refine wpAny_bind (wpAny_collect_str (A := A.in1) (by simp [hh]) x t (fun s1 acc k1 g1 d1 o1 hi => ?_) (by rw [sizeLine_eq]; omega))
  have l1 : acc.toList.length = x.cps.size := by rw [Array.length_toList]; exact hi.1
  have hS : StrsAre acc.toList (x.cps.toList.map fun c => (⟨#[c]⟩ : Str)) := strs_by (by rw [l1, List.length_map, Array.length_toList]) fun j v hj => by
    obtain ⟨c, u, hc, rfl⟩ := hi.2 j v (by rw [← Array.getElem?_toList]; exact hj)
    exact ⟨⟨#[c]⟩, u, by rw [List.getElem?_map, Array.getElem?_toList, hc]; rfl, rfl⟩
  refine wpAny_bind (wpAny_newList ?_ (by rw [l1, sizeLine_eq]; omega))
  have hoL : (s1.heap.push (seqObj "list" acc.toList.toArray 0)).get? s1.heap.objs.size = some (seqObj "list" acc.toList.toArray 0) := Heap.get?_push_size _ rfl
  refine wpAny_bind (wpAny_holding (wpAny_call_entry slot_list_sort ⟨_, hoL, rfl⟩ entry_list_sort
    (SrtO.list_sort_ord (s := { s1 with heap := s1.heap.push (seqObj "list" acc.toList.toArray 0) }) swo_strs hoL (by rw [l1, sizeLine_eq]; omega) (fun h2 => str_sortable hS h2) fun out hs hb => ⟨_, rfl, ?_⟩) (args_list_sort _)))
  have ho : StrsAre out (out.map strOf) := strs_of_all fun v hv => strs_mem hS v (hb.perm.mem_iff.mp hv)
  have pm : (out.map strOf).Perm (x.cps.toList.map fun c => (⟨#[c]⟩ : Str)) := by
    have z := hb.perm.map strOf
    rw [strOf_strs hS] at z
    exact z
  obtain ⟨c, hc⟩ := sortedHeap_at (vs := acc.toList) (out := out.toArray) hoL
  have gone : s.heap.get? s1.heap.objs.size = none := by
    cases z : s.heap.get? s1.heap.objs.size with
    | none => rfl
    | some u => exact absurd (Heap.lt_size (k1 _ _ z)) (Nat.lt_irrefl _)
  refine wpAny_pure ⟨_, rfl, q _ s1.heap.objs.size out _ ho pm (List.pairwise_map.mpr hs) (fun b u e => ?_) gone g1 d1 o1 ⟨c, hc⟩⟩
  have z := k1 b u e
  have lt := Heap.lt_size z
  show (sortedHeap (s1.heap.push (seqObj "list" acc.toList.toArray 0)) s1.heap.objs.size acc.toList out.toArray).get? b = some u
  rw [sortedHeap_old (Nat.ne_of_lt lt) (by rw [size_push']; exact Nat.lt_succ_of_lt lt)]
  exact Heap.get?_push_of_some _ z
end
section
variable {X : Cx}
/-- sorted(z), z a text -/
def rSortTxt : List V → Hp → VK → Prop := fun vs H Q => ∃ z : Str, vs = [V.str z] ∧ z.cps.size ≤ 4000 ∧
  ∀ (zs : List Str) (p : Addr) (H' : Hp), zs.Perm (z.cps.toList.map fun c => (⟨#[c]⟩ : Str)) → zs.Pairwise (fun x y => sltB y x = false) → Same H H' → H p = none → H' p = some (.lst (zs.map V.str)) → Q (.ref p) H'
theorem cr_sortTxt (hc : X.calm = true) : CallR X (.builtin "sorted") rSortTxt := by
  intro pins s σ H vs us Q I r h
  obtain ⟨z, rfl, hz, q⟩ := h
  obtain ⟨u, rfl, t, rfl⟩ := vals1 r
  refine sorted_text (I.ok.hd hc) hz fun s' d out zs ho pm pw kk gone g1 d1 o1 hget => ?_
  obtain ⟨n, hget⟩ := hget
  have hn : H d = none := by
    cases e : H d with
    | none => rfl
    | some o =>
      obtain ⟨u, hu⟩ := objOk_get (I.hok d o e)
      rw [gone] at hu
      cases hu
  have hlen : (zs.map V.str).length ≤ sizeLine := by
    rw [List.length_map, pm.length_eq, List.length_map, Array.length_toList, sizeLine_eq]
    omega
  have only : ∀ b o, (fun b => if b = d then some (HO.lst (zs.map V.str)) else none) b = some o → b = d ∧ o = .lst (zs.map V.str) := fun b o e => by
    dsimp only at e
    by_cases z : b = d
    · rw [if_pos z] at e
      exact ⟨z, (Option.some.inj e).symm⟩
    · rw [if_neg z] at e
      cases e
  have J : Inv X pins σ (plus H fun b => if b = d then some (.lst (zs.map V.str)) else none) { s with heap := s'.heap, toks := s'.toks } := by
    refine inv_more I kk (fun b o e => ?_) fun b o e => ?_
    · rw [(only b o e).1]
      exact ⟨gone, hn⟩
    · obtain ⟨rfl, rfl⟩ := only b o e
      exact ⟨hlen, out, n, vals_of_strs ho, hget⟩
  have e : s' = { s with heap := s'.heap, toks := s'.toks } := by
    cases s'
    cases s
    cases g1
    cases d1
    cases o1
    rfl
  rw [e]
  refine ⟨.ref d, _, J, rfl, q zs d _ pm pw (fun b o e => (plus_old ?_).trans e) hn (plus_new (if_pos rfl))⟩
  exact if_neg fun z => by rw [z, hn] at e; cases e
end
end Mo

/-! ### sorted(a list of pairs of texts) -/
namespace Mo
open PySem PySem.Spec PyProof.Rows L2
section
variable {prog : Program} {w : World} {A : Around} {E : Value → Shared → Prop} {s : Shared}
theorem sorted_ps {l : Addr} {vs : List Value} {k : Value → Str × Str} {Q : Value → Shared → Prop} (hl : s.heap.IsList l vs.toArray) (hz : vs.length ≤ sizeLine) (hp : ∀ v ∈ vs, IsPS s.heap v (k v))
    (q : ∀ (h' : Heap) (d : Addr) (out : List Value), out.Perm vs → (out.Pairwise fun v u => lexS (k u) (k v) = false) → (∀ b o, s.heap.get? b = some o → h'.get? b = some o) → s.heap.objs.size ≤ d → (∃ n, h'.get? d = some (seqObj "list" out.toArray n)) → Q (.ref d) { s with heap := h' }) :
    wpAny (model prog w) A (call (.builtin "sorted") [.ref l]) Q E s := by
  refine SrtO.sorted_ord (swo_lexS k) hl hz (fun h2 h1 a ha kk => ?_) fun out hs hb => q _ _ out hb.perm hs (fun b o e => sortedAll_old e) (Nat.le_succ _) (sortedAll_at s.heap vs out.toArray)
  refine ps_sortable (s := { s with heap := h1 }) (by omega) (fun v hm => (hp v hm).keeps fun b o e _ => (kk b o e).2) fun o e => ?_
  obtain rfl := Option.some.inj (e.symm.trans ha)
  exact fun c => absurd (Value.type.inj c) (by decide)
end
section
variable {X : Cx}
/-- sorted(xs), xs a list of pairs of texts -/
def rSortPs (K : PySem.W.Frag) : List V → Hp → VK → Prop := fun vs H Q => ∃ (l : Addr) (ks : List (Addr × List Str)), vs = [V.ref l] ∧ SqL K H l (ks.map fun p => V.ref p.1) ∧ (∀ p ∈ ks, SqT K H p.1 (p.2.map V.str) ∧ p.2.length = 2) ∧
  ∀ (L' : List (Addr × List Str)) (p : Addr), L'.Perm ks → L'.Pairwise (fun q r => lexS (two r.2) (two q.2) = false) → H p = none → Q (.ref p) (upd H p (.lst (L'.map fun q => V.ref q.1)))
theorem cr_sortPs : CallR X (.builtin "sorted") (rSortPs X.K) := by
  intro pins s σ H vs us Q I r h
  obtain ⟨l, ks, rfl, hl, hk, q⟩ := h
  rw [Vals.ref1 r]
  obtain ⟨its, rv, pl, hz⟩ := I.list hl
  obtain rfl := refs_vals rv
  have at_ : ∀ p ∈ ks, IsPS s.heap (.ref p.1) (two p.2) := fun p hp => key_pair (P := X.prog) (w := X.w) (inv_key I (hk p hp).1) (hk p hp).2
  have each : ∀ v ∈ ks.map (fun p => Value.ref p.1), IsPS s.heap v (pairAt s.heap v) := fun v hv => by
    obtain ⟨p, hp, rfl⟩ := List.mem_map.mp hv
    have x := at_ p hp
    rw [x.at]
    exact x
  have hlen : ks.length ≤ sizeLine := by simpa using hz
  refine sorted_ps pl.isList (by rw [List.length_map]; exact hlen) each fun h' d out pm pw kk hd hget => ?_
  obtain ⟨n, hget⟩ := hget
  obtain ⟨L', p1, rfl⟩ := perm_of_map pm rfl
  have J : Inv X pins σ (upd H d (.lst (L'.map fun q => V.ref q.1))) { s with heap := h' } :=
    I.laid (t' := s.toks) kk hd ⟨by rw [List.length_map, p1.length_eq]; exact hlen, L'.map fun p => Value.ref p.1, n, vals_refs L', hget⟩
  refine ⟨.ref d, _, J, rfl, q L' d p1 (List.Pairwise.imp_of_mem (fun {a b} ha hb e => ?_) (List.pairwise_map.mp pw)) (I.hok.fresh hd)⟩
  have e : lexS (pairAt s.heap (.ref b.1)) (pairAt s.heap (.ref a.1)) = false := e
  rw [(at_ a (p1.mem_iff.mp ha)).at, (at_ b (p1.mem_iff.mp hb)).at] at e
  exact e
end
end Mo

namespace Mo
open PySem PySem.Spec PyProof.Rows L2
/-! ### components of a bipartite graph: by merging, and by walking -/
abbrev Nd := Bool × Nat
inductive Cn (es : List (Nat × Nat)) : Nd → Nd → Prop
  | refl (v : Nd) : Cn es v v
  | l2r {v : Nd} {a b : Nat} : Cn es v (false, a) → (a, b) ∈ es → Cn es v (true, b)
  | r2l {v : Nd} {a b : Nat} : Cn es v (true, b) → (a, b) ∈ es → Cn es v (false, a)
section
variable {es es' : List (Nat × Nat)} {u v x : Nd} {a b : Nat}
theorem Cn.trans (h : Cn es u v) (k : Cn es v x) : Cn es u x := by
  induction k with
  | refl => exact h
  | l2r _ e ih => exact .l2r ih e
  | r2l _ e ih => exact .r2l ih e
theorem Cn.symm (h : Cn es u v) : Cn es v u := by
  induction h with
  | refl => exact .refl _
  | l2r _ e ih => exact (Cn.r2l (.refl _) e).trans ih
  | r2l _ e ih => exact (Cn.l2r (.refl _) e).trans ih
theorem Cn.mono (h : Cn es u v) (s : ∀ e ∈ es, e ∈ es') : Cn es' u v := by
  induction h with
  | refl => exact .refl _
  | l2r _ e ih => exact .l2r ih (s _ e)
  | r2l _ e ih => exact .r2l ih (s _ e)
theorem Cn.in {ns : List Nat} (h : Cn es u v) (hu : u.2 ∈ ns) (s : ∀ e ∈ es, e.1 ∈ ns ∧ e.2 ∈ ns) : v.2 ∈ ns := by
  induction h with
  | refl => exact hu
  | l2r _ e ih => exact (s _ e).2
  | r2l _ e ih => exact (s _ e).1
theorem Cn.nil_iff : Cn [] u v ↔ v = u := by
  refine ⟨fun h => ?_, fun h => h ▸ .refl _⟩
  induction h with
  | refl => rfl
  | l2r _ e _ => cases e
  | r2l _ e _ => cases e
/-- the node is joined with an end of the edge (a, b) -/
def Tch (es : List (Nat × Nat)) (a b : Nat) (u : Nd) : Prop := Cn es u (false, a) ∨ Cn es u (true, b)
theorem Tch.at (h : Tch es a b u) (k : Cn es v u) : Tch es a b v := h.imp k.trans k.trans
theorem Cn.add : Cn (es ++ [(a, b)]) u v ↔ Cn es u v ∨ (Tch es a b u ∧ Tch es a b v) := by
  constructor
  · intro h
    induction h with
    | refl => exact .inl (.refl _)
    | @l2r a' b' _ e ih =>
      rcases List.mem_append.mp e with e | e
      · exact ih.imp (fun h => .l2r h e) fun h => ⟨h.1, h.2.at (.r2l (.refl _) e)⟩
      · obtain ⟨rfl, rfl⟩ := Prod.mk.inj (List.mem_singleton.mp e)
        exact .inr ⟨ih.elim .inl (·.1), .inr (.refl _)⟩
    | @r2l a' b' _ e ih =>
      rcases List.mem_append.mp e with e | e
      · exact ih.imp (fun h => .r2l h e) fun h => ⟨h.1, h.2.at (.l2r (.refl _) e)⟩
      · obtain ⟨rfl, rfl⟩ := Prod.mk.inj (List.mem_singleton.mp e)
        exact .inr ⟨ih.elim .inr (·.1), .inl (.refl _)⟩
  · have s : ∀ e ∈ es, e ∈ es ++ [(a, b)] := fun e h => List.mem_append_left _ h
    have m : (a, b) ∈ es ++ [(a, b)] := by simp
    have one : ∀ {y : Nd}, Tch es a b y → Cn (es ++ [(a, b)]) y (false, a) := fun h =>
      h.elim (fun h => h.mono s) fun h => .r2l (h.mono s) m
    rintro (h | ⟨h, k⟩)
    · exact h.mono s
    · exact (one h).trans (one k).symm
end
abbrev Pt := List Nat × List Nat
/-- the node is in the part -/
def At (p : Pt) (u : Nd) : Prop := u.2 ∈ (if u.1 then p.2 else p.1)
theorem at_l {p : Pt} {c : Nat} : At p (false, c) ↔ c ∈ p.1 := Iff.rfl
theorem at_r {p : Pt} {c : Nat} : At p (true, c) ↔ c ∈ p.2 := Iff.rfl
theorem asc_ext : ∀ a b : List Nat, a.Pairwise (· < ·) → b.Pairwise (· < ·) → (∀ x, x ∈ a ↔ x ∈ b) → a = b
  | [], [], _, _, _ => rfl
  | [], y :: b, _, _, h => absurd ((h y).mpr List.mem_cons_self) (by simp)
  | x :: a, [], _, _, h => absurd ((h x).mp List.mem_cons_self) (by simp)
  | x :: a, y :: b, ha, hb, h => by
    have ha2 := List.pairwise_cons.mp ha
    have hb2 := List.pairwise_cons.mp hb
    have e : x = y := by
      rcases List.mem_cons.mp ((h x).mp List.mem_cons_self) with q | q
      · exact q
      · rcases List.mem_cons.mp ((h y).mpr List.mem_cons_self) with q' | q'
        · exact q'.symm
        · have := hb2.1 x q
          have := ha2.1 y q'
          omega
    subst e
    congr 1
    refine asc_ext a b ha2.2 hb2.2 fun z => ⟨fun hz => ?_, fun hz => ?_⟩
    · rcases List.mem_cons.mp ((h z).mp (List.mem_cons_of_mem _ hz)) with q | q
      · have := ha2.1 z hz
        omega
      · exact q
    · rcases List.mem_cons.mp ((h z).mpr (List.mem_cons_of_mem _ hz)) with q | q
      · have := hb2.1 z hz
        omega
      · exact q
theorem asc_nodup {a : List Nat} (h : a.Pairwise (· < ·)) : a.Nodup := h.imp fun h => Nat.ne_of_lt h
/-- a component of the graph, in which v lies -/
structure Comp (es : List (Nat × Nat)) (v : Nd) (p : Pt) : Prop where
  asc1 : p.1.Pairwise (· < ·)
  asc2 : p.2.Pairwise (· < ·)
  all : ∀ u, At p u ↔ Cn es v u
theorem Comp.eq {es : List (Nat × Nat)} {v u : Nd} {p q : Pt} (h : Comp es v p) (k : Comp es u q) {x : Nd} (hx : At p x) (kx : At q x) : p = q := by
  have e : ∀ y, At p y ↔ At q y := fun y => by
    rw [h.all, k.all]
    have h1 := (h.all x).mp hx
    have k1 := (k.all x).mp kx
    exact ⟨fun z => k1.trans (h1.symm.trans z), fun z => h1.trans (k1.symm.trans z)⟩
  exact Prod.ext (asc_ext _ _ h.asc1 k.asc1 fun c => e (false, c)) (asc_ext _ _ h.asc2 k.asc2 fun c => e (true, c))
theorem Comp.self {es : List (Nat × Nat)} {v : Nd} {p : Pt} (h : Comp es v p) : At p v := (h.all v).mpr (.refl v)
/-- the components of the graph whose nodes have these names -/
structure Parts (es : List (Nat × Nat)) (ns : List Nat) (ps : List Pt) : Prop where
  nd : ps.Nodup
  cov : ∀ v : Nd, v.2 ∈ ns → ∃ p ∈ ps, At p v
  cmp : ∀ p ∈ ps, ∃ v : Nd, v.2 ∈ ns ∧ Comp es v p
section
variable {es : List (Nat × Nat)} {ns : List Nat} {ps qs : List Pt}
theorem Parts.iff (h : Parts es ns ps) (k : Parts es ns qs) {p : Pt} : p ∈ ps ↔ p ∈ qs := by
  have one : ∀ {ps qs : List Pt}, Parts es ns ps → Parts es ns qs → p ∈ ps → p ∈ qs := fun h k hp => by
    obtain ⟨v, hv, hc⟩ := h.cmp p hp
    obtain ⟨q, hq, ha⟩ := k.cov v hv
    obtain ⟨u, _, hd⟩ := k.cmp q hq
    rw [hc.eq hd hc.self ha]
    exact hq
  exact ⟨one h k, one k h⟩
theorem Parts.nil (hn : ns.Nodup) : Parts [] ns (ns.map (fun c => ([c], [])) ++ ns.map fun c => ([], [c])) := by
  refine ⟨?_, fun v hv => ?_, fun p hp => ?_⟩
  · refine List.nodup_append.mpr ⟨?_, ?_, ?_⟩
    · refine (List.pairwise_map.mpr (hn.imp fun h e => h ?_))
      simpa using e
    · refine (List.pairwise_map.mpr (hn.imp fun h e => h ?_))
      simpa using e
    · intro a ha b hb e
      obtain ⟨c, _, rfl⟩ := List.mem_map.mp ha
      obtain ⟨d, _, rfl⟩ := List.mem_map.mp hb
      simp at e
  · obtain ⟨s, c⟩ := v
    cases s
    · exact ⟨([c], []), List.mem_append_left _ (List.mem_map.mpr ⟨c, hv, rfl⟩), List.mem_singleton.mpr rfl⟩
    · exact ⟨([], [c]), List.mem_append_right _ (List.mem_map.mpr ⟨c, hv, rfl⟩), List.mem_singleton.mpr rfl⟩
  · rcases List.mem_append.mp hp with h | h
    · obtain ⟨c, hc, rfl⟩ := List.mem_map.mp h
      refine ⟨(false, c), hc, by simp, by simp, fun u => ?_⟩
      rw [Cn.nil_iff]
      obtain ⟨s, d⟩ := u
      cases s <;> simp [At]
    · obtain ⟨c, hc, rfl⟩ := List.mem_map.mp h
      refine ⟨(true, c), hc, by simp, by simp, fun u => ?_⟩
      rw [Cn.nil_iff]
      obtain ⟨s, d⟩ := u
      cases s <;> simp [At]
/-- the parts near an edge, and the others -/
def nearP (ps : List Pt) (a b : Nat) : List Pt := ps.filter fun p => decide (a ∈ p.1) || decide (b ∈ p.2)
def farP (ps : List Pt) (a b : Nat) : List Pt := ps.filter fun p => !decide (a ∈ p.1) && !decide (b ∈ p.2)
theorem mem_near {a b : Nat} {p : Pt} : p ∈ nearP ps a b ↔ p ∈ ps ∧ (a ∈ p.1 ∨ b ∈ p.2) := by
  unfold nearP
  rw [List.mem_filter]
  simp
theorem mem_far {a b : Nat} {p : Pt} : p ∈ farP ps a b ↔ p ∈ ps ∧ a ∉ p.1 ∧ b ∉ p.2 := by
  unfold farP
  rw [List.mem_filter]
  simp
theorem nodup_flatMap {f : Pt → List Nat} : ∀ {l : List Pt}, l.Nodup → (∀ p ∈ l, (f p).Nodup) → (∀ p ∈ l, ∀ q ∈ l, ∀ c, c ∈ f p → c ∈ f q → p = q) → (l.flatMap f).Nodup
  | [], _, _, _ => List.nodup_nil
  | p :: l, hn, h1, h2 => by
    have hn2 := List.nodup_cons.mp hn
    rw [List.flatMap_cons]
    refine List.nodup_append.mpr ⟨h1 p List.mem_cons_self, nodup_flatMap hn2.2 (fun q hq => h1 q (List.mem_cons_of_mem _ hq)) (fun q hq r hr => h2 q (List.mem_cons_of_mem _ hq) r (List.mem_cons_of_mem _ hr)), fun c hc d hd e => ?_⟩
    subst e
    obtain ⟨q, hq, hcq⟩ := List.mem_flatMap.mp hd
    have := h2 p List.mem_cons_self q (List.mem_cons_of_mem _ hq) c hc hcq
    rw [this] at hn2
    exact hn2.1 hq
theorem le_asc {l : List Nat} (h : l.Pairwise (· ≤ ·)) (n : l.Nodup) : l.Pairwise (· < ·) := List.Pairwise.imp₂ (fun a b h1 h2 => Nat.lt_of_le_of_ne h1 h2) h n
theorem Parts.step (h : Parts es ns ps) {a b : Nat} (ha : a ∈ ns) (hb : b ∈ ns) {L R : List Nat} (pl : L.Perm ((nearP ps a b).flatMap (·.1))) (pr : R.Perm ((nearP ps a b).flatMap (·.2))) (sl : L.Pairwise (· ≤ ·)) (sr : R.Pairwise (· ≤ ·)) :
    Parts (es ++ [(a, b)]) ns (farP ps a b ++ [(L, R)]) := by
  have nn : (nearP ps a b).Nodup := h.nd.filter _
  have same : ∀ p ∈ ps, ∀ q ∈ ps, ∀ x : Nd, At p x → At q x → p = q := fun p hp q hq x h1 h2 => by
    obtain ⟨v, _, hv⟩ := h.cmp p hp
    obtain ⟨u, _, hu⟩ := h.cmp q hq
    exact hv.eq hu h1 h2
  have nl : ((nearP ps a b).flatMap (·.1)).Nodup := nodup_flatMap nn (fun p hp => by
      obtain ⟨v, _, hv⟩ := h.cmp p (mem_near.mp hp).1
      exact asc_nodup hv.asc1) fun p hp q hq c h1 h2 => same p (mem_near.mp hp).1 q (mem_near.mp hq).1 (false, c) h1 h2
  have nr : ((nearP ps a b).flatMap (·.2)).Nodup := nodup_flatMap nn (fun p hp => by
      obtain ⟨v, _, hv⟩ := h.cmp p (mem_near.mp hp).1
      exact asc_nodup hv.asc2) fun p hp q hq c h1 h2 => same p (mem_near.mp hp).1 q (mem_near.mp hq).1 (true, c) h1 h2
  have at_ : ∀ u, At (L, R) u ↔ ∃ p ∈ nearP ps a b, At p u := fun u => by
    obtain ⟨s, c⟩ := u
    cases s
    · exact (pl.mem_iff).trans List.mem_flatMap
    · exact (pr.mem_iff).trans List.mem_flatMap
  have cn : ∀ u, At (L, R) u ↔ Tch es a b u := fun u => by
    rw [at_]
    constructor
    · rintro ⟨p, hp, hu⟩
      obtain ⟨hp, hn⟩ := mem_near.mp hp
      obtain ⟨v, _, hv⟩ := h.cmp p hp
      have h1 := ((hv.all u).mp hu).symm
      exact hn.imp (fun z => h1.trans ((hv.all (false, a)).mp z)) fun z => h1.trans ((hv.all (true, b)).mp z)
    · rintro (z | z)
      · obtain ⟨p, hp, hq⟩ := h.cov (false, a) ha
        obtain ⟨v, _, hv⟩ := h.cmp p hp
        exact ⟨p, mem_near.mpr ⟨hp, .inl hq⟩, (hv.all u).mpr (((hv.all _).mp hq).trans z.symm)⟩
      · obtain ⟨p, hp, hq⟩ := h.cov (true, b) hb
        obtain ⟨v, _, hv⟩ := h.cmp p hp
        exact ⟨p, mem_near.mpr ⟨hp, .inr hq⟩, (hv.all u).mpr (((hv.all _).mp hq).trans z.symm)⟩
  have ain : At (L, R) (false, a) := (cn _).mpr (.inl (.refl _))
  refine ⟨?_, fun v hv => ?_, fun p hp => ?_⟩
  · refine List.nodup_append.mpr ⟨h.nd.filter _, by simp, fun p hp q hq e => ?_⟩
    obtain rfl := List.mem_singleton.mp hq
    subst e
    exact (mem_far.mp hp).2.1 ain
  · obtain ⟨p, hp, hpv⟩ := h.cov v hv
    by_cases g : a ∈ p.1 ∨ b ∈ p.2
    · exact ⟨(L, R), by simp, (at_ v).mpr ⟨p, mem_near.mpr ⟨hp, g⟩, hpv⟩⟩
    · exact ⟨p, List.mem_append_left _ (mem_far.mpr ⟨hp, fun z => g (.inl z), fun z => g (.inr z)⟩), hpv⟩
  · rcases List.mem_append.mp hp with hp | hp
    · obtain ⟨hp, h1, h2⟩ := mem_far.mp hp
      obtain ⟨v, hv, c⟩ := h.cmp p hp
      refine ⟨v, hv, c.asc1, c.asc2, fun u => ?_⟩
      rw [c.all, Cn.add]
      refine ⟨.inl, fun z => z.elim id fun z => ?_⟩
      rcases z.1 with z | z
      · exact absurd ((c.all (false, a)).mpr z) h1
      · exact absurd ((c.all (true, b)).mpr z) h2
    · obtain rfl := List.mem_singleton.mp hp
      refine ⟨(false, a), ha, le_asc sl (pl.nodup_iff.mpr nl), le_asc sr (pr.nodup_iff.mpr nr), fun u => ?_⟩
      rw [cn, Cn.add]
      refine ⟨fun z => .inr ⟨.inl (.refl _), z⟩, fun z => z.elim (fun z => .inl z.symm) (·.2)⟩
end
/-! the walk from a node -/
def nextN (es : List (Nat × Nat)) (u : Nd) : List Nd :=
  if u.1 then (es.filter fun e => decide (e.2 = u.2)).map fun e => (false, e.1) else (es.filter fun e => decide (e.1 = u.2)).map fun e => (true, e.2)
theorem mem_next {es : List (Nat × Nat)} {u x : Nd} : x ∈ nextN es u ↔ x.1 ≠ u.1 ∧ (if u.1 then (x.2, u.2) ∈ es else (u.2, x.2) ∈ es) := by
  obtain ⟨s, c⟩ := u
  obtain ⟨t, d⟩ := x
  cases s <;> cases t <;> simp [nextN, List.mem_filter]
/-- the nodes found so far, those before index i with all that are next to them -/
structure Wlk (es : List (Nat × Nat)) (v : Nd) (F : List Nd) (i : Nat) : Prop where
  nd : F.Nodup
  st : v ∈ F
  cn : ∀ u ∈ F, Cn es v u
  dn : ∀ k u, k < i → F[k]? = some u → ∀ x ∈ nextN es u, x ∈ F
theorem Wlk.one {es : List (Nat × Nat)} {v : Nd} : Wlk es v [v] 0 := ⟨by simp, by simp, fun u h => by rw [List.mem_singleton.mp h]; exact .refl _, fun k u h => absurd h (Nat.not_lt_zero _)⟩
theorem next_cn {es : List (Nat × Nat)} {v u x : Nd} (h : Cn es v u) (k : x ∈ nextN es u) : Cn es v x := by
  obtain ⟨s, c⟩ := u
  obtain ⟨t, d⟩ := x
  obtain ⟨h1, h2⟩ := mem_next.mp k
  cases s <;> cases t
  · exact absurd rfl h1
  · exact .l2r h h2
  · exact .r2l h h2
  · exact absurd rfl h1
theorem nodup_next {es : List (Nat × Nat)} (hn : es.Nodup) (u : Nd) : (nextN es u).Nodup := by
  unfold nextN
  split
  · refine List.pairwise_map.mpr (List.Pairwise.imp_of_mem (fun {p q} hp hq h e => h ?_) (hn.filter _))
    have h1 := of_decide_eq_true (List.mem_filter.mp hp).2
    have h2 := of_decide_eq_true (List.mem_filter.mp hq).2
    exact Prod.ext (by simpa using e) (h1.trans h2.symm)
  · refine List.pairwise_map.mpr (List.Pairwise.imp_of_mem (fun {p q} hp hq h e => h ?_) (hn.filter _))
    have h1 := of_decide_eq_true (List.mem_filter.mp hp).2
    have h2 := of_decide_eq_true (List.mem_filter.mp hq).2
    exact Prod.ext (h1.trans h2.symm) (by simpa using e)
def newN (es : List (Nat × Nat)) (F : List Nd) (u : Nd) : List Nd := (nextN es u).filter fun x => !decide (x ∈ F)
theorem Wlk.step {es : List (Nat × Nat)} {v u : Nd} {F : List Nd} {i : Nat} (hn : es.Nodup) (h : Wlk es v F i) (hu : F[i]? = some u) : Wlk es v (F ++ newN es F u) (i + 1) := by
  have um := List.mem_of_getElem? hu
  refine ⟨?_, List.mem_append_left _ h.st, fun x hx => ?_, fun k y hk hy x hx => ?_⟩
  · refine List.nodup_append.mpr ⟨h.nd, (nodup_next hn u).filter _, fun a ha b hb e => ?_⟩
    subst e
    have := (List.mem_filter.mp hb).2
    simp [ha] at this
  · rcases List.mem_append.mp hx with hx | hx
    · exact h.cn x hx
    · exact next_cn (h.cn u um) (List.mem_filter.mp hx).1
  · by_cases g : k = i
    · subst g
      have lt := (List.getElem?_eq_some_iff.mp hu).1
      rw [List.getElem?_append_left lt, hu] at hy
      obtain rfl := Option.some.inj hy
      by_cases m : x ∈ F
      · exact List.mem_append_left _ m
      · exact List.mem_append_right _ (List.mem_filter.mpr ⟨hx, by simp [m]⟩)
    · have lt := (List.getElem?_eq_some_iff.mp hu).1
      rw [List.getElem?_append_left (by omega)] at hy
      exact List.mem_append_left _ (h.dn k y (by omega) hy x hx)
theorem Wlk.end {es : List (Nat × Nat)} {v : Nd} {F : List Nd} {i : Nat} (h : Wlk es v F i) (hi : F.length ≤ i) : ∀ u, u ∈ F ↔ Cn es v u := by
  have cl : ∀ u ∈ F, ∀ x ∈ nextN es u, x ∈ F := fun u hu x hx => by
    obtain ⟨k, hk⟩ := List.getElem?_of_mem hu
    have := (List.getElem?_eq_some_iff.mp hk).1
    exact h.dn k u (by omega) hk x hx
  refine fun u => ⟨h.cn u, fun z => ?_⟩
  induction z with
  | refl => exact h.st
  | l2r _ e ih => exact cl _ ih _ (mem_next.mpr ⟨by simp, by simpa using e⟩)
  | r2l _ e ih => exact cl _ ih _ (mem_next.mpr ⟨by simp, by simpa using e⟩)
theorem nd_sub {α : Type} [DecidableEq α] : ∀ (a b : List α), a.Nodup → (∀ x ∈ a, x ∈ b) → a.length ≤ b.length
  | [], b, _, _ => Nat.zero_le _
  | x :: a, b, hn, hs => by
    have hx : x ∈ b := hs x List.mem_cons_self
    have hn2 := List.nodup_cons.mp hn
    have ih := nd_sub a (b.erase x) hn2.2 fun y hy => by
      have ne : y ≠ x := fun e => hn2.1 (e ▸ hy)
      exact (List.mem_erase_of_ne ne).mpr (hs y (List.mem_cons_of_mem _ hy))
    rw [List.length_erase_of_mem hx] at ih
    have := List.length_pos_of_mem hx
    rw [List.length_cons]
    omega
theorem Wlk.len {es : List (Nat × Nat)} {v : Nd} {F : List Nd} {i : Nat} (h : Wlk es v F i) : F.length ≤ 2 * es.length + 1 := by
  refine Nat.le_trans (nd_sub F (v :: (es.map (fun e => (false, e.1)) ++ es.map fun e => (true, e.2))) h.nd fun x hx => ?_) (by simp; omega)
  have := h.cn x hx
  cases this with
  | refl => simp
  | l2r _ e => exact List.mem_cons_of_mem _ (List.mem_append_right _ (List.mem_map.mpr ⟨_, e, rfl⟩))
  | r2l _ e => exact List.mem_cons_of_mem _ (List.mem_append_left _ (List.mem_map.mpr ⟨_, e, rfl⟩))
/-- the walk's whole: the nodes of v's component, none twice -/
structure Whole (es : List (Nat × Nat)) (v : Nd) (F : List Nd) : Prop where
  nd : F.Nodup
  all : ∀ u, u ∈ F ↔ Cn es v u
def sideN (F : List Nd) (s : Bool) : List Nat := (F.filter fun u => decide (u.1 = s)).map (·.2)
theorem mem_side {F : List Nd} {s : Bool} {c : Nat} : c ∈ sideN F s ↔ (s, c) ∈ F := by
  unfold sideN
  constructor
  · intro h
    obtain ⟨u, hu, rfl⟩ := List.mem_map.mp h
    obtain ⟨h1, h2⟩ := List.mem_filter.mp hu
    have h2 := of_decide_eq_true h2
    rw [← h2]
    exact h1
  · intro h
    exact List.mem_map.mpr ⟨_, List.mem_filter.mpr ⟨h, by simp⟩, rfl⟩
theorem nodup_side {F : List Nd} (h : F.Nodup) (s : Bool) : (sideN F s).Nodup := by
  unfold sideN
  refine List.pairwise_map.mpr (List.Pairwise.imp_of_mem (fun {p q} hp hq h e => h ?_) (h.filter _))
  have h1 := of_decide_eq_true (List.mem_filter.mp hp).2
  have h2 := of_decide_eq_true (List.mem_filter.mp hq).2
  exact Prod.ext (h1.trans h2.symm) e
theorem Whole.comp {es : List (Nat × Nat)} {v : Nd} {F : List Nd} (h : Whole es v F) {L R : List Nat} (pl : L.Perm (sideN F false)) (pr : R.Perm (sideN F true)) (sl : L.Pairwise (· ≤ ·)) (sr : R.Pairwise (· ≤ ·)) : Comp es v (L, R) := by
  refine ⟨le_asc sl (pl.nodup_iff.mpr (nodup_side h.nd _)), le_asc sr (pr.nodup_iff.mpr (nodup_side h.nd _)), fun u => ?_⟩
  rw [← h.all]
  obtain ⟨s, c⟩ := u
  cases s
  · exact (pl.mem_iff).trans mem_side
  · exact (pr.mem_iff).trans mem_side
/-- the components of the nodes gone through so far, and the nodes seen -/
structure Gone (es : List (Nat × Nat)) (ns : List Nat) (vs : List Nd) (qs : List Pt) (S : List Nd) : Prop where
  nd : qs.Nodup
  cov : ∀ v ∈ vs, v ∈ S
  cmp : ∀ p ∈ qs, ∃ v : Nd, v.2 ∈ ns ∧ Comp es v p
  sn : ∀ u, u ∈ S ↔ ∃ q ∈ qs, At q u
theorem Gone.nil {es : List (Nat × Nat)} {ns : List Nat} : Gone es ns [] [] [] := ⟨List.nodup_nil, fun _ h => absurd h (by simp), fun _ h => absurd h (by simp), fun u => by simp⟩
theorem Gone.old {es : List (Nat × Nat)} {ns : List Nat} {vs : List Nd} {qs : List Pt} {S : List Nd} (h : Gone es ns vs qs S) {v : Nd} (hv : v ∈ S) : Gone es ns (vs ++ [v]) qs S :=
  ⟨h.nd, fun u hu => (List.mem_append.mp hu).elim (h.cov u) fun z => by rw [List.mem_singleton.mp z]; exact hv, h.cmp, h.sn⟩
theorem Gone.new {es : List (Nat × Nat)} {ns : List Nat} {vs : List Nd} {qs : List Pt} {S : List Nd} (h : Gone es ns vs qs S) {v : Nd} (hn : v.2 ∈ ns) (hv : v ∉ S) {F : List Nd} (w : Whole es v F) {p : Pt} (c : Comp es v p) : Gone es ns (vs ++ [v]) (qs ++ [p]) (S ++ F) := by
  refine ⟨List.nodup_append.mpr ⟨h.nd, by simp, fun q hq r hr e => ?_⟩, fun u hu => ?_, fun q hq => ?_, fun u => ?_⟩
  · obtain rfl := List.mem_singleton.mp hr
    subst e
    exact hv ((h.sn v).mpr ⟨q, hq, c.self⟩)
  · rcases List.mem_append.mp hu with hu | hu
    · exact List.mem_append_left _ (h.cov u hu)
    · rw [List.mem_singleton.mp hu]
      exact List.mem_append_right _ ((w.all v).mpr (.refl v))
  · rcases List.mem_append.mp hq with hq | hq
    · exact h.cmp q hq
    · rw [List.mem_singleton.mp hq]
      exact ⟨v, hn, c⟩
  · rw [List.mem_append, h.sn, w.all, ← c.all]
    constructor
    · rintro (⟨q, hq, hu⟩ | hu)
      · exact ⟨q, List.mem_append_left _ hq, hu⟩
      · exact ⟨p, by simp, hu⟩
    · rintro ⟨q, hq, hu⟩
      rcases List.mem_append.mp hq with hq | hq
      · exact .inl ⟨q, hq, hu⟩
      · rw [List.mem_singleton.mp hq] at hu
        exact .inr hu
theorem Gone.parts {es : List (Nat × Nat)} {ns : List Nat} {vs : List Nd} {qs : List Pt} {S : List Nd} (h : Gone es ns vs qs S) (all : ∀ v : Nd, v.2 ∈ ns → v ∈ vs) : Parts es ns qs :=
  ⟨h.nd, fun v hv => (h.sn v).mp (h.cov v (all v hv)), h.cmp⟩
/-! ### the parts in order -/
/-- the sign c as a text -/
def ch1 (c : Nat) : Str := ⟨#[c]⟩
theorem ch1_inj {a b : Nat} (h : ch1 a = ch1 b) : a = b := by
  have h : (#[a] : Array Nat) = #[b] := congrArg Str.cps h
  simpa using h
def edS (e : Nat × Nat) : List Str := [ch1 e.1, ch1 e.2]
def ptS (q : Pt) : List Str := [tx q.1, tx q.2]
def sd (b : Bool) : Str := if b then Str.ofString "right" else Str.ofString "left"
def ndS (u : Nd) : List Str := [sd u.1, ch1 u.2]
def edV (e : Nat × Nat) : List V := (edS e).map V.str
def ptV (q : Pt) : List V := (ptS q).map V.str
def ndV (u : Nd) : List V := (ndS u).map V.str
theorem sd_ne : Str.ofString "right" ≠ Str.ofString "left" := by decide +kernel
theorem sd_inj {a b : Bool} (h : sd a = sd b) : a = b := by
  cases a <;> cases b
  · rfl
  · exact absurd h.symm sd_ne
  · exact absurd h sd_ne
  · rfl
theorem edS_inj {a b : Nat × Nat} (h : edS a = edS b) : a = b := by
  obtain ⟨h1, h2⟩ := List.cons.inj h
  obtain ⟨h2, _⟩ := List.cons.inj h2
  exact Prod.ext (ch1_inj h1) (ch1_inj h2)
theorem ptS_inj {a b : Pt} (h : ptS a = ptS b) : a = b := by
  obtain ⟨h1, h2⟩ := List.cons.inj h
  obtain ⟨h2, _⟩ := List.cons.inj h2
  exact Prod.ext (tx_inj h1) (tx_inj h2)
theorem ndS_inj {a b : Nd} (h : ndS a = ndS b) : a = b := by
  obtain ⟨h1, h2⟩ := List.cons.inj h
  obtain ⟨h2, _⟩ := List.cons.inj h2
  exact Prod.ext (sd_inj h1) (ch1_inj h2)
/-- in order -/
def LeS {α : Type} (g : α → List Str) (a b : α) : Prop := lexS (two (g b)) (two (g a)) = false
theorem ptS_anti {a b : Pt} (h : LeS ptS a b) (k : LeS ptS b a) : a = b := by
  have e := lexS_eq h k
  have e : (tx b.1, tx b.2) = (tx a.1, tx a.2) := e
  obtain ⟨e1, e2⟩ := Prod.mk.inj e
  exact (Prod.ext (tx_inj e1) (tx_inj e2)).symm
theorem perm_le_eq {α : Type} {le : α → α → Prop} (anti : ∀ a b, le a b → le b a → a = b) : ∀ {a b : List α}, a.Perm b → a.Pairwise le → b.Pairwise le → a = b
  | [], [], _, _, _ => rfl
  | [], y :: b, h, _, _ => absurd h.length_eq (by simp)
  | x :: a, [], h, _, _ => absurd h.length_eq (by simp)
  | x :: a, y :: b, h, ha, hb => by
    have ha2 := List.pairwise_cons.mp ha
    have hb2 := List.pairwise_cons.mp hb
    have e : x = y := by
      rcases List.mem_cons.mp (h.mem_iff.mp List.mem_cons_self) with q | q
      · exact q
      · rcases List.mem_cons.mp (h.mem_iff.mpr List.mem_cons_self) with q' | q'
        · exact q'.symm
        · exact anti _ _ (ha2.1 y q') (hb2.1 x q)
    subst e
    rw [perm_le_eq anti ((List.perm_cons x).mp h) ha2.2 hb2.2]
theorem perm_of_nodup {α : Type} [DecidableEq α] : ∀ {a b : List α}, a.Nodup → b.Nodup → (∀ x, x ∈ a ↔ x ∈ b) → a.Perm b
  | [], [], _, _, _ => .refl _
  | [], y :: b, _, _, h => absurd ((h y).mpr List.mem_cons_self) (by simp)
  | x :: a, b, ha, hb, h => by
    have ha2 := List.nodup_cons.mp ha
    have hx : x ∈ b := (h x).mp List.mem_cons_self
    have ih := perm_of_nodup (a := a) (b := b.erase x) ha2.2 (hb.erase x) fun z => by
      rw [hb.mem_erase_iff, ← h z, List.mem_cons]
      exact ⟨fun q => ⟨fun e => ha2.1 (e ▸ q), .inr q⟩, fun q => q.2.elim (fun e => absurd e q.1) id⟩
    exact (ih.cons x).trans (List.perm_cons_erase hx).symm
/-- the components in order -/
structure Comps (es : List (Nat × Nat)) (ns : List Nat) (ps : List Pt) : Prop where
  prt : Parts es ns ps
  ord : ps.Pairwise (LeS ptS)
theorem Comps.eq {es : List (Nat × Nat)} {ns : List Nat} {ps qs : List Pt} (h : Comps es ns ps) (k : Comps es ns qs) : ps = qs :=
  perm_le_eq (fun _ _ => ptS_anti) (perm_of_nodup h.prt.nd k.prt.nd fun _ => h.prt.iff k.prt) h.ord k.ord
theorem Parts.perm {es : List (Nat × Nat)} {ns : List Nat} {ps qs : List Pt} (h : Parts es ns ps) (p : qs.Perm ps) : Parts es ns qs :=
  ⟨p.nodup_iff.mpr h.nd, fun v hv => by
    obtain ⟨q, hq, a⟩ := h.cov v hv
    exact ⟨q, p.mem_iff.mpr hq, a⟩, fun q hq => h.cmp q (p.mem_iff.mp hq)⟩
theorem Parts.names {es : List (Nat × Nat)} {ns ms : List Nat} {ps : List Pt} (h : Parts es ns ps) (e : ∀ c, c ∈ ns ↔ c ∈ ms) : Parts es ms ps :=
  ⟨h.nd, fun v hv => h.cov v ((e _).mpr hv), fun p hp => by
    obtain ⟨v, hv, c⟩ := h.cmp p hp
    exact ⟨v, (e _).mp hv, c⟩⟩
/-- ascending pairs, none twice -/
def ltE (p q : Nat × Nat) : Prop := p.1 < q.1 ∨ (p.1 = q.1 ∧ p.2 < q.2)
theorem slt_ch (a b : Nat) : sltB (ch1 a) (ch1 b) = decide (a < b) := by
  unfold sltB ch1
  refine decide_eq_decide.mpr ?_
  show [a] < [b] ↔ a < b
  rw [List.cons_lt_cons_iff]
  exact ⟨fun h => h.elim id fun z => absurd z.2 (List.lt_irrefl _), .inl⟩
theorem lex_ch (p q : Nat × Nat) (h : lexS (ch1 p.1, ch1 p.2) (ch1 q.1, ch1 q.2) = false) (ne : p ≠ q) : ltE q p := by
  unfold lexS at h
  dsimp only at h
  by_cases e : p.1 = q.1
  · rw [e, if_pos rfl, slt_ch] at h
    have h := of_decide_eq_false h
    have : p.2 ≠ q.2 := fun z => ne (Prod.ext e z)
    exact .inr ⟨e.symm, by omega⟩
  · rw [if_neg (fun z => e (ch1_inj z)), slt_ch] at h
    have h := of_decide_eq_false h
    exact .inl (by omega)
theorem ltE_ne {p q : Nat × Nat} (h : ltE p q) : p ≠ q := fun e => by
  subst e
  rcases h with h | h
  · exact Nat.lt_irrefl _ h
  · exact Nat.lt_irrefl _ h.2
theorem ltE_asym {p q : Nat × Nat} (h : ltE p q) (k : ltE q p) : False := by
  rcases h with h | h <;> rcases k with k | k <;> omega
/-- the edges of a graph: ascending, just these -/
structure Edges (es : List (Nat × Nat)) (E : Nat × Nat → Prop) : Prop where
  mem : ∀ e, e ∈ es ↔ E e
  asc : es.Pairwise ltE
theorem Edges.nd {es : List (Nat × Nat)} {E : Nat × Nat → Prop} (h : Edges es E) : es.Nodup := h.asc.imp fun h => ltE_ne h
theorem Edges.eq {es fs : List (Nat × Nat)} {E : Nat × Nat → Prop} (h : Edges es E) (k : Edges fs E) : es = fs :=
  perm_le_eq (fun _ _ a b => (ltE_asym a b).elim) (perm_of_nodup h.nd k.nd fun e => (h.mem e).trans (k.mem e).symm) h.asc k.asc
/-- the neighbours -/
def nbr (cs : List Nat) : List (Nat × Nat) := cs.zip (cs.drop 1)
theorem nbr_in {cs : List Nat} {e : Nat × Nat} (h : e ∈ nbr cs) : e.1 ∈ cs ∧ e.2 ∈ cs := by
  obtain ⟨h1, h2⟩ := List.of_mem_zip (show (e.1, e.2) ∈ cs.zip (cs.drop 1) from h)
  exact ⟨h1, List.mem_of_mem_drop h2⟩
theorem nbr_len (cs : List Nat) : (nbr cs).length ≤ cs.length := by
  unfold nbr
  rw [List.length_zip]
  omega
/-! ### where tuples stand -/
structure TpsAt {α : Type} (f : α → List V) (H : Hp) (ps : List Addr) (qs : List α) : Prop where
  len : ps.length = qs.length
  el : ∀ (k : Nat) (p : Addr) (q : α), ps[k]? = some p → qs[k]? = some q → H p = some (.tup (f q))
section
variable {α : Type} {f : α → List V} {H H' : Hp} {ps rs : List Addr} {qs us : List α}
theorem TpsAt.same (h : TpsAt f H ps qs) (s : Same H H') : TpsAt f H' ps qs := ⟨h.len, fun k p q a b => s _ _ (h.el k p q a b)⟩
theorem TpsAt.but {d : Addr} {o : HO} (h : TpsAt f H ps qs) (hd : H d = some o) (no : ∀ xs, o ≠ .tup xs) (s : But d H H') : TpsAt f H' ps qs :=
  ⟨h.len, fun k p q a b => s _ _ (fun e => by
    have := h.el k p q a b
    rw [e, hd] at this
    exact no _ (Option.some.inj this)) (h.el k p q a b)⟩
theorem TpsAt.nil : TpsAt f H [] [] := ⟨rfl, fun k p q h => by simp at h⟩
theorem TpsAt.one {p : Addr} {q : α} (h : H p = some (.tup (f q))) : TpsAt f H [p] [q] := ⟨rfl, fun k p' q' h1 h2 => by
  cases k with
  | zero =>
    obtain rfl : p = p' := by simpa using h1
    obtain rfl : q = q' := by simpa using h2
    exact h
  | succ k => simp at h1⟩
theorem TpsAt.app (h : TpsAt f H ps qs) (g : TpsAt f H rs us) : TpsAt f H (ps ++ rs) (qs ++ us) := by
  refine ⟨by rw [List.length_append, List.length_append, h.len, g.len], fun k p q hp hq => ?_⟩
  have hl := h.len
  by_cases lt : k < ps.length
  · rw [List.getElem?_append_left lt] at hp
    rw [List.getElem?_append_left (by omega)] at hq
    exact h.el k p q hp hq
  · rw [List.getElem?_append_right (by omega)] at hp
    rw [List.getElem?_append_right (by omega), ← hl] at hq
    exact g.el _ p q hp hq
theorem TpsAt.add {p : Addr} {q : α} (h : TpsAt f H ps qs) (e : H p = some (.tup (f q))) : TpsAt f H (ps ++ [p]) (qs ++ [q]) := h.app (.one e)
theorem TpsAt.get (h : TpsAt f H ps qs) {k : Nat} {q : α} (hq : qs[k]? = some q) : ∃ p, ps[k]? = some p ∧ H p = some (.tup (f q)) := by
  have lt := (List.getElem?_eq_some_iff.mp hq).1
  have hl := h.len
  exact ⟨ps[k], List.getElem?_eq_getElem (by omega), h.el k _ q (List.getElem?_eq_getElem (by omega)) hq⟩
theorem TpsAt.at (h : TpsAt f H ps qs) {k : Nat} {p : Addr} (hp : ps[k]? = some p) : ∃ q, qs[k]? = some q ∧ H p = some (.tup (f q)) := by
  have lt := (List.getElem?_eq_some_iff.mp hp).1
  have hl := h.len
  exact ⟨qs[k], List.getElem?_eq_getElem (by omega), h.el k p _ hp (List.getElem?_eq_getElem (by omega))⟩
theorem TpsAt.refs (h : TpsAt f H ps qs) {k : Nat} {v : V} (hv : (ps.map V.ref)[k]? = some v) : ∃ p q, v = .ref p ∧ qs[k]? = some q ∧ H p = some (.tup (f q)) := by
  rw [List.getElem?_map] at hv
  obtain ⟨p, hp, rfl⟩ := Option.map_eq_some_iff.mp hv
  obtain ⟨q, h1, h2⟩ := h.at hp
  exact ⟨p, q, rfl, h1, h2⟩
theorem TpsAt.put {D T : Addr} {q : α} {xs ys : List V} (h : TpsAt f H ps qs) (hD : H D = some (.lst xs)) (nT : H T = none) : TpsAt f (upd (upd H T (.tup (f q))) D (.lst ys)) (ps ++ [T]) (qs ++ [q]) := by
  have ne : T ≠ D := fun e => by
    rw [e, hD] at nT
    cases nT
  exact ((h.same (same_new nT)).but (d := D) (o := .lst xs) (by rw [upd_ne ne.symm]; exact hD) (fun _ e => by cases e) But.set).add (by rw [upd_ne ne, upd_same])
theorem TpsAt.set {D : Addr} {o : HO} {xs : List V} (h : TpsAt f H ps qs) (hD : H D = some (.lst xs)) : TpsAt f (upd H D o) ps qs := h.but (d := D) hD (fun _ e => by cases e) But.set
theorem TpsAt.tail {p : Addr} {q : α} (h : TpsAt f H (p :: ps) (q :: qs)) : TpsAt f H ps qs := ⟨by simpa using h.len, fun k p' q' a b => h.el (k + 1) p' q' (by simpa using a) (by simpa using b)⟩
theorem TpsAt.rl (h : TpsAt f H ps qs) : (ps.map V.ref).length = qs.length := by rw [List.length_map, h.len]
theorem TpsAt.ks {g : α → List Str} : ∀ {ps : List Addr} {qs : List α}, TpsAt (fun q => (g q).map V.str) H ps qs →
    ∃ ks : List (Addr × List Str), (ks.map fun p => V.ref p.1) = ps.map V.ref ∧ ks.map (·.2) = qs.map g ∧ ∀ p ∈ ks, (∃ q, p.2 = g q) ∧ H p.1 = some (.tup (p.2.map V.str))
  | [], [], _ => ⟨[], rfl, rfl, fun _ h => absurd h (by simp)⟩
  | [], q :: qs, h => absurd h.len (by simp)
  | p :: ps, [], h => absurd h.len (by simp)
  | p :: ps, q :: qs, h => by
    obtain ⟨ks, e1, e2, e3⟩ := h.tail.ks
    refine ⟨(p, g q) :: ks, by rw [List.map_cons, List.map_cons, e1], by rw [List.map_cons, List.map_cons, e2], fun x hx => ?_⟩
    rcases List.mem_cons.mp hx with rfl | hx
    · exact ⟨⟨q, rfl⟩, h.el 0 p q rfl rfl⟩
    · exact e3 x hx
theorem tps_back {g : α → List Str} : ∀ {L : List (Addr × List Str)}, (∀ p ∈ L, (∃ q, p.2 = g q) ∧ H p.1 = some (.tup (p.2.map V.str))) →
    ∃ us : List α, L.map (·.2) = us.map g ∧ TpsAt (fun q => (g q).map V.str) H (L.map (·.1)) us
  | [], _ => ⟨[], rfl, .nil⟩
  | p :: L, h => by
    obtain ⟨us, e1, e2⟩ := tps_back fun x hx => h x (List.mem_cons_of_mem p hx)
    obtain ⟨⟨q, hq⟩, e3⟩ := h p List.mem_cons_self
    rw [hq] at e3
    exact ⟨q :: us, by rw [List.map_cons, List.map_cons, e1, hq], TpsAt.app (ps := [p.1]) (qs := [q]) (.one e3) e2⟩
theorem map_inj_eq {β : Type} {g : α → β} (inj : ∀ a b, g a = g b → a = b) : ∀ {a b : List α}, a.map g = b.map g → a = b
  | [], [], _ => rfl
  | [], y :: b, h => by simp at h
  | x :: a, [], h => by simp at h
  | x :: a, y :: b, h => by
    rw [List.map_cons, List.map_cons] at h
    obtain ⟨h1, h2⟩ := List.cons.inj h
    rw [inj _ _ h1, map_inj_eq inj h2]
theorem perm_map_inj {β : Type} {g : α → β} (inj : ∀ a b, g a = g b → a = b) {a b : List α} (h : (a.map g).Perm (b.map g)) : a.Perm b := by
  obtain ⟨L2, p, e⟩ := perm_of_map h rfl
  rw [map_inj_eq inj e]
  exact p
theorem SqT.strs {K : PySem.W.Frag} {p : Addr} {ss : List Str} (h : H p = some (.tup (ss.map V.str))) : SqT K H p (ss.map V.str) := SqT.of h
/-- sorted(a list of pairs of texts) -/
theorem sortPs_of {K : PySem.W.Frag} {l : Addr} {g : α → List Str} {Q : VK} (two_ : ∀ q, (g q).length = 2) (inj : ∀ a b, g a = g b → a = b) (hl : H l = some (.lst (ps.map V.ref))) (h : TpsAt (fun q => (g q).map V.str) H ps qs)
    (q : ∀ rs us p, us.Perm qs → us.Pairwise (LeS g) → TpsAt (fun q => (g q).map V.str) H rs us → H p = none → Q (.ref p) (upd H p (.lst (rs.map V.ref)))) : rSortPs K [.ref l] H Q := by
  obtain ⟨ks, e1, e2, e3⟩ := h.ks
  refine ⟨l, ks, rfl, SqL.of (by rw [e1]; exact hl), fun p hp => ?_, fun L' p pm pw np => ?_⟩
  · obtain ⟨⟨x, hx⟩, hp⟩ := e3 p hp
    exact ⟨SqT.of hp, by rw [hx]; exact two_ x⟩
  · obtain ⟨us, f1, f2⟩ := tps_back (g := g) (L := L') fun x hx => e3 x (pm.mem_iff.mp hx)
    have r := q (L'.map (·.1)) us p (perm_map_inj inj (by rw [← f1, ← e2]; exact pm.map _)) ?_ f2 np
    · rw [List.map_map] at r
      exact r
    · have z := (List.pairwise_map (f := fun p : Addr × List Str => p.2) (R := fun a b => lexS (two b) (two a) = false)).mpr pw
      rw [f1] at z
      exact (List.pairwise_map (f := g)).mp z
/-- sorted(set(a list of pairs of texts)) -/
theorem sortSet_of {P : Program} {w : World} {K : PySem.W.Frag} {l : Addr} {g : α → List Str} {Q : VK} (two_ : ∀ q, (g q).length = 2) (inj : ∀ a b, g a = g b → a = b) (hl : H l = some (.lst (ps.map V.ref))) (h : TpsAt (fun q => (g q).map V.str) H ps qs) (few : qs.length < 64)
    (q : ∀ rs us p H', Same H H' → H p = none → H' p = some (.lst (rs.map V.ref)) → TpsAt (fun q => (g q).map V.str) H' rs us → (∀ e, e ∈ us ↔ e ∈ qs) → us.Nodup → us.Pairwise (LeS g) → Q (.ref p) H') : rSetKs K P w [.ref l] H fun v H1 => rSortKs K P w [v] H1 Q := by
  obtain ⟨ks, e1, e2, e3⟩ := h.ks
  have kl : ks.length = qs.length := by
    have := congrArg List.length e2
    rw [List.length_map, List.length_map] at this
    exact this
  refine ⟨l, ks, rfl, SqL.of (by rw [e1]; exact hl), fun p hp => ?_, by omega, fun a L na has nd => ?_⟩
  · exact SqT.of (e3 p hp).2
  have s3 : Same H (upd H a (SetKO P w a L)) := same_new na
  have e4 : ∀ p ∈ L, (∃ q, p.2 = g q) ∧ upd H a (SetKO P w a L) p.1 = some (.tup (p.2.map V.str)) := fun p hp => ⟨(e3 p (has.of p hp)).1, s3 _ _ (e3 p (has.of p hp)).2⟩
  refine ⟨a, L, rfl, upd_same, fun p hp => ?_, fun L' p pm pw np => ?_⟩
  · obtain ⟨⟨x, hx⟩, hp⟩ := e4 p hp
    exact ⟨SqT.of hp, by rw [hx]; exact two_ x⟩
  · have s4 := same_new (o := .lst (L'.map fun q => V.ref q.1)) np
    obtain ⟨us, f1, f2⟩ := tps_back (g := g) (L := L') fun x hx => e4 x (pm.mem_iff.mp hx)
    refine q (L'.map (·.1)) us p _ (s3.trans s4) (s3.free np) (by rw [upd_same, List.map_map]; rfl) (f2.same s4) (fun e => ?_) ?_ ?_
    · have m1 : e ∈ us ↔ g e ∈ L'.map (·.2) := by
        rw [f1]
        exact ⟨fun h => List.mem_map.mpr ⟨e, h, rfl⟩, fun h => by
          obtain ⟨x, h1, h2⟩ := List.mem_map.mp h
          rw [← inj _ _ h2]
          exact h1⟩
      have m2 : e ∈ qs ↔ g e ∈ ks.map (·.2) := by
        rw [e2]
        exact ⟨fun h => List.mem_map.mpr ⟨e, h, rfl⟩, fun h => by
          obtain ⟨x, h1, h2⟩ := List.mem_map.mp h
          rw [← inj _ _ h2]
          exact h1⟩
      rw [m1, m2]
      constructor
      · intro h
        obtain ⟨x, h1, h2⟩ := List.mem_map.mp h
        exact List.mem_map.mpr ⟨x, has.of x (pm.mem_iff.mp h1), h2⟩
      · intro h
        obtain ⟨x, h1, h2⟩ := List.mem_map.mp h
        rw [← h2]
        exact (pm.map (·.2)).mem_iff.mpr (has.all x h1)
    · have nd' : (L'.map (·.2)).Nodup := (pm.map (·.2)).nodup_iff.mpr nd
      rw [f1] at nd'
      exact (List.pairwise_map.mp nd').imp fun h e => h (congrArg g e)
    · have z := (List.pairwise_map (f := fun p : Addr × List Str => p.2) (R := fun a b => lexS (two b) (two a) = false)).mpr pw
      rw [f1] at z
      exact (List.pairwise_map (f := g)).mp z
end
theorem edges_of {es : List (Nat × Nat)} {E : Nat × Nat → Prop} (m : ∀ e, e ∈ es ↔ E e) (n : es.Nodup) (o : es.Pairwise (LeS edS)) : Edges es E :=
  ⟨m, List.Pairwise.imp₂ (fun a b h1 h2 => lex_ch b a h1 fun e => h2 e.symm) o n⟩
/-! ### signs sorted -/
theorem signs_are : ∀ (ys : List Str), (∀ y ∈ ys, ∃ c : Nat, y = ch1 c) → ∃ ls : List Nat, ys = ls.map ch1
  | [], _ => ⟨[], rfl⟩
  | y :: ys, h => by
    obtain ⟨c, rfl⟩ := h y List.mem_cons_self
    obtain ⟨ls, rfl⟩ := signs_are ys fun z hz => h z (List.mem_cons_of_mem _ hz)
    exact ⟨c :: ls, rfl⟩
theorem signs_sort {zs : List Str} {cs : List Nat} (p : zs.Perm (cs.map ch1)) (o : zs.Pairwise fun x y => sltB y x = false) : ∃ ls : List Nat, zs = ls.map ch1 ∧ ls.Perm cs ∧ ls.Pairwise (· ≤ ·) := by
  obtain ⟨ls, pl, rfl⟩ := perm_of_map p rfl
  refine ⟨ls, rfl, pl, (List.pairwise_map.mp o).imp fun {a b} h => ?_⟩
  rw [slt_ch] at h
  exact Nat.not_lt.mp (of_decide_eq_false h)
theorem sortTxt_of {H : Hp} {cs : List Nat} {Q : VK} (hl : cs.length ≤ 4000) (q : ∀ (ls : List Nat) p H', ls.Perm cs → ls.Pairwise (· ≤ ·) → Same H H' → H p = none → H' p = some (.lst (ls.map sg)) → Q (.ref p) H') : rSortTxt [.str (tx cs)] H Q :=
  ⟨tx cs, rfl, by rw [tx_size]; exact hl, fun zs p H' pm pw s np hp => by
    obtain ⟨ls, rfl, pl, ol⟩ := signs_sort pm pw
    exact q ls p H' pl ol s np (by rw [hp, List.map_map]; rfl)⟩
theorem lt_sg (x p : Nat) : ltCps [x] [p] = decide (x < p) := by
  by_cases h : x < p
  · simp [ltCps, h]
  · by_cases h2 : x = p
    · simp [ltCps, h2]
    · simp [ltCps, h, h2]
theorem rising_ch : ∀ (ls : List Nat) (p : Nat), risingS (ch1 p) (ls.map ch1) = true → (p :: ls).Pairwise (· ≤ ·)
  | [], p, _ => by simp
  | x :: ls, p, h => by
    have h2 : (!ltCps [x] [p] && risingS (ch1 x) (ls.map ch1)) = true := h
    obtain ⟨h3, h4⟩ := Bool.and_eq_true_iff.mp h2
    rw [lt_sg] at h3
    have h5 : ¬ x < p := by simpa using h3
    have ih := rising_ch ls x h4
    refine List.pairwise_cons.mpr ⟨fun y hy => ?_, ih⟩
    rcases List.mem_cons.mp hy with q | q
    · omega
    · have := (List.pairwise_cons.mp ih).1 y q
      omega
theorem sorted_le {ls : List Nat} (h : sortedS (ls.map ch1) = true) : ls.Pairwise (· ≤ ·) := by
  cases ls with
  | nil => exact List.Pairwise.nil
  | cons p r => exact rising_ch r p h
/-- sorted(set(text)): the signs -/
theorem signs_set {ys : List Str} {cs : List Nat} (p : ys.Perm ((met cs).map fun c => (⟨#[c]⟩ : Str))) (h : sortedS ys = true) : ∃ ls : List Nat, ys = ls.map ch1 ∧ ls.Pairwise (· < ·) ∧ (∀ c, c ∈ ls ↔ c ∈ cs) ∧ ls.length = (met cs).length := by
  obtain ⟨ls, pl, rfl⟩ := perm_of_map p rfl
  exact ⟨ls, rfl, le_asc (sorted_le h) (pl.nodup_iff.mpr (met_nodup cs)), fun c => pl.mem_iff.trans mem_met, pl.length_eq⟩
/-! ### texts joined -/
def tzs (l : List (List Nat)) : List V := l.map fun q => V.str (tx q)
theorem tzs_strs (l : List (List Nat)) : tzs l = (l.map tx).map V.str := by
  unfold tzs
  rw [List.map_map]
  rfl
theorem join_tzs : ∀ l : List (List Nat), Txt.join (Str.ofString "") (l.map tx) = tx l.flatten := by
  have key : ∀ l : List (List Nat), Str.join (tx []) (l.map tx) = tx l.flatten := by
    intro l
    induction l with
    | nil => rfl
    | cons u r ih =>
      cases r with
      | nil =>
        show tx u = tx (u ++ [])
        rw [List.append_nil]
      | cons v r =>
        show tx u ++ tx [] ++ Str.join (tx []) ((v :: r).map tx) = tx (u :: v :: r).flatten
        rw [ih, tx_app, tx_app, List.append_nil]
        rfl
  intro l
  show Builtin.Str.glued _ _ = _
  rw [StrLaws.glued_eq_join, tx_nil]
  exact key l
theorem tzs_room {l : List (List Nat)} (h : l.flatten.length ≤ 100000) : ((l.map tx).map (·.length)).sum + (l.map tx).length * (Str.ofString "").length ≤ 16777216 := by
  have e3 : (Str.ofString "").length = 0 := by decide
  have e : ∀ l : List (List Nat), ((l.map tx).map (·.length)).sum = l.flatten.length := by
    intro l
    induction l with
    | nil => rfl
    | cons u r ih => rw [List.map_cons, List.map_cons, List.sum_cons, ih, tx_len, List.flatten_cons, List.length_append]
  rw [e, e3]
  omega
theorem sgs_room {zs : List Nat} (h : zs.length ≤ 100000) : ((zs.map fun c => (⟨#[c]⟩ : Str)).map (·.length)).sum + (zs.map fun c => (⟨#[c]⟩ : Str)).length * (Str.ofString "").length ≤ 16777216 := by
  have e3 : (Str.ofString "").length = 0 := by decide
  have e2 : ∀ l : List Nat, ((l.map fun c => (⟨#[c]⟩ : Str)).map (·.length)).sum = l.length := by
    intro l
    induction l with
    | nil => rfl
    | cons x l ih =>
      rw [List.map_cons, List.map_cons, List.sum_cons, ih, List.length_cons]
      show 1 + l.length = _
      omega
  rw [e2, e3]
  omega
theorem sgs_map (zs : List Nat) : zs.map sg = (zs.map fun c => (⟨#[c]⟩ : Str)).map V.str := by rw [List.map_map]; rfl
/-! ### nodes as data -/
def ndD (u : Nd) : PyData := .tuple [.str (sd u.1), .str (ch1 u.2)]
theorem sd_lay (b : Bool) : (PyData.str (sd b)).canLay0 = true := by
  cases b <;> decide +kernel
theorem ch1_lay {c : Nat} (h : c < 128) : (PyData.str (ch1 c)).canLay0 = true := by
  have : ∀ c : Fin 128, (PyData.str (ch1 c.1)).canLay0 = true := by decide +kernel
  exact this ⟨c, h⟩
theorem ndD_lay {u : Nd} (h : u.2 < 128) : (ndD u).canLay0 = true := by
  simp only [ndD, PyData.canLay0, PyData.canLayAll0, Bool.and_true]
  have h1 := sd_lay u.1
  have h2 := ch1_lay h
  simp only [PyData.canLay0] at h1 h2
  rw [h1, h2]
  rfl
theorem ndD_depth (u : Nd) : (ndD u).depth = 1 := by simp [ndD, PyData.depth, PyData.depthAll]
theorem ndDs_lay : ∀ {us : List Nd}, (∀ u ∈ us, u.2 < 128) → PyData.canLayAll0 (us.map ndD) = true
  | [], _ => by simp [PyData.canLayAll0]
  | u :: us, h => by
    rw [List.map_cons]
    simp only [PyData.canLayAll0]
    rw [ndD_lay (h u List.mem_cons_self), ndDs_lay fun v hv => h v (List.mem_cons_of_mem _ hv)]
    rfl
theorem ndDs_depth : ∀ us : List Nd, PyData.depthAll (us.map ndD) ≤ 1
  | [] => by simp [PyData.depthAll]
  | u :: us => by
    have h1 := ndDs_depth us
    have h2 := ndD_depth u
    simp only [List.map_cons, PyData.depthAll]
    omega
theorem ndD_shaped {u : Nd} (h : u.2 < 128) : SeqAt.shaped (ndD u) = true := by
  have h1 := ndD_depth u
  show ((ndD u).canLay0 && decide ((ndD u).depth ≤ 64)) = true
  rw [Bool.and_eq_true]
  exact ⟨ndD_lay h, decide_eq_true (by omega)⟩
theorem ndDs_shaped {us : List Nd} (h : ∀ u ∈ us, u.2 < 128) : SeqAt.shaped (.list (us.map ndD)) = true := by
  have h1 := ndDs_depth us
  have h2 : PyData.depth (.list (us.map ndD)) ≤ 64 := by
    simp only [PyData.depth]
    omega
  show (PyData.canLay0 (.list (us.map ndD)) && decide (PyData.depth (.list (us.map ndD)) ≤ 64)) = true
  rw [Bool.and_eq_true]
  exact ⟨by simp only [PyData.canLay0]; exact ndDs_lay h, decide_eq_true h2⟩
theorem ndD_eqv (u v : Nd) : PyData.eqv (ndD u) (ndD v) = decide (u = v) := by
  have e : PyData.eqv (ndD u) (ndD v) = ((sd u.1 == sd v.1) && ((ch1 u.2 == ch1 v.2) && true)) := by simp only [ndD, PyData.eqv, PyData.eqvAll]
  rw [e, Bool.eq_iff_iff]
  simp only [Bool.and_true, Bool.and_eq_true, beq_iff_eq, decide_eq_true_eq]
  exact ⟨fun h => Prod.ext (sd_inj h.1) (ch1_inj h.2), fun h => by rw [h]; exact ⟨rfl, rfl⟩⟩
section
variable {K : PySem.W.Frag} {H : Hp}
theorem ndV_dp {p : Addr} {u : Nd} (h : H p = some (.tup (ndV u))) : Dp K H (.ref p) (ndD u) := .tup (SqT.of h) (.cons (.str _) (.cons (.str _) .nil))
theorem ndVs_dp : ∀ {ps : List Addr} {us : List Nd}, TpsAt ndV H ps us → DpAll K H (ps.map V.ref) (us.map ndD)
  | [], [], _ => .nil
  | [], q :: qs, h => absurd h.len (by simp)
  | p :: ps, [], h => absurd h.len (by simp)
  | p :: ps, q :: qs, h => .cons (ndV_dp (h.el 0 p q rfl rfl)) (ndVs_dp h.tail)
theorem notIn_nd {Q : VK} {p l : Addr} {u : Nd} {ps : List Addr} {us : List Nd} (hp : H p = some (.tup (ndV u))) (hl : SqL K H l (ps.map V.ref)) (h : TpsAt ndV H ps us) (lo : u.2 < 128) (los : ∀ v ∈ us, v.2 < 128)
    (q : Q (.bl (!decide (u ∈ us))) H) : rNotInD K (.ref p) (.ref l) H Q := by
  refine ⟨ndD u, us.map ndD, ndV_dp hp, .lst hl (ndVs_dp h), ndD_shaped lo, ndDs_shaped los, ?_⟩
  have e : ((us.map ndD).any fun z => PyData.eqv z (ndD u)) = decide (u ∈ us) := by
    rw [List.any_map, Bool.eq_iff_iff, List.any_eq_true, decide_eq_true_eq]
    constructor
    · rintro ⟨x, hx, e⟩
      have e : PyData.eqv (ndD x) (ndD u) = true := e
      rw [ndD_eqv] at e
      rw [← of_decide_eq_true e]
      exact hx
    · exact fun hx => ⟨u, hx, by show PyData.eqv (ndD u) (ndD u) = true; rw [ndD_eqv]; exact decide_eq_true rfl⟩
  rw [e]
  exact q
end
section
variable {X : Cx}
theorem op_notInDK {K : PySem.W.Frag} (h : X.K = K) (hu : X.A.units + 65 < cLine) : OpR X (compareOp .NotIn) (rNotInD K) := by
  subst h
  exact op_notInD hu
theorem op_inDK {K : PySem.W.Frag} (h : X.K = K) (hu : X.A.units + 65 < cLine) : OpR X (compareOp .In) (rInD K) := by
  subst h
  exact op_inD hu
end
end Mo

/-! ### an error of several classes that is kept behind its except suite -/
namespace Mo
open PySem PySem.Spec PyProof.Rows L2
/-- a new tuple -/
abbrev tupO (us : List Value) : Obj := { cls := .type "tuple", data := .seq us.toArray }
/-- what stands behind 'except': it is a new tuple of these classes -/
structure TestT (X : Cx) (te : Expr) (us : List Value) : Prop where
  test : ∀ (a : Addr) (oe : Obj) (pn : List (Addr × Obj)) {σ : L2.St} {H : Hp} {s : Shared} {Q : Value → Shared → Prop} {E : Value → Shared → Prop}, Inv (X.suite a ((a, oe) :: pn)) [] σ H s → Q (.ref s.heap.objs.size) { s with heap := s.heap.push (tupO us) } →
    wpAny (model X.prog X.w) (X.A.mark (some (.ref a))) (eval te X.env) Q E s
  fits : ∀ {M : Model} {h : Heap} {tp e : Addr} {cls : Value} {b : Bool}, X.K.In h → PySem.W.Looks M h (typeOf (.ref e)) cls → h.get? tp = some (tupO us) → PySem.W.exmAny X.K cls us = some b → PySem.W.Looks M h (excMatches (.ref e) (.ref tp)) b
theorem frames_kept {base h h' : Heap} (k : ∀ b o, h.get? b = some o → h'.get? b = some o) : ∀ {l : List Env}, h.FunFrames base l → h'.FunFrames base l
  | [], _ => True.intro
  | _ :: _, ⟨hk, ⟨L, o, hf, hb, ho, hd⟩, hr⟩ => ⟨hk, ⟨L, o, hf, hb, k _ _ ho, hd⟩, frames_kept k hr⟩
theorem flying_kept {base h h' : Heap} {l : List Env} {e : Addr} {Z : Obj → Prop} (k : ∀ b o, h.get? b = some o → h'.get? b = some o) (f : HandSPX.FlyingZ base l e Z h) : HandSPX.FlyingZ base l e Z h' := by
  obtain ⟨f1, f2, f3, oe, vs, T, oT, ts, h1, h2, h3, h4, h5, h6, h7, h8, h9⟩ := f
  exact ⟨fun b o q => k b o (f1 b o q), f2, frames_kept k f3, oe, vs, T, oT, ts, k _ _ h1, h2, h3, h4, h5, h6, k _ _ h7, h8, h9⟩
theorem ld_names {Y : Cx} {pins : List (Addr × Obj)} {σ : L2.St} {H : Hp} {s : Shared} {x : Str} {c : Value} {p : Pos} {Q : Value → Shared → Prop} {E : Value → Shared → Prop} (I : Inv Y pins σ H s) (hc : Names Y x c) (q : Q c s) : wpAny (model Y.prog Y.w) Y.A (eval (.Name x p) Y.env) Q E s := by
  rcases hc with ⟨hg, hdbg, hm | ⟨hm, hv, hnn⟩⟩
  · exact ld_glob I hg hm q hdbg
  · exact ld_blt I hg hm hv q hnn hdbg
theorem testT3 {X : Cx} {x1 x2 x3 : Str} {c1 c2 c3 : Value} {p1 p2 p3 pos : Pos} {k : Nat} (h1 : Names X x1 c1) (h2 : Names X x2 c2) (h3 : Names X x3 c3) : TestT X (.Tuple [.Name x1 p1, .Name x2 p2, .Name x3 p3] k pos) [c1, c2, c3] where
  test a oe pn _ _ _ _ _ S q := Tuple_ (spliced_more (ld_names S h1 (spliced_more (ld_names S h2 (spliced_more (ld_names S h3 (spliced_none (wpAny_newObj_type q))))))))
  fits K LT hp hb := PySem.W.exm_tup3 K LT hp hb
theorem testT4 {X : Cx} {x1 x2 x3 x4 : Str} {c1 c2 c3 c4 : Value} {p1 p2 p3 p4 pos : Pos} {k : Nat} (h1 : Names X x1 c1) (h2 : Names X x2 c2) (h3 : Names X x3 c3) (h4 : Names X x4 c4) : TestT X (.Tuple [.Name x1 p1, .Name x2 p2, .Name x3 p3, .Name x4 p4] k pos) [c1, c2, c3, c4] where
  test a oe pn _ _ _ _ _ S q := Tuple_ (spliced_more (ld_names S h1 (spliced_more (ld_names S h2 (spliced_more (ld_names S h3 (spliced_more (ld_names S h4 (spliced_none (wpAny_newObj_type q))))))))))
  fits K LT hp hb := PySem.W.exm_tup4 K LT hp hb
/-- what 'except (x, ..) as n: kept = n' wishes of an error of the body: n in slot i, kept in slot j; behind it the error is tracked -/
def wKeepT (K : PySem.W.Frag) (us : List Value) (i j : Nat) (Wout : WX) (D : Ends) : WX := fun cls d σ H =>
  ∃ b, PySem.W.exmAny K cls us = some b ∧ (b = true → ∀ a, H a = none → D.nx (((σ.set i (some (.ref a))).set j (some (.ref a))).set i none) (upd H a (exV a cls d))) ∧ (b = false → Wout cls d σ H)
section
variable {X : Cx} {n kx : Str} {us : List Value} {te : Expr} {i j : Nat} {body : List Stmt} {np2 kp ap pos pos' : Pos} {tb : WX → TS} {Wout : WX}
theorem ps_try_keepT (hs : X.stack = X.env :: X.outer) (hf : X.env.frame = some X.env.locals) (hN : X.N.Nodup) (hi : X.N[i]? = some n) (hj : X.N[j]? = some kx) (hln : X.env.kindOf n = some .local) (hlk : X.env.kindOf kx = some .local) (hc : TestT X te us) (tk : Takes X Wout)
    (hb : ∀ (W : WX) (pn : List (Addr × Obj)) (xe : Value → Shared → Prop), Takes (X.tr pn xe) W → PassesOwn (model X.prog X.w) X.A X.env xe → PSs (X.tr pn xe) body (tb W))
    (hsu : ∀ (a : Addr) (oe : Obj) (pn : List (Addr × Obj)), PSs (X.suite a ((a, oe) :: pn)) [.Assign [.Name kx kp] (.Name n np2) ap] (tAsg (tVar i) (gName j))) :
    PS X (.Try body [.ExceptHandler (some te) (some n) [.Assign [.Name kx kp] (.Name n np2) ap] pos'] [] [] pos) (fun D σ H => tb (wKeepT X.K us i j Wout D) D σ H) := by
  refine ⟨fun pins s σ H D I h => ?_⟩
  have ok := I.ok
  have hfr : X.A.frames = some (X.env :: X.outer) := ok.frames.trans (by rw [hs])
  refine wpAny_Try_except (wpAny_mono ((hb (wKeepT X.K us i j Wout D) (X.pn ++ pins) (fun e s₁ => wpAny (model X.prog X.w) X.A (noteFrame e X.env) (fun _ s₂ => wpAny (model X.prog X.w) X.A (setFlight e none) (fun _ s₃ =>
    wpAny (model X.prog X.w) X.A (handleBy e X.env [.ExceptHandler (some te) (some n) [.Assign [.Name kx kp] (.Name n np2) ap] pos']) (SP X pins D) X.xe s₃) X.xe s₂) X.xe s₁) (fun u s' xx => ?_) PassesOwn.looking).run [] s σ H D (I.toTry _) h) (fun f s1 hsp => ?_) (fun e s1 he => he))
  · obtain ⟨a, B, sI, pins', σ', H', cls, d, rfl, J', nb, up, sky, na, os, ag, b, hb1, hyes, hno⟩ := xx
    have J : Inv X pins σ' H' sI := J'.ofTry ok
    have sky' : Sky B (X.env :: X.outer) a (Zc cls d) X.env.locals s'.heap := hs ▸ sky
    show wpAny (model X.prog X.w) X.A (noteFrame (.ref a) X.env) _ _ _
    refine Sky.land Zc.steady hfr hf sky' fun h3 fl3 up3 => ?_
    have J3 : Inv X pins σ' H' { s' with heap := h3 } := J.landed nb fl3.1 (up.trans up3) os ag
    obtain ⟨oe3, vs3, he3, hz3, hd3⟩ := fl3.there
    have nfr : a ∉ frs (X.env :: X.outer) := fun hm => by
      obtain ⟨_, o', e', hnf⟩ := fl3.2.2.1.mem hm
      rw [he3] at e'
      cases e'
      exact hnf _ hd3
    have nL : a ≠ X.env.locals := fun z => nfr (List.mem_filterMap.mpr ⟨X.env, List.mem_cons_self, hf.trans (congrArg some z.symm)⟩)
    have nF : a ∉ X.fs := fun hm => by
      obtain ⟨e, he, q⟩ := List.mem_filterMap.mp hm
      exact nfr (List.mem_filterMap.mpr ⟨e, List.mem_cons_of_mem _ he, q⟩)
    have nB : B.get? a = none := fl3.2.1
    have nI : sI.heap.get? a = none := by
      cases q : sI.heap.get? a with
      | none => rfl
      | some o =>
        have z := nb a o q (by show a ∉ frs X.stack; rw [hs]; exact nfr)
        rw [nB] at z
        cases z
    have n0 : ∀ u, X.s_0.heap.get? a = some u → a ∈ X.ex := fun u q => by
      by_cases hx : a ∈ X.ex
      · exact hx
      · obtain ⟨o', z⟩ := J.base.there a u q hx
        rw [nI] at z
        cases z
    have npp : ∀ p ∈ X.pn ++ pins, p.1 ≠ a := fun p hp z => by
      have q := (J.pin p hp).1
      rw [z, nI] at q
      cases q
    have S3 := J3.suite he3 hd3 na nL nF
    refine wpAny_handleBy_cons (codeAny_handlers_test ?_) (by intro q; cases q)
    refine hc.test a oe3 (X.pn ++ pins) S3 ?_
    have up5 : s'.heap.UpToSlots (h3.push (tupO us)) := up3.trans (Heap.UpToSlots.of_keeps fun b o e => Heap.get?_push_of_some _ e)
    have fl5 := flying_kept (h' := h3.push (tupO us)) (fun b o e => Heap.get?_push_of_some _ e) fl3
    have J5 : Inv X pins σ' H' { s' with heap := h3.push (tupO us) } := J3.kept (t' := s'.toks) fun b o e => Heap.get?_push_of_some _ e
    have he5 : (h3.push (tupO us)).get? a = some oe3 := Heap.get?_push_of_some _ he3
    have LT : PySem.W.Looks (model X.prog X.w) (h3.push (tupO us)) (typeOf (.ref a)) cls := fun A Q E s k q => wpAny_typeOf_ref (k _ _ he5) (hz3.1 ▸ q)
    have LM := hc.fits (M := model X.prog X.w) J5.kIn LT (Heap.get?_push_size _ rfl) hb1
    refine LM.here ?_
    cases b with
    | true =>
      refine codeAny_handlers_suite_as (HandSPX.lands_againZ fl5 fun h4 fl4 up4 => ?_)
      have J4 : Inv X pins σ' H' { s' with heap := h4 } := J.landed nb fl4.1 ((up.trans up5).trans up4) os ag
      obtain ⟨oe4, vs4, he4, hz4, hd4⟩ := fl4.there
      refine store_ok (X := X.suite a ((a, oe4) :: (X.pn ++ pins))) (v := .ref a) (J4.suite he4 hd4 na nL nF) hN hi (.inl hln) rfl (fun s5 S5 => ?_) (.inr hln)
      have lenσ : i < σ'.length := by
        rw [J.len]
        exact (List.getElem?_eq_some_iff.mp hi).1
      have want : tAsg (tVar i) (gName j) { nx := fun σ6 H6 => σ6 = (σ'.set i (some (.ref a))).set j (some (.ref a)) ∧ H6 = H', rt := fun _ _ => False, bk := fun _ _ => False, ct := fun _ _ => False } (σ'.set i (some (.ref a))) H' :=
        ⟨.ref a, by rw [List.getElem?_set_self lenσ], rfl, rfl⟩
      refine wpAny_mono ((hsu a oe4 (X.pn ++ pins)).run [] s5 _ H' _ S5 want) (fun f s6 hsp => ?_) (fun _ _ z => False.elim z)
      cases f with
      | next =>
        obtain ⟨σ6, H6, S6, rfl, rfl⟩ := hsp
        obtain ⟨he6, _⟩ := S6.pin (a, oe4) (List.mem_append_left _ List.mem_cons_self)
        have J6 : Inv X pins _ H6 s6 := S6.unsuite ok
        have J7 := track J6 he6 hd4 na nL n0 npp (exV_ok he6 hz4 hd4)
        exact gone_ok J7 hN hi hln fun s7 J8 => ⟨_, _, J8, hyes rfl a na⟩
      | brk => exact hsp.elim fun _ z => z.elim fun _ z => z.2.elim
      | cont => exact hsp.elim fun _ z => z.elim fun _ z => z.2.elim
      | ret u => exact hsp.elim fun _ z => z.elim fun _ z => z.elim fun _ z => z.2.2.elim
    | false =>
      show wpAny _ X.A (handleBy (.ref a) X.env []) _ _ _
      refine wpAny_handleBy_nil ?_
      obtain ⟨k1, k2, k3, oe, vs, T, oT, ts', he, hz, hd, h1, hr⟩ := id fl5
      unfold PySem.passOn
      refine wpAny_bind (wpAny_field he hd h1 ?_)
      rw [if_neg (show ¬ ((Value.ref T == Value.none) = true) from by simp)]
      have fin : wpAny (model X.prog X.w) X.A (setFlight (.ref a) X.env.frame) (fun _ s4 => wpAny (model X.prog X.w) X.A (throw (.ref a) : Sem Flow) (SP X pins D) X.xe s4) X.xe { s' with heap := h3.push (tupO us) } := by
        rw [hf]
        refine HandSPX.setFlight_upZ fl5 fun h4 hh4 up4 => wpAny_throw (tk _ _ ⟨a, B, sI, pins, σ', H', cls, d, rfl, J, nb, (up.trans up5).trans up4, .inr (.inr (hs ▸ hh4)), na, os, ag, hno rfl⟩)
      first
        | exact wpAny_bind (wpAny_pure (wpAny_bind fin))
        | exact wpAny_bind fin
  · cases f with
    | next => exact hsp.elim fun σ1 z => z.elim fun H1 z => wpAny_execs_nil ⟨σ1, H1, z.1.ofTry ok, z.2⟩
    | brk => exact hsp.elim fun σ1 z => z.elim fun H1 z => ⟨σ1, H1, z.1.ofTry ok, z.2⟩
    | cont => exact hsp.elim fun σ1 z => z.elim fun H1 z => ⟨σ1, H1, z.1.ofTry ok, z.2⟩
    | ret u => exact hsp.elim fun v z => z.elim fun σ1 z => z.elim fun H1 z => ⟨v, σ1, H1, z.1.ofTry ok, z.2⟩
end
end Mo

/-! ### lists of truth values: count, index; statements that are never reached -/
namespace Mo
open PySem PySem.Spec PyProof.Rows L2
theorem room65 {k : Nat} {A : Around} (r : Room k A) : A.units + 65 < cLine := by have := r.un; omega
theorem pss_never {X : Cx} {b : List Stmt} : PSs X b (fun _ _ _ => False) := ⟨fun _ _ _ _ _ _ h => h.elim⟩
def rCountB (K : PySem.W.Frag) : V → List V → Hp → VK → Prop := fun x xs H Q => ∃ (p : Addr) (bs : List Bool) (b : Bool), x = .ref p ∧ xs = [.bl b] ∧ SqL K H p (bs.map V.bl) ∧ Q (.int (bs.count b : Nat)) H
def rIndexB (K : PySem.W.Frag) : V → List V → Hp → VK → Prop := fun x xs H Q => ∃ (p : Addr) (bs : List Bool) (b : Bool) (j : Nat), x = .ref p ∧ xs = [.bl b] ∧ SqL K H p (bs.map V.bl) ∧ bs[j]? = some b ∧ (∀ m, m < j → bs[m]? = some (!b)) ∧ Q (.int (j : Nat)) H
theorem bools_dp {K : PySem.W.Frag} {H : Hp} : ∀ bs : List Bool, DpAll K H (bs.map V.bl) (bs.map PyData.bool)
  | [] => .nil
  | b :: r => .cons (.bl b) (bools_dp r)
theorem bools_plain : ∀ bs : List Bool, PyData.plainAll (bs.map PyData.bool) = true
  | [] => by simp [PyData.plainAll]
  | b :: r => by simp [PyData.plainAll, PyData.plain, bools_plain r]
theorem eqv_bools (a b : Bool) : PyData.eqv (.bool a) (.bool b) = (a == b) := by cases a <;> cases b <;> rfl
theorem bools_count (b : Bool) : ∀ bs : List Bool, (bs.map PyData.bool).countP (fun y => PyData.eqv y (.bool b)) = bs.count b
  | [] => rfl
  | a :: r => by
    rw [List.map_cons, List.countP_cons, bools_count b r, eqv_bools, List.count_cons]
section
variable {X : Cx}
theorem mt_countB (hu : X.A.units + 64 < cLine) : MtR X "list.count" (rCountB X.K) := by
  intro pins s σ H x xs v us Q I rx rxs h
  obtain ⟨p, bs, b, rfl, rfl, hs, q⟩ := h
  cases rx
  obtain ⟨u, rfl, ru⟩ := rxs.one
  obtain ⟨as1, r1⟩ := Dp.reads I (.bool b) (.bl b) u (.bl b) ru
  obtain ⟨its, rv, ⟨⟨cls, dd, data, sl⟩, n, ho, hc, hdn, hd⟩, hlen⟩ := I.list hs
  simp only at hc hd
  subst hc hd
  obtain ⟨as, r2⟩ := Dp.readsAll I (bs.map PyData.bool) (bs.map V.bl) its (bools_dp bs) rv
  refine PySem.SeqAt.count_list_data (vs := its.toArray) ⟨_, ho, rfl, n, rfl⟩ (show ReadsAll s.heap its.toArray.toList _ as from r2) r1 (bools_plain bs) rfl ?_ ?_
  · have : min (PyData.depthAll (bs.map PyData.bool)) (PyData.bool b).depth ≤ (PyData.bool b).depth := Nat.min_le_right _ _
    have : (PyData.bool b).depth ≤ 1 := by simp [PyData.depth]
    omega
  · rw [bools_count]
    exact ⟨.int (bs.count b : Nat), H, I.tok _, ⟨_, rfl⟩, q⟩
theorem mt_indexB (hu : X.A.units + 65 < cLine) : MtR X "list.index" (rIndexB X.K) := by
  intro pins s σ H x xs v us Q I rx rxs h
  obtain ⟨p, bs, b, j, rfl, rfl, hs, hj, hno, q⟩ := h
  refine mt_indexD hu pins s σ H _ _ v us Q I rx rxs ⟨p, .bl b, .bool b, bs.map PyData.bool, j, .bool b, rfl, rfl, .lst hs (bools_dp bs), .bl b, ?_, rfl, by rw [List.getElem?_map, hj]; rfl, by rw [eqv_bools]; simp, fun m z' hm hz => ?_, q⟩
  · have lay : ∀ l : List Bool, PyData.canLayAll0 (l.map PyData.bool) = true := fun l => by
      induction l with
      | nil => simp [PyData.canLayAll0]
      | cons a r ih => simp [PyData.canLayAll0, PyData.canLay0, ih]
    have dep : ∀ l : List Bool, PyData.depthAll (l.map PyData.bool) ≤ 1 := fun l => by
      induction l with
      | nil => simp [PyData.depthAll]
      | cons a r ih => simp [PyData.depthAll, PyData.depth]; omega
    have := dep bs
    show ((PyData.list (bs.map PyData.bool)).canLay0 && decide ((PyData.list (bs.map PyData.bool)).depth ≤ 64)) = true
    simp [PyData.canLay0, PyData.depth, lay bs]
    omega
  · rw [List.getElem?_map, hno m hm] at hz
    cases hz
    rw [eqv_bools]
    cases b <;> rfl
theorem pe_callG0 {X : Cx} {CX : CXT} {k : Nat} {f : Addr} {fd : FuncData} {ps : List Str} {sp : Sp} {ds : List Value} {dvs : List V} {E : XK} {x : Str} {p pos : Pos} (F : FnG X.prog X.w X.K X.mg X.base CX k f fd ps sp) (hr : Room k X.A) (hu : X.A.guards = some []) (hg : Gl X x) (hm : X.mg x = some (.ref f)) (hk : PySem.W.keepIn X.K (.ref f) = true)
    (hb : Binds X.K fd ps ds) (hd : Vals dvs ds) (hx : Passes CX X E) (hdb : (x == ("__debug__" : Str)) = false := by decide) : PE X (.Call (.Name x p) [] [] pos) (tCall sp dvs E tNil) :=
  ⟨fun pins s σ H Q I h => wpAny_Call_Name_kw (ld_glob I hg hm (PySem.W.callWith_K0 I.kIn hk (run_G (us := []) F hr hu hb hd hx I .nil h)) hdb)⟩
end
end Mo

/-! ### own error classes over any of Python's errors -/
namespace Mo
open PySem PySem.Spec PyProof.Rows L2
open Builtin Builtin.ObjectAttr in
section
variable {prog : Program} {w : World} {A : Around} {E : Value → Shared → Prop} {R : Result → Shared → Prop} {hp : Heap} {g : Array GenState} {d : Drawn} {t : Nat} {os : OsState}
/-- the first field of such an error -/
theorem osaG {K : PySem.W.Frag} {nm : Str} {tk : Tok} {v : Value} {x C : Addr} {fv : Array Value} {cd : ClassData} {bmB : List Value} (X : K.In hp) (hx : hp.get? x = some { cls := .ref C, data := .fields fv }) (hcd : PySem.W.clsIn K C = some cd)
    (hm : PySem.W.excTail bmB cd.mro = true) (hne : bmB ≠ []) (hob : bmB.contains (.type "object") = true) (hps : ∀ self, refuseLoop self "__setattr__" bmB = pure ()) (hh : cd.hasDict = true) (ha : PySem.W.findIn K (.ref C) nm = some none)
    (hq : ∀ h' tk' dx, (∀ b o, b ≠ x → hp.get? b = some o → h'.get? b = some o) → hp.objs.size ≤ dx → dx ≠ x → h'.get? x = some { cls := .ref C, dict := some dx, data := .fields fv } → h'.Ns1 dx (fun y => if y = nm then some v else none) → R (.ok (.ret .none)) ⟨h', g, d, tk', os⟩) :
    codeAny (model prog w) A (.call (.builtin "object.__setattr__") ⟨[.ref x, .str nm tk, v], []⟩) R ⟨hp, g, d, t, os⟩ := by
  have J : PySem.W.InstAt hp x { cls := .ref C, data := .fields fv } C none := ⟨hx, rfl, rfl, trivial⟩
  have SO := PySem.F.store_object
  have e1 : cd.mro.isEmpty = false := by
    cases q : cd.mro with
    | nil =>
      rw [q] at hm
      exact absurd (beq_iff_eq.mp hm).symm hne
    | cons _ _ => rfl
  have e2 : cd.mro.contains (.type "object") = true := (PySem.W.excTail_contains "object" _ hm).trans hob
  have n1 : x ≠ hp.objs.size := Nat.ne_of_lt (Heap.lt_size hx)
  have su : PySem.W.Looks (model prog w) hp (isInstance (.ref x) (.type "object")) true := J.type.andThen (PySem.W.looks_mroIn X (by unfold PySem.W.mroIn; rw [hcd, Option.bind_some, if_neg (by rw [e1]; decide), e2]))
  refine codeAny_call_builtin SO.slot.plain SO.entry (@PySem.W.check_slot (model prog w) _ _ ⟨hp, g, d, t, os⟩ "object.__setattr__" "object" "__setattr__" (.ref x) [.str nm tk, v] [] _ SO.kind SO.split su (SO.args (.ref x) (.str nm tk) v) ?_)
  have l1 : PySem.W.Looks (model prog w) hp (mroOf (.ref C)) cd.mro := (PySem.W.looks_clsIn X hcd).andThen .now
  have l2 : PySem.W.Looks (model prog w) hp (storeTaker? none) none := .now
  have l3 : PySem.W.Looks (model prog w) hp (classData C) cd := PySem.W.looks_clsIn X hcd
  rw [PySem.W.osa_eq, refuse_eq]
  refine wpAny_bind (wpAny_bind (J.type.at (wpAny_bind (l1.at ?_))))
  rw [PySem.W.excTail_pass _ (hps _) _ hm]
  refine wpAny_pure (wpAny_bind (J.type.at (wpAny_bind ((PySem.W.looks_findIn X ha).at (wpAny_bind (l2.at ?_))))))
  show wpAny _ _ (storeInOwnDict (.ref x) (.ref C) (.str nm tk) nm v false) _ _ _
  obtain ⟨_, _, mro, _, _, hd, _, _, _, _, _⟩ := cd
  obtain rfl : hd = true := hh
  unfold storeInOwnDict ownDictForStores
  repeat (first | with_reducible refine PySem.HandSPX.store_in_new ?_ ?_ | with_reducible refine wpAny_loadPart_at hx ?_ | with_reducible refine l3.at ?_ | wp_step)
  · exact ⟨_, #[], _, (Heap.get?_update_ne _ _ _ _ n1.symm).trans (Heap.get?_push_at rfl rfl), rfl, fun e he => absurd he (by simp), fun _ => rfl⟩
  · intro h2 tk2 hn2 hs2
    have hx1 : (hp.push { cls := .type "dict", data := .dict #[] }).get? x = some { cls := .ref C, data := .fields fv } := Heap.get?_push_of_some _ hx
    exact hq h2 tk2 hp.objs.size (fun b o hb ho => (hs2.2 b (Nat.ne_of_lt (Heap.lt_size ho))).trans ((Heap.get?_update_ne _ _ _ _ hb).trans (Heap.get?_push_of_some _ ho))) (Nat.le_refl _) n1.symm ((hs2.2 x n1).trans (Heap.get?_update_self _ hx1 rfl)) hn2
end
/-- what the written part says of an own error class at C over Python's B -/
structure OvC (K : PySem.W.Frag) (C : Addr) (B newId initId : String) (bmB : List Value) : Prop where
  cls : ∃ nm q N bs bm sn sub ab col dd k0 k1 k2 k3 k5, K.lookup C = some (excClassObj nm q C N bs bm true sn sub ab col dd k0 k1 k2 k3 k5 newId) ∧ PySem.W.excTail bmB bm = true
  bas : ExcBaseFacts B newId initId bmB
  obj : bmB.contains (.type "object") = true
  pas : ∀ self, refuseLoop self "__setattr__" bmB = pure ()
  sa : PySem.W.findIn K (.ref C) "__setattr__" = some (some (.builtin "object.__setattr__"))
  exC : PySem.W.subIn K (.ref C) (.type "BaseException") = some true
  tyC : PySem.W.typeIn K (.ref C) = some (.type "type")
  kC : PySem.W.keepIn K (.ref C) = true
section
variable {X : Cx} {pins : List (Addr × Obj)} {σ : L2.St} {H : Hp} {s : Shared} {a C : Addr} {f : Str} {y : V} {u : Value} {Q : Unit → Shared → Prop} {E : Value → Shared → Prop} {A : Around} {B newId initId : String} {bmB : List Value}
theorem fieldG (T : OvC X.K C B newId initId bmB) (I : Inv X pins σ H s) (e : H a = some (exo a C none)) (hno : PySem.W.findIn X.K (.ref C) f = some none) (ry : RelV y u)
    (h : ∀ dx s', H dx = none → dx ≠ a → Inv X pins σ (upd (upd H dx (exd dx [(f, y)])) a (exo a C (some dx))) s' → Q () s') : wpAny (model X.prog X.w) A (setAttr (.ref a) f u) Q E s := by
  obtain ⟨nm, q, N, bs, bm, sn, sub, ab, col, dd, k0, k1, k2, k3, k5, hC, hbm⟩ := T.cls
  have hcl : ∃ cd, PySem.W.clsIn X.K C = some cd ∧ cd.mro = .ref C :: bm ∧ cd.hasDict = true := by
    refine ⟨⟨nm, bs, .ref C :: bm, N, q, true, sn, sub, ab, col, false⟩, ?_, rfl, rfl⟩
    unfold PySem.W.clsIn
    rw [hC]
  obtain ⟨cd, c1, c2, c3⟩ := hcl
  obtain ⟨t1, ho⟩ := exo_at I.hok e
  obtain ⟨hp, g, dr, tk, os⟩ := s
  refine PySem.W.set_plain I.kIn (ox := { cls := .ref C, dict := none, data := .fields #[.ref t1, .none, .none, .none, .bool false, .none] }) (od := none) ⟨ho, rfl, rfl, trivial⟩ T.sa ?_
  refine osaG I.kIn ho c1 (by rw [c2]; exact hbm) (fun z => ?_) T.obj T.pas c3 hno (fun h2 tk2 dx kp dn ne hx hn => ?_)
  · have z2 := T.obj
    rw [z] at z2
    cases z2
  have free : H dx = none := I.hok.fresh dn
  have old : ∀ {b : Addr} {o : Obj}, hp.get? b = some o → b ≠ dx := fun {b o} q => Nat.ne_of_lt (Nat.lt_of_lt_of_le (Heap.lt_size q) dn)
  have off : ∀ {b : Addr}, H b = none → b ≠ a := fun {b} n z => by
    subst z
    rw [e] at n
    cases n
  have un : Un X.fs [] H (upd (upd H dx (exd dx [(f, y)])) a (exo a C (some dx))) hp h2 := by
    constructor
    · exact fun b o q n _ _ => kp b o (off n) q
    · exact fun b o q n _ _ => ⟨o.slots, kp b o (off n) q⟩
    · exact fun b o q n _ => by
        rw [upd_ne (off n), upd_ne (old q)]
        exact n
    · intro b o q _
      by_cases hb : b = a
      · subst hb
        exact ⟨_, hx⟩
      · exact ⟨o, kp b o hb q⟩
    · exact fun b xs q => by
        rw [upd_ne (at_ne e q exo_tup), upd_ne (ne_of_none q free)]
        exact q
    · exact fun b o v q => by
        rw [upd_ne (at_ne e q exo_frz), upd_ne (ne_of_none q free)]
        exact q
    · exact fun b ps q => ⟨#[], by
        rw [upd_ne (at_ne e q exo_tbl), upd_ne (ne_of_none q free), q]
        simp⟩
  refine h dx _ free ne (I.un (t' := tk2) un fun b o q => ?_)
  by_cases hb : b = a
  · subst hb
    rw [upd_same] at q
    obtain rfl := Option.some.inj q
    exact exo_ok hx
  rw [upd_ne hb] at q
  by_cases hd : b = dx
  · subst hd
    rw [upd_same] at q
    obtain rfl := Option.some.inj q
    exact exd_ok hn (relO_put (fs := []) ry fun _ => True.intro)
  rw [upd_ne hd] at q
  refine (I.hok b o q).stay (fun c v hc z => kp c v ?_ z) (fun c hc => ?_) (fun c xs hc => ?_)
  · rcases hc with rfl | hc
    · exact hb
    · exact at_ne e hc exo_own
  · rw [upd_ne (at_ne e hc exo_own), upd_ne (ne_of_none hc free)]
    exact hc
  · rw [upd_ne (at_ne e hc exo_tup), upd_ne (ne_of_none hc free)]
    exact hc
end
/-- self.f = e, the one field of such an error -/
def tFieldG (K : PySem.W.Frag) (f : Str) (to te : TE) : TS := fun D σ H => te σ H fun y H1 => to σ H1 fun x H2 => ∃ (a C : Addr) (B newId initId : String) (bmB : List Value), x = .ref a ∧ OvC K C B newId initId bmB ∧ PySem.W.findIn K (.ref C) f = some none ∧
  H2 a = some (exo a C none) ∧ ∀ dx, H2 dx = none → dx ≠ a → D.nx σ (upd (upd H2 dx (exd dx [(f, y)])) a (exo a C (some dx)))
section
variable {X : Cx} {o e : Expr} {es : List Expr} {to te : TE} {ta : TA} {f : Str} {p q1 pos : Pos} {B newId initId : String} {bmB : List Value}
theorem ps_fieldG (ho : PE X o to) (he : PE X e te) (hs : swapsWith e (some (.Attribute o f q1)) pos.line X.env = pure false := by rfl) : PS X (.Assign [.Attribute o f q1] e pos) (tFieldG X.K f to te) := by
  refine ⟨fun pins s σ H D I h => ?_⟩
  refine plainObj_wpAny_Assign_Attribute (thn (he.run pins s σ H _ I h) fun v s1 ⟨y, H1, I1, r1, z1⟩ => thn (ho.run pins s1 σ H1 _ I1 z1) fun u s2 ⟨x, H2, I2, r2, a, C, B, newId, initId, bmB, ex, T, hno, ea, z⟩ => ?_) hs
  subst ex
  obtain rfl : u = Value.ref a := r2
  exact fieldG T I2 ea hno r1 fun dx s' n ne J => ⟨σ, _, J, z dx n ne⟩
/-- C(e, ..) where it is raised -/
theorem pmkG {CX : CXT} {x : Str} {C fI : Addr} {k : Nat} {fd : FuncData} {ps : List Str} {sp : Sp} (T : OvC X.K C B newId initId bmB) (iC : PySem.W.findIn X.K (.ref C) "__init__" = some (some (.ref fI))) (tI : PySem.W.typeIn X.K (.ref fI) = some (.type "function"))
    (F1 : FnOk X.prog X.w X.K X.mg X.base CX k fI fd ps sp) (hr : Room (k + 1) X.A) (hb : Binds X.K fd ps []) (hx : Passes CX X (fun _ _ _ => False)) (hg : Gl X x) (hm : X.mg x = some (.ref C)) (ha : PA X (e :: es) ta)
    (hdb : (x == ("__debug__" : Str)) = false := by decide) (he : starEach (e :: es) X.env = (false, eval e X.env) :: starEach es X.env := by rfl) (hpl : (backTo pos (starEach es X.env)).any (·.1) = false := by rfl) :
    PMk X (.Call (.Name x p) (e :: es) [] pos) (tMkO C sp [] ta) := by
  intro pins s σ H Q I h
  obtain ⟨nm, q, N, bs, bm, sn, sub, ab, col, dd, k0, k1, k2, k3, k5, hC, hbm⟩ := T.cls
  refine wpAny_Call_Name_kw (ld_glob I hg hm (PySem.W.callWith_K (h₀ := X.base) I.ok.mod.kin T.kC (thn (ha.run pos pins s σ H _ I h) fun us s1 ⟨vs, H1, I1, r1, hz, z1⟩ => ⟨I1.kIn, ?_⟩) he hpl) hdb)
  show wpAny _ _ (call (.ref C) us) _ _ _
  obtain ⟨hp, g, dr, tk, os⟩ := s1
  have le1 : hp.objs.size ≤ hp.objs.size + 1 := Nat.le_succ _
  have z2 := z1 (hp.objs.size + 1) (I1.hok.fresh le1)
  have keep : ∀ b o, hp.get? b = some o → ((hp.push (PySem.W.kdv_tup us)).push (PySem.HandSPX.excO C hp.objs.size)).get? b = some o := fun b o e => Heap.get?_push_of_some _ (Heap.get?_push_of_some _ e)
  have hget : ((hp.push (PySem.W.kdv_tup us)).push (PySem.HandSPX.excO C hp.objs.size)).get? (hp.objs.size + 1) = some (PySem.HandSPX.excO C hp.objs.size) := by heap_get
  have I2 := I1.laid (t' := tk) (a := hp.objs.size + 1) (o := exo (hp.objs.size + 1) C none) (h' := (hp.push (PySem.W.kdv_tup us)).push (PySem.HandSPX.excO C hp.objs.size)) keep le1 (exo_ok hget)
  rw [List.append_nil] at z2
  have r2 : Vals (V.ref (hp.objs.size + 1) :: vs) (Value.ref (hp.objs.size + 1) :: us) := .cons rfl r1
  have bi := hb ⟨(hp.push (PySem.W.kdv_tup us)).push (PySem.HandSPX.excO C hp.objs.size), g, dr, tk, os⟩ (Value.ref (hp.objs.size + 1) :: us) I2.kIn (by rw [List.append_nil]; exact r2.length.symm.trans (F1.len _ _ _ _ z2))
  rw [List.append_nil] at bi
  have hus : us.length ≤ sizeLine := by
    have := r1.length
    rw [sizeLine_eq]
    omega
  refine wpAny_call (PySem.HandSPX.call_own T.bas (fun Y => PySem.W.excTail_contains Y bm hbm) (I1.kIn _ _ hC) (PySem.W.looks_findIn I1.kIn iC) (fun self => PySem.W.bind_fn I1.kIn self tI) hus (codeAny_mono
    (F1.run _ X.stack _ _ ⟨Value.ref (hp.objs.size + 1) :: us, []⟩ (Value.ref (hp.objs.size + 1) :: us) _ _ (fun _ _ _ => False) (hr.make C us []) (I2.env0.make C us []) bi r2 z2) fun r s2 z3 => ?_))
  match r, z3 with
  | .error er, z3 => exact hx pins σ _ _ er s2 I2 z3
  | .ok (.ret u), z3 =>
    obtain ⟨v, H2, os2, bare2, un2, hok2, rv, ev, dx, fs, ea, ed, hd1, z4⟩ := z3
    subst ev
    obtain ⟨h2, g2, d2, t2, os'⟩ := s2
    exact ⟨rv, mk_end (raises_own T.exC T.tyC) I1 le1 keep un2 hok2 os2 bare2 ea ed hd1 z4⟩
end
/-- such a class with one field f, its __init__ at fI -/
structure ErrG (K : PySem.W.Frag) (C fI : Addr) (f : Str) (B newId initId : String) (bmB : List Value) : Prop where
  ov : OvC K C B newId initId bmB
  xf : XfC K C
  exc : ExcC K C
  no : PySem.W.findIn K (.ref C) f = some none
  te : PySem.W.exmOne K (.ref C) (.ref C) = some true
  iC : PySem.W.findIn K (.ref C) "__init__" = some (some (.ref fI))
  tI : PySem.W.typeIn K (.ref fI) = some (.type "function")
end Mo

namespace Mo
open PySem PySem.Spec PyProof.Rows L2
def topS (i : Nat) : Stmt := PySem.Challenge.pw_mustoccur_k46_whole_lists_of_unavoidable.main.body.getD i (.Pass ⟨0, 0, 0, 0⟩)
abbrev sIsPattern : Stmt := topS 8
theorem scIsPattern : FnScope ["value", "name"] ["value"] (defScope sIsPattern) := ⟨rfl, rfl, rfl, by decide +kernel, rfl, by decide +kernel, by decide +kernel⟩
abbrev sIsPlainInteger : Stmt := topS 9
theorem scIsPlainInteger : FnScope ["value"] ["value"] (defScope sIsPlainInteger) := ⟨rfl, rfl, rfl, by decide +kernel, rfl, by decide +kernel, by decide +kernel⟩
abbrev sIsVariableSet : Stmt := topS 10
theorem scIsVariableSet : FnScope ["value", "name"] ["value"] (defScope sIsVariableSet) := ⟨rfl, rfl, rfl, by decide +kernel, rfl, by decide +kernel, by decide +kernel⟩
abbrev sCheckPattern : Stmt := topS 11
theorem scCheckPattern : FnScope ["value"] ["value"] (defScope sCheckPattern) := ⟨rfl, rfl, rfl, by decide +kernel, rfl, by decide +kernel, by decide +kernel⟩
abbrev sCheckVariableSet : Stmt := topS 12
theorem scCheckVariableSet : FnScope ["value"] ["value"] (defScope sCheckVariableSet) := ⟨rfl, rfl, rfl, by decide +kernel, rfl, by decide +kernel, by decide +kernel⟩
abbrev sCheckCount : Stmt := topS 13
theorem scCheckCount : FnScope ["value", "least", "most"] ["value", "least", "most"] (defScope sCheckCount) := ⟨rfl, rfl, rfl, by decide +kernel, rfl, by decide +kernel, by decide +kernel⟩
abbrev sVariables : Stmt := topS 14
theorem scVariables : FnScope ["pattern", "at", "name"] ["pattern"] (defScope sVariables) := ⟨rfl, rfl, rfl, by decide +kernel, rfl, by decide +kernel, by decide +kernel⟩
abbrev sNormal : Stmt := topS 15
theorem scNormal : FnScope ["pattern", "names", "name"] ["pattern"] (defScope sNormal) := ⟨rfl, rfl, rfl, by decide +kernel, rfl, by decide +kernel, by decide +kernel⟩
abbrev sDelete : Stmt := topS 16
theorem scDelete : FnScope ["pattern", "letters", "name"] ["pattern", "letters"] (defScope sDelete) := ⟨rfl, rfl, rfl, by decide +kernel, rfl, by decide +kernel, by decide +kernel⟩
abbrev sLinks : Stmt := topS 18
theorem scLinks : FnScope ["pattern"] ["pattern"] (defScope sLinks) := ⟨rfl, rfl, rfl, by decide +kernel, rfl, by decide +kernel, by decide +kernel⟩
abbrev sMerged : Stmt := topS 19
theorem scMerged : FnScope ["parts", "first", "second", "near", "left", "right", "apart", "lefts", "rights"] ["parts", "first", "second"] (defScope sMerged) := ⟨rfl, rfl, rfl, by decide +kernel, rfl, by decide +kernel, by decide +kernel⟩
abbrev sLinkedParts : Stmt := topS 20
theorem scLinkedParts : FnScope ["names", "edges", "parts", "name", "first", "second"] ["names", "edges"] (defScope sLinkedParts) := ⟨rfl, rfl, rfl, by decide +kernel, rfl, by decide +kernel, by decide +kernel⟩
abbrev sComponents : Stmt := topS 21
theorem scComponents : FnScope ["pattern"] ["pattern"] (defScope sComponents) := ⟨rfl, rfl, rfl, by decide +kernel, rfl, by decide +kernel, by decide +kernel⟩
abbrev sTouches : Stmt := topS 22
theorem scTouches : FnScope ["names", "letters", "name"] ["names", "letters"] (defScope sTouches) := ⟨rfl, rfl, rfl, by decide +kernel, rfl, by decide +kernel, by decide +kernel⟩
abbrev sKeepsSides : Stmt := topS 23
theorem scKeepsSides : FnScope ["parts", "letters", "left", "right"] ["parts", "letters"] (defScope sKeepsSides) := ⟨rfl, rfl, rfl, by decide +kernel, rfl, by decide +kernel, by decide +kernel⟩
abbrev sFreeAmong : Stmt := topS 24
theorem scFreeAmong : FnScope ["names", "parts", "found", "name", "letters"] ["names", "parts"] (defScope sFreeAmong) := ⟨rfl, rfl, rfl, by decide +kernel, rfl, by decide +kernel, by decide +kernel⟩
abbrev sFreeSets : Stmt := topS 25
theorem scFreeSets : FnScope ["pattern", "parts"] ["pattern"] (defScope sFreeSets) := ⟨rfl, rfl, rfl, by decide +kernel, rfl, by decide +kernel, by decide +kernel⟩
abbrev sShortestWays : Stmt := topS 27
theorem scShortestWays : FnScope ["whole", "list_free", "remove", "ways", "queue", "at", "here", "letters", "rest"] ["whole", "list_free", "remove"] (defScope sShortestWays) := ⟨rfl, rfl, rfl, by decide +kernel, rfl, by decide +kernel, by decide +kernel⟩
abbrev sChain : Stmt := topS 28
theorem scChain : FnScope ["pattern"] ["pattern"] (defScope sChain) := ⟨rfl, rfl, rfl, by decide +kernel, rfl, by decide +kernel, by decide +kernel⟩
abbrev sIsAvoidable : Stmt := topS 29
theorem scIsAvoidable : FnScope ["pattern"] ["pattern"] (defScope sIsAvoidable) := ⟨rfl, rfl, rfl, by decide +kernel, rfl, by decide +kernel, by decide +kernel⟩
abbrev sLongerByOne : Stmt := topS 32
theorem scLongerByOne : FnScope ["pattern", "names", "longer", "name", "each"] ["pattern", "names"] (defScope sLongerByOne) := ⟨rfl, rfl, rfl, by decide +kernel, rfl, by decide +kernel, by decide +kernel⟩
abbrev sUnavoidablePatterns : Stmt := topS 33
theorem scUnavoidablePatterns : FnScope ["count", "names", "found", "level", "pattern", "longer"] ["count"] (defScope sUnavoidablePatterns) := ⟨rfl, rfl, rfl, by decide +kernel, rfl, by decide +kernel, by decide +kernel⟩
abbrev sLSource : Stmt := topS 35
theorem scLSource : FnScope ["_law_script"] ["_law_script"] (defScope sLSource) := ⟨rfl, rfl, rfl, by decide +kernel, rfl, by decide +kernel, by decide +kernel⟩
abbrev sLDraw : Stmt := topS 36
theorem scLDraw : FnScope ["_law_source_here", "_law_size", "_law_digit", "_law_index", "_law_cell", "_law_mixed"] ["_law_source_here", "_law_size"] (defScope sLDraw) := ⟨rfl, rfl, rfl, by decide +kernel, rfl, by decide +kernel, by decide +kernel⟩
abbrev sLPick : Stmt := topS 37
theorem scLPick : FnScope ["_law_source_here", "_law_items"] ["_law_source_here", "_law_items"] (defScope sLPick) := ⟨rfl, rfl, rfl, by decide +kernel, rfl, by decide +kernel, by decide +kernel⟩
abbrev sLNames : Stmt := topS 38
theorem scLNames : FnScope ["_law_source_here", "_law_count", "_law_alphabet", "_law_first", "_law_step", "_law_index"] ["_law_source_here", "_law_count"] (defScope sLNames) := ⟨rfl, rfl, rfl, by decide +kernel, rfl, by decide +kernel, by decide +kernel⟩
abbrev sLUniversal : Stmt := topS 39
theorem scLUniversal : FnScope ["_law_count", "_law_text", "_law_letter"] ["_law_count"] (defScope sLUniversal) := ⟨rfl, rfl, rfl, by decide +kernel, rfl, by decide +kernel, by decide +kernel⟩
abbrev sLPattern : Stmt := topS 40
theorem scLPattern : FnScope ["_law_source_here", "_law_names_here", "_law_road", "_law_few", "_law_turn", "_law_start", "_law_word", "_law_letter", "_law_at"] ["_law_source_here", "_law_names_here"] (defScope sLPattern) := ⟨rfl, rfl, rfl, by decide +kernel, rfl, by decide +kernel, by decide +kernel⟩
abbrev sLComponents : Stmt := topS 41
theorem scLComponents : FnScope ["_law_pattern_here", "_law_groups", "_law_name", "_law_one", "_law_other", "_law_first", "_law_second", "_law_group"] ["_law_pattern_here"] (defScope sLComponents) := ⟨rfl, rfl, rfl, by decide +kernel, rfl, by decide +kernel, by decide +kernel⟩
abbrev sLIsFree : Stmt := topS 42
theorem scLIsFree : FnScope ["_law_pattern_here", "_law_letters", "_law_lefts", "_law_rights", "_law_name"] ["_law_pattern_here", "_law_letters"] (defScope sLIsFree) := ⟨rfl, rfl, rfl, by decide +kernel, rfl, by decide +kernel, by decide +kernel⟩
abbrev sLWithout : Stmt := topS 43
theorem scLWithout : FnScope ["_law_pattern_here", "_law_letters", "_law_name"] ["_law_pattern_here", "_law_letters"] (defScope sLWithout) := ⟨rfl, rfl, rfl, by decide +kernel, rfl, by decide +kernel, by decide +kernel⟩
abbrev sLReached : Stmt := topS 44
theorem scLReached : FnScope ["_law_pattern_here", "_law_found", "_law_queue", "_law_here", "_law_sets", "_law_name", "_law_letters", "_law_later"] ["_law_pattern_here"] (defScope sLReached) := ⟨rfl, rfl, rfl, by decide +kernel, rfl, by decide +kernel, by decide +kernel⟩
abbrev sLDistances : Stmt := topS 45
theorem scLDistances : FnScope ["_law_successors", "_law_found", "_law_turn", "_law_here", "_law_counts", "_law_letters", "_law_later"] ["_law_successors"] (defScope sLDistances) := ⟨rfl, rfl, rfl, by decide +kernel, rfl, by decide +kernel, by decide +kernel⟩
abbrev sLFewest : Stmt := topS 46
theorem scLFewest : FnScope ["_law_pattern_here"] ["_law_pattern_here"] (defScope sLFewest) := ⟨rfl, rfl, rfl, by decide +kernel, rfl, by decide +kernel, by decide +kernel⟩
abbrev sLListed : Stmt := topS 47
theorem scLListed : FnScope ["_law_count", "_law_found", "_law_level", "_law_later", "_law_pattern_here", "_law_name"] ["_law_count"] (defScope sLListed) := ⟨rfl, rfl, rfl, by decide +kernel, rfl, by decide +kernel, by decide +kernel⟩
abbrev sLaw : Stmt := topS 48
theorem scLaw : FnScope ["_law_script", "_law_source_here", "_law_count", "_law_due", "_law_found", "_law_known", "_law_turn", "_law_names_here", "_law_pattern_here", "_law_many", "_law_wrong", "_law_caught", "e"] ["_law_script"] (defScope sLaw) := ⟨rfl, rfl, rfl, by decide +kernel, rfl, by decide +kernel, by decide +kernel⟩
abbrev sInitInvalidCount : Stmt := inClass (topS 3) 0
theorem scInitInvalidCount : FnScope ["self", "value"] ["self", "value"] (defScope sInitInvalidCount) := ⟨rfl, rfl, rfl, by decide +kernel, rfl, by decide +kernel, by decide +kernel⟩
structure Txt (K : PySem.W.Frag) (mg : Str → Option Value) where
  cInvalidCount : Addr
  eInvalidCount : mg "InvalidCount" = some (.ref cInvalidCount)
  iInvalidCount : Addr
  dInvalidCount : FuncData
  fInitInvalidCount : Fun K "__init__" "InvalidCount.__init__" sInitInvalidCount iInvalidCount dInvalidCount
  bInitInvalidCount : Binds K dInvalidCount ["self", "value"] []
  xInvalidCount : ErrC K cInvalidCount iInvalidCount "value"
  oInvalidCountValueError : PySem.W.kitOne K (.ref cInvalidCount) (.type "ValueError") = some true
  aIsPattern : Addr
  dIsPattern : FuncData
  fIsPattern : Fun K "is_pattern" "is_pattern" sIsPattern aIsPattern dIsPattern
  bIsPattern : Binds K dIsPattern ["value"] []
  gIsPattern : mg "is_pattern" = some (.ref aIsPattern)
  aIsPlainInteger : Addr
  dIsPlainInteger : FuncData
  fIsPlainInteger : Fun K "is_plain_integer" "is_plain_integer" sIsPlainInteger aIsPlainInteger dIsPlainInteger
  bIsPlainInteger : Binds K dIsPlainInteger ["value"] []
  gIsPlainInteger : mg "is_plain_integer" = some (.ref aIsPlainInteger)
  aIsVariableSet : Addr
  dIsVariableSet : FuncData
  fIsVariableSet : Fun K "is_variable_set" "is_variable_set" sIsVariableSet aIsVariableSet dIsVariableSet
  bIsVariableSet : Binds K dIsVariableSet ["value"] []
  gIsVariableSet : mg "is_variable_set" = some (.ref aIsVariableSet)
  aCheckPattern : Addr
  dCheckPattern : FuncData
  fCheckPattern : Fun K "check_pattern" "check_pattern" sCheckPattern aCheckPattern dCheckPattern
  bCheckPattern : Binds K dCheckPattern ["value"] []
  gCheckPattern : mg "check_pattern" = some (.ref aCheckPattern)
  aCheckVariableSet : Addr
  dCheckVariableSet : FuncData
  fCheckVariableSet : Fun K "check_variable_set" "check_variable_set" sCheckVariableSet aCheckVariableSet dCheckVariableSet
  bCheckVariableSet : Binds K dCheckVariableSet ["value"] []
  gCheckVariableSet : mg "check_variable_set" = some (.ref aCheckVariableSet)
  aCheckCount : Addr
  dCheckCount : FuncData
  fCheckCount : Fun K "check_count" "check_count" sCheckCount aCheckCount dCheckCount
  bCheckCount : Binds K dCheckCount ["value", "least", "most"] []
  gCheckCount : mg "check_count" = some (.ref aCheckCount)
  aVariables : Addr
  dVariables : FuncData
  fVariables : Fun K "variables" "variables" sVariables aVariables dVariables
  bVariables : Binds K dVariables ["pattern"] []
  gVariables : mg "variables" = some (.ref aVariables)
  aNormal : Addr
  dNormal : FuncData
  fNormal : Fun K "normal" "normal" sNormal aNormal dNormal
  bNormal : Binds K dNormal ["pattern"] []
  gNormal : mg "normal" = some (.ref aNormal)
  aDelete : Addr
  dDelete : FuncData
  fDelete : Fun K "delete" "delete" sDelete aDelete dDelete
  bDelete : Binds K dDelete ["pattern", "letters"] []
  gDelete : mg "delete" = some (.ref aDelete)
  aLinks : Addr
  dLinks : FuncData
  fLinks : Fun K "links" "links" sLinks aLinks dLinks
  bLinks : Binds K dLinks ["pattern"] []
  gLinks : mg "links" = some (.ref aLinks)
  aMerged : Addr
  dMerged : FuncData
  fMerged : Fun K "merged" "merged" sMerged aMerged dMerged
  bMerged : Binds K dMerged ["parts", "first", "second"] []
  gMerged : mg "merged" = some (.ref aMerged)
  aLinkedParts : Addr
  dLinkedParts : FuncData
  fLinkedParts : Fun K "linked_parts" "linked_parts" sLinkedParts aLinkedParts dLinkedParts
  bLinkedParts : Binds K dLinkedParts ["names", "edges"] []
  gLinkedParts : mg "linked_parts" = some (.ref aLinkedParts)
  aComponents : Addr
  dComponents : FuncData
  fComponents : Fun K "components" "components" sComponents aComponents dComponents
  bComponents : Binds K dComponents ["pattern"] []
  gComponents : mg "components" = some (.ref aComponents)
  aTouches : Addr
  dTouches : FuncData
  fTouches : Fun K "touches" "touches" sTouches aTouches dTouches
  bTouches : Binds K dTouches ["names", "letters"] []
  gTouches : mg "touches" = some (.ref aTouches)
  aKeepsSides : Addr
  dKeepsSides : FuncData
  fKeepsSides : Fun K "keeps_sides" "keeps_sides" sKeepsSides aKeepsSides dKeepsSides
  bKeepsSides : Binds K dKeepsSides ["parts", "letters"] []
  gKeepsSides : mg "keeps_sides" = some (.ref aKeepsSides)
  aFreeAmong : Addr
  dFreeAmong : FuncData
  fFreeAmong : Fun K "free_among" "free_among" sFreeAmong aFreeAmong dFreeAmong
  bFreeAmong : Binds K dFreeAmong ["names", "parts"] []
  gFreeAmong : mg "free_among" = some (.ref aFreeAmong)
  aFreeSets : Addr
  dFreeSets : FuncData
  fFreeSets : Fun K "free_sets" "free_sets" sFreeSets aFreeSets dFreeSets
  bFreeSets : Binds K dFreeSets ["pattern"] []
  gFreeSets : mg "free_sets" = some (.ref aFreeSets)
  aShortestWays : Addr
  dShortestWays : FuncData
  fShortestWays : Fun K "shortest_ways" "shortest_ways" sShortestWays aShortestWays dShortestWays
  bShortestWays : Binds K dShortestWays ["whole", "list_free", "remove"] []
  gShortestWays : mg "shortest_ways" = some (.ref aShortestWays)
  aChain : Addr
  dChain : FuncData
  fChain : Fun K "chain" "chain" sChain aChain dChain
  bChain : Binds K dChain ["pattern"] []
  gChain : mg "chain" = some (.ref aChain)
  aIsAvoidable : Addr
  dIsAvoidable : FuncData
  fIsAvoidable : Fun K "is_avoidable" "is_avoidable" sIsAvoidable aIsAvoidable dIsAvoidable
  bIsAvoidable : Binds K dIsAvoidable ["pattern"] []
  gIsAvoidable : mg "is_avoidable" = some (.ref aIsAvoidable)
  aLongerByOne : Addr
  dLongerByOne : FuncData
  fLongerByOne : Fun K "longer_by_one" "longer_by_one" sLongerByOne aLongerByOne dLongerByOne
  bLongerByOne : Binds K dLongerByOne ["pattern", "names"] []
  gLongerByOne : mg "longer_by_one" = some (.ref aLongerByOne)
  aUnavoidablePatterns : Addr
  dUnavoidablePatterns : FuncData
  fUnavoidablePatterns : Fun K "unavoidable_patterns" "unavoidable_patterns" sUnavoidablePatterns aUnavoidablePatterns dUnavoidablePatterns
  bUnavoidablePatterns : Binds K dUnavoidablePatterns ["count"] []
  gUnavoidablePatterns : mg "unavoidable_patterns" = some (.ref aUnavoidablePatterns)
  aLSource : Addr
  dLSource : FuncData
  fLSource : Fun K "_law_source" "_law_source" sLSource aLSource dLSource
  bLSource : Binds K dLSource ["_law_script"] []
  gLSource : mg "_law_source" = some (.ref aLSource)
  aLDraw : Addr
  dLDraw : FuncData
  fLDraw : Fun K "_law_draw" "_law_draw" sLDraw aLDraw dLDraw
  bLDraw : Binds K dLDraw ["_law_source_here", "_law_size"] []
  gLDraw : mg "_law_draw" = some (.ref aLDraw)
  aLPick : Addr
  dLPick : FuncData
  fLPick : Fun K "_law_pick" "_law_pick" sLPick aLPick dLPick
  bLPick : Binds K dLPick ["_law_source_here", "_law_items"] []
  gLPick : mg "_law_pick" = some (.ref aLPick)
  aLNames : Addr
  dLNames : FuncData
  fLNames : Fun K "_law_names" "_law_names" sLNames aLNames dLNames
  bLNames : Binds K dLNames ["_law_source_here", "_law_count"] []
  gLNames : mg "_law_names" = some (.ref aLNames)
  aLUniversal : Addr
  dLUniversal : FuncData
  fLUniversal : Fun K "_law_universal" "_law_universal" sLUniversal aLUniversal dLUniversal
  bLUniversal : Binds K dLUniversal ["_law_count"] []
  gLUniversal : mg "_law_universal" = some (.ref aLUniversal)
  aLPattern : Addr
  dLPattern : FuncData
  fLPattern : Fun K "_law_pattern" "_law_pattern" sLPattern aLPattern dLPattern
  bLPattern : Binds K dLPattern ["_law_source_here", "_law_names_here"] []
  gLPattern : mg "_law_pattern" = some (.ref aLPattern)
  aLComponents : Addr
  dLComponents : FuncData
  fLComponents : Fun K "_law_components" "_law_components" sLComponents aLComponents dLComponents
  bLComponents : Binds K dLComponents ["_law_pattern_here"] []
  gLComponents : mg "_law_components" = some (.ref aLComponents)
  aLIsFree : Addr
  dLIsFree : FuncData
  fLIsFree : Fun K "_law_is_free" "_law_is_free" sLIsFree aLIsFree dLIsFree
  bLIsFree : Binds K dLIsFree ["_law_pattern_here", "_law_letters"] []
  gLIsFree : mg "_law_is_free" = some (.ref aLIsFree)
  aLWithout : Addr
  dLWithout : FuncData
  fLWithout : Fun K "_law_without" "_law_without" sLWithout aLWithout dLWithout
  bLWithout : Binds K dLWithout ["_law_pattern_here", "_law_letters"] []
  gLWithout : mg "_law_without" = some (.ref aLWithout)
  aLReached : Addr
  dLReached : FuncData
  fLReached : Fun K "_law_reached" "_law_reached" sLReached aLReached dLReached
  bLReached : Binds K dLReached ["_law_pattern_here"] []
  gLReached : mg "_law_reached" = some (.ref aLReached)
  aLDistances : Addr
  dLDistances : FuncData
  fLDistances : Fun K "_law_distances" "_law_distances" sLDistances aLDistances dLDistances
  bLDistances : Binds K dLDistances ["_law_successors"] []
  gLDistances : mg "_law_distances" = some (.ref aLDistances)
  aLFewest : Addr
  dLFewest : FuncData
  fLFewest : Fun K "_law_fewest" "_law_fewest" sLFewest aLFewest dLFewest
  bLFewest : Binds K dLFewest ["_law_pattern_here"] []
  gLFewest : mg "_law_fewest" = some (.ref aLFewest)
  aLListed : Addr
  dLListed : FuncData
  fLListed : Fun K "_law_listed" "_law_listed" sLListed aLListed dLListed
  bLListed : Binds K dLListed ["_law_count"] []
  gLListed : mg "_law_listed" = some (.ref aLListed)
  aLaw : Addr
  dLaw : FuncData
  fLaw : Fun K "law" "law" sLaw aLaw dLaw
  bLaw : Binds K dLaw ["_law_script"] []
  gLaw : mg "law" = some (.ref aLaw)
  t_VARIABLES : Tok
  m_VARIABLES : mg "VARIABLES" = some (.str "abcdefghijklmnopqrstuvwxyz" t_VARIABLES)
  t_LONGEST_PATTERN : Tok
  m_LONGEST_PATTERN : mg "LONGEST_PATTERN" = some (.int 40 t_LONGEST_PATTERN)
  t_MOST_VARIABLES : Tok
  m_MOST_VARIABLES : mg "MOST_VARIABLES" = some (.int 8 t_MOST_VARIABLES)
  t_MOST_LISTED : Tok
  m_MOST_LISTED : mg "MOST_LISTED" = some (.int 3 t_MOST_LISTED)
  m_all : mg "all" = none
  m_len : mg "len" = none
  m_set : mg "set" = none
  m_isinstance : mg "isinstance" = none
  m_str : mg "str" = none
  m_bool : mg "bool" = none
  m_int : mg "int" = none
  m_enumerate : mg "enumerate" = none
  m_sorted : mg "sorted" = none
  m_list : mg "list" = none
  m_zip : mg "zip" = none
  m_any : mg "any" = none
  m_abs : mg "abs" = none
  m_range : mg "range" = none
  m_min : mg "min" = none
  m_repr : mg "repr" = none
  m_ValueError : mg "ValueError" = none
end Mo

namespace Mo
open PySem PySem.Spec PyProof.Rows L2
section
variable {P : Program} {w : World} {K : PySem.W.Frag} {mg : Str → Option Value} {base : Heap}
theorem ints_dp {H : Hp} : ∀ ns : List Int, DpAll K H (ns.map V.int) (ns.map PyData.int)
  | [] => .nil
  | n :: ns => .cons (.int n) (ints_dp ns)
theorem mod_in {a b : Int} (h : 0 < b) : 0 ≤ a.fmod b ∧ a.fmod b < b := by
  rw [Int.fmod_eq_emod_of_nonneg _ (Int.le_of_lt h)]
  exact ⟨Int.emod_nonneg _ (by omega), Int.emod_lt_of_pos _ h⟩
theorem div_in {a b : Int} (h : 0 < b) (ha : 0 ≤ a) : 0 ≤ a.fdiv b := by
  rw [Int.fdiv_eq_ediv_of_nonneg _ (Int.le_of_lt h)]
  exact Int.ediv_nonneg ha (Int.le_of_lt h)
theorem nat_of {i : Int} (h : 0 ≤ i) : ∃ j : Nat, i = (j : Int) := ⟨i.toNat, by omega⟩
theorem ok_draw {k : Nat} (T : Txt K mg) : FnOk P w K mg base CX0 (k + 1) T.aLDraw T.dLDraw ["_law_source_here", "_law_size"] spSDraw := by
  refine T.fLDraw.ok scLDraw (fun vs H Q E h => ?_) (fun cdv A outer s H vs Q E hr h => ?_)
  · obtain ⟨d, c, n, t, rfl, _⟩ := h
    rfl
  · obtain ⟨d, c, n, t, rfl, src, n0, n1, ht, q⟩ := h
    have hu := hu_of hr
    obtain ⟨ns, r, hd, hc, hl, r0⟩ := id src
    have ndc := src.ne
    have gC := DGet.k (k := Sum.inr "cells") hd
    have gT := DGet.k (k := Sum.inr "index") hd
    have gR := DGet.k (k := Sum.inr "rest") hd
    rw [src_cells] at gC
    rw [src_index] at gT
    rw [src_rest] at gR
    have nz : n ≠ 0 := by omega
    have na : n.natAbs < 1073741824 := by omega
    refine ⟨_, (pss_cons (ps_if (pt_cmpR op_gt (pe_dget hu (pv 0) pe_str (fun _ _ => rfl)) pe_int (nomark _)) (pss_cons (ps_set (i := 2) scLDraw.nd rfl (Or.inl rfl) (pe_op op_modN (pe_dget hu (pv 0) pe_str (fun _ _ => rfl)) (pv 1)))
      (pss_cons (ps_dput hu (pv 0) pe_str (pe_op op_fdivN (pe_dget hu (pv 0) pe_str (fun _ _ => rfl)) (pv 1)) rfl)
      (pss_one (ps_ret (pv 2))))) pss_nil)
      (pss_cons (ps_set (i := 3) scLDraw.nd rfl (Or.inl rfl) (pe_dget hu (pv 0) pe_str (fun _ _ => rfl)))
      (pss_cons (ps_dput hu (pv 0) pe_str (pe_op op_add (pv 3) pe_int) rfl)
      (pss_cons (ps_set (i := 4) scLDraw.nd rfl (Or.inl rfl) (pe_op op_add (pe_op op_mul pe_int (pv 3)) pe_int))
      (Evl.pss_cut (ps_if (pt_cmpR (op_neD hr.units) (pe_dget hu (pv 0) pe_str (fun _ _ => rfl)) (pe_lst pa_nil) (nomark _)) (pss_one (ps_set (i := 4) scLDraw.nd rfl (Or.inl rfl) (pe_ix ix_list (pe_dget hu (pv 0) pe_str (fun _ _ => rfl)) (pe_op op_modN (pv 3) (pe_callB call_len_seq (by rfl) T.m_len PySem.boot_len (pa_cons (pe_dget hu (pv 0) pe_str (fun _ _ => rfl)) pa_nil))) (fun _ _ => rfl)))) pss_nil)
      (Evl.pss_cut (ps_if (PW.pt (pw_and (pt_cmpR op_lt (pv 3) (pe_callB call_len_seq (by rfl) T.m_len PySem.boot_len (pa_cons (pe_dget hu (pv 0) pe_str (fun _ _ => rfl)) pa_nil)) (nomark _)) (pw_and1 (pt_cmpR op_ge (pe_callB call_abs (by rfl) T.m_abs (by decide +kernel) (pa_cons (pv 4) pa_nil)) (pe_op op_pow pe_int pe_int) (nomark _))))) (pss_cons (ps_dput hu (pv 0) pe_str (pe_op op_fdivN (pe_op op_sub (pe_callB call_abs (by rfl) T.m_abs (by decide +kernel) (pa_cons (pv 4) pa_nil)) (pe_op op_pow pe_int pe_int)) (pv 1)) rfl)
      (pss_one (ps_ret (pe_op op_modN (pe_op op_sub (pe_callB call_abs (by rfl) T.m_abs (by decide +kernel) (pa_cons (pv 4) pa_nil)) (pe_op op_pow pe_int pe_int)) (pv 1))))) pss_nil)
      (pss_cons (ps_set (i := 5) scLDraw.nd rfl (Or.inl rfl) (pe_op op_modN (pe_op op_add (pe_op op_add (pe_op op_mul (pe_op op_modN (pv 4) pe_int) pe_int) (pe_op op_mul (pe_op op_mul pe_int (pv 3)) (pv 3))) pe_int) pe_int))
      (pss_cons (ps_set (i := 5) scLDraw.nd rfl (Or.inl rfl) (pe_op op_modN (pe_op op_mul (pv 5) (pe_op op_add (pv 5) pe_int)) pe_int))
      (pss_one (ps_ret (pe_op op_modN (pe_op op_fdivN (pe_op op_modN (pe_op op_mul (pv 5) (pv 5)) pe_int) pe_int) (pv 1)))))))))))), ?_⟩
    refine ⟨_, rfl, d, _, rfl, gR, _, _, rfl, rfl, _, rfl, ite2 (fun e => ?_) (fun e => ?_)⟩
    · -- a digit of the rest
      refine ⟨_, rfl, d, _, rfl, gR, _, rfl, r, n, rfl, rfl, nz, ?_⟩
      refine ⟨_, rfl, d, _, rfl, gR, _, rfl, r, n, rfl, rfl, ⟨nz, na⟩, _, rfl, d, _, rfl, DPut.k (k := Sum.inr "rest") hd (by show 3 < sizeLine; decide), ?_⟩
      rw [sput_rest]
      exact ⟨_, rfl, q _ _ t But.set (src_set src (div_in n0 r0)) (Nat.le_succ _) (mod_in n0).1 (mod_in n0).2⟩
    · -- turn, turn + 1
      refine ⟨_, rfl, d, _, rfl, gT, ?_⟩
      refine ⟨_, rfl, t, 1, rfl, rfl, _, rfl, d, _, rfl, DPut.k (k := Sum.inr "index") hd (by show 3 < sizeLine; decide), ?_⟩
      rw [sput_index, show (t : Int) + 1 = ((t + 1 : Nat) : Int) by omega]
      have src1 : Src (upd H d (.dK (srcD c ((t + 1 : Nat) : Int) r))) d c (t + 1) := src_set src r0
      have but1 : But d H (upd H d (.dK (srcD c ((t + 1 : Nat) : Int) r))) := But.set
      generalize eH1 : upd H d (.dK (srcD c ((t + 1 : Nat) : Int) r)) = H1 at *
      have hc1 : H1 c = some (.lst (ns.map V.int)) := but1 _ _ ndc.symm hc
      have hd1 : H1 d = some (.dK (srcD c ((t + 1 : Nat) : Int) r)) := by rw [← eH1, upd_same]
      have gC1 := DGet.k (k := Sum.inr "cells") hd1
      rw [src_cells] at gC1
      -- cell
      refine ⟨_, rfl, 29, t, rfl, rfl, .inl ⟨by decide, by decide⟩, _, 17, rfl, rfl, ?_⟩
      -- if cells != []
      refine ⟨fun σ' H' => ∃ (v : Int) (o2 o5 : Option V), σ' = [some (.ref d), some (.int n), o2, some (.int t), some (.int v), o5] ∧ Same H1 H', ?_, ?_⟩
      · refine ⟨_, rfl, d, _, rfl, gC1, Nat.zero_le _, fun p np => ?_⟩
        have sm := same_new (o := .lst []) np
        refine ⟨.list (ns.map PyData.int), .list [], .lst (SqL.of (sm _ _ hc1)) (ints_dp ns), .lst (SqL.of upd_same) .nil, PySem.W.ke_shaped_ints ns, rfl, _, rfl, ite2 (fun e => ?_) (fun e => ?_)⟩
        · have hne : ns ≠ [] := by
            rintro rfl
            exact absurd e (by decide)
          have gC2 := DGet.k (k := Sum.inr "cells") (sm _ _ hd1)
          rw [src_cells] at gC2
          have hlen : 0 < ns.length := List.length_pos_iff.mpr hne
          obtain ⟨j, hj⟩ := nat_of (mod_in (a := t) (b := ((ns.map V.int).length : Int)) (by rw [List.length_map]; omega)).1
          have hj2 : j < ns.length := by
            have h2 := (mod_in (a := t) (b := ((ns.map V.int).length : Int)) (by rw [List.length_map]; omega)).2
            rw [hj, List.length_map] at h2
            omega
          refine ⟨_, rfl, d, _, rfl, gC2, _, rfl, _, rfl, d, _, rfl, gC2, c, _, rfl, .inl (SqL.of (sm _ _ hc1)), t, _, rfl, rfl, (by rw [List.length_map]; omega), c, ns.map V.int, _, .int ns[j], rfl, rfl, SqL.of (sm _ _ hc1), ?_, ?_⟩
          · rw [hj]
            exact atI_nat (by rw [List.getElem?_map, List.getElem?_eq_getElem hj2]; rfl)
          · exact ⟨_, _, _, rfl, sm⟩
        · exact ⟨_, _, _, rfl, sm⟩
      · rintro σ' H2 ⟨v, o2, o5, rfl, sm⟩
        have hd2 := sm _ _ hd1
        have hc2 := sm _ _ hc1
        have src2 : Src H2 d c (t + 1) := src1.same sm
        have but2 : But d H H2 := but1.trans (But.same sm)
        have gC2 := DGet.k (k := Sum.inr "cells") hd2
        rw [src_cells] at gC2
        clear e hd hc gC gT gR hd1 hc1 gC1 src1 but1 eH1 sm src
        -- if turn < len(cells) and abs(cell) >= 10 ** 18
        refine ⟨fun σ' H' => σ' = [some (.ref d), some (.int n), o2, some (.int t), some (.int v), o5] ∧ H' = H2, ?_, ?_⟩
        · refine ⟨_, rfl, _, rfl, d, _, rfl, gC2, c, _, rfl, .inl (SqL.of hc2), _, _, rfl, rfl, _, rfl, ite2 (fun e1 => ?_) (fun e1 => ?_)⟩
          · refine ⟨_, rfl, _, rfl, 10, 18, rfl, rfl, ⟨by decide, by decide, by decide⟩, _, _, rfl, rfl, _, rfl, ite2 (fun e2 => ?_) (fun e2 => ⟨rfl, rfl⟩)⟩
            have ab : (0 : Int) ≤ (if v < 0 then -v else v) - 10 ^ 18 := by
              have h2 := of_decide_eq_true e2
              have h3 : (10 : Int) ^ (18 : Int).toNat = 10 ^ 18 := rfl
              omega
            refine ⟨_, rfl, _, rfl, 10, 18, rfl, rfl, ⟨by decide, by decide, by decide⟩, _, _, rfl, rfl, _, rfl, _, _, rfl, rfl, ⟨nz, na⟩, _, rfl, d, _, rfl, DPut.k (k := Sum.inr "rest") hd2 (by show 3 < sizeLine; decide), ?_⟩
            rw [sput_rest]
            refine ⟨_, rfl, _, rfl, 10, 18, rfl, rfl, ⟨by decide, by decide, by decide⟩, _, _, rfl, rfl, _, rfl, _, _, rfl, rfl, nz, ?_⟩
            exact q _ _ (t + 1) (but2.trans But.set) (src_set src2 (div_in n0 ab)) (Nat.le_refl _) (mod_in n0).1 (mod_in n0).2
          · exact ⟨rfl, rfl⟩
        · rintro σ' H' ⟨rfl, rfl⟩
          refine ⟨_, rfl, _, 2147483629, rfl, rfl, (by show (2147483629 : Int) ≠ 0; decide), _, 69621, rfl, rfl, .inr ⟨by decide, by decide⟩, ?_⟩
          refine ⟨_, rfl, 40014, t, rfl, rfl, .inl ⟨by decide, by decide⟩, _, rfl, _, t, rfl, rfl, .inr ⟨by omega, by omega⟩, _, _, rfl, rfl, _, 12345, rfl, rfl, _, 2147483587, rfl, rfl, (by show (2147483587 : Int) ≠ 0; decide), ?_⟩
          have m1 := mod_in (a := v.fmod 2147483629 * 69621 + 40014 * (t : Int) * t + 12345) (b := 2147483587) (by decide)
          generalize em : (v.fmod 2147483629 * 69621 + 40014 * (t : Int) * t + 12345).fmod 2147483587 = m at m1
          refine ⟨_, rfl, _, rfl, m, 16807, congrArg V.int em, rfl, m, _, congrArg V.int em, rfl, .inl ⟨by omega, by omega⟩, _, 2147483563, rfl, rfl, (by show (2147483563 : Int) ≠ 0; decide), ?_⟩
          have m2 := mod_in (a := m * (m + 16807)) (b := 2147483563) (by decide)
          generalize em' : (m * (m + 16807)).fmod 2147483563 = m' at m2
          refine ⟨_, rfl, _, rfl, m', m', congrArg V.int em', congrArg V.int em', .inl ⟨by omega, by omega⟩, _, 2147483647, rfl, rfl, (by show (2147483647 : Int) ≠ 0; decide), _, 128, rfl, rfl, ⟨by decide, by decide⟩, _, rfl, _, n, rfl, rfl, nz, ?_⟩
          exact q _ _ (t + 1) but2 src2 (Nat.le_refl _) (mod_in n0).1 (mod_in n0).2
end
end Mo

/-! ### one of two rules; a def held by a name, called within a try -/
namespace Mo
open PySem PySem.Spec PyProof.Rows L2
section
variable {X : Cx}
theorem callR_or {f : Value} {r1 r2 : List V → Hp → VK → Prop} (h1 : CallR X f r1) (h2 : CallR X f r2) : CallR X f (fun xs H Q => r1 xs H Q ∨ r2 xs H Q) := fun pins s σ H xs us Q I r h => Or.elim h (h1 pins s σ H xs us Q I r) (h2 pins s σ H xs us Q I r)
theorem ixR_or {r1 r2 : V → V → Hp → VK → Prop} (h1 : IxR X r1) (h2 : IxR X r2) : IxR X (fun x y H Q => r1 x y H Q ∨ r2 x y H Q) := by
  intro value slice pins s σ H x y v u Q I rx ry h hs
  rcases h with h | h
  · exact h1 value slice pins s σ H x y v u Q I rx ry h hs
  · exact h2 value slice pins s σ H x y v u Q I rx ry h hs
variable {CX : CXT} {k i : Nat} {f : Addr} {fd : FuncData} {ps : List Str} {sp : Sp} {E : L2.St → XK} {x : Str} {p pos : Pos} {e : Expr} {es : List Expr} {t : TA}
def tCallLS (i : Nat) (f : Addr) (sp : Sp) (E : L2.St → XK) (t : TA) : TE := fun σ H Q => σ[i]? = some (some (.ref f)) ∧ t σ H fun vs H1 => sp vs H1 Q (E σ)
theorem pe_callLS (F : FnOk X.prog X.w X.K X.mg X.base CX k f fd ps sp) (hr : Room k X.A) (hN : X.N[i]? = some x) (hv : Vis X.env.scope x) (hk : PySem.W.keepIn X.K (.ref f) = true) (hb : L2.Binds X.K fd ps []) (hx : ∀ σ, PassesAt CX X σ (E σ)) (ha : PA X (e :: es) t)
    (hdb : (x == ("__debug__" : Str)) = false := by decide) (hcd : (x == ("__classdict__" : Str)) = false := by decide)
    (he : starEach (e :: es) X.env = (false, eval e X.env) :: starEach es X.env := by rfl) (hpl : (backTo pos (starEach es X.env)).any (·.1) = false := by rfl) : PE X (.Call (.Name x p) (e :: es) [] pos) (tCallLS i f sp E t) := by
  refine ⟨fun pins s σ H Q I h => ?_⟩
  obtain ⟨hs, ht⟩ := h
  refine wpAny_Call_Name_kw (thn ((pe_var (pos := p) hN hv hdb hcd).run pins s σ H (fun v H1 => v = .ref f ∧ H1 = H) I ⟨.ref f, hs, rfl, rfl⟩) fun u s1 ⟨v, H1, I1, r1, q1⟩ => ?_)
  obtain ⟨ev, eH⟩ := q1
  subst ev
  subst eH
  cases r1
  exact PySem.W.callWith_K (h₀ := X.base) I.ok.mod.kin hk (thn (ha.run pos pins s1 σ _ _ I1 ht) fun us s2 ⟨vs, H2, I2, r, q⟩ => ⟨I2.kIn, run_fnS F hr hb (hx σ) I2 r q⟩) he hpl
end
end Mo

namespace Mo
open PySem PySem.Spec PyProof.Rows L2
section
variable {P : Program} {w : World} {K : PySem.W.Frag} {mg : Str → Option Value} {base : Heap}
def spPickA (K : PySem.W.Frag) : Sp := fun vs H Q _ => ∃ (d c : Addr) (t : Nat), Src H d c t ∧ t < 1073741824 ∧
  ((∃ (l : Addr) (xs : List V), vs = [.ref d, .ref l] ∧ SqL K H l xs ∧ l ≠ d ∧ 0 < xs.length ∧ xs.length < 1073741824 ∧ ∀ H' v t', But d H H' → Src H' d c t' → t' ≤ t + 1 → v ∈ xs → Q v H') ∨
  (∃ zs : List Nat, vs = [.ref d, .str (tx zs)] ∧ 0 < zs.length ∧ zs.length ≤ 100 ∧ ∀ H' x t', But d H H' → Src H' d c t' → t' ≤ t + 1 → x ∈ zs → Q (sg x) H'))
theorem ok_pickA {k : Nat} (T : Txt K mg) : FnOk P w K mg base CX0 (k + 2) T.aLPick T.dLPick ["_law_source_here", "_law_items"] (spPickA K) := by
  have GLDraw : FnOk P w K mg base CX0 (k + 1) T.aLDraw T.dLDraw ["_law_source_here", "_law_size"] spSDraw := ok_draw T
  refine T.fLPick.ok scLPick (fun vs H Q E h => ?_) (fun cdv A outer s H vs Q E hr h => ?_)
  · obtain ⟨d, c, t, _, _, ⟨l, xs, rfl, _⟩ | ⟨zs, rfl, _⟩⟩ := h <;> rfl
  · obtain ⟨d, c, t, src, ht, h⟩ := h
    refine ⟨_, (pss_one (ps_ret (pe_ix (Mo.ixR_or ix_list ix_str) (pv 1) (pe_call GLDraw hr (by rfl) T.gLDraw T.fLDraw.kp T.bLDraw .nil pass0 (pa_cons (pv 0) (pa_cons (pe_callB (Mo.callR_or call_len_seq call_len_str) (by rfl) T.m_len PySem.boot_len (pa_cons (pv 1) pa_nil)) pa_nil))) (fun _ _ => rfl)))), ?_⟩
    rcases h with ⟨l, xs, rfl, hl, nld, h0, h1, q⟩ | ⟨zs, rfl, h0, h1, q⟩
    · refine ⟨_, rfl, _, rfl, _, rfl, .inl ⟨l, xs, rfl, .inl hl, d, c, _, t, rfl, src, by omega, by omega, ht, fun H' k t' but src' ht' k0 k1 => ?_⟩⟩
      obtain ⟨j, rfl⟩ := nat_of k0
      have hj : j < xs.length := by omega
      have hl' : SqL K H' l xs := by
        rcases hl with (e | ⟨o, e⟩) | e
        · exact .inl (.inl (but _ _ nld e))
        · exact .inl (.inr ⟨o, but _ _ nld e⟩)
        · exact .inr e
      exact .inl ⟨l, xs, j, xs[j], rfl, rfl, hl', atI_nat (List.getElem?_eq_getElem hj), q H' _ t' but src' ht' (List.getElem_mem hj)⟩
    · refine ⟨_, rfl, _, rfl, _, rfl, .inr ⟨tx zs, rfl, by rw [tx_len]; exact fits5 (by omega), d, c, _, t, rfl, src, by rw [tx_len]; omega, by rw [tx_len]; omega, ht, fun H' k t' but src' ht' k0 k1 => ?_⟩⟩
      rw [tx_len] at k1
      obtain ⟨j, rfl⟩ := nat_of k0
      have hj : j < zs.length := by omega
      exact .inr ⟨tx zs, j, zs[j], rfl, rfl, by rw [tx_len]; exact fits5 (by omega), atI_nat (List.getElem?_eq_getElem hj), q H' _ t' but src' ht' (List.getElem_mem hj)⟩
theorem ok_pick {k : Nat} (T : Txt K mg) : FnOk P w K mg base CX0 (k + 2) T.aLPick T.dLPick ["_law_source_here", "_law_items"] (spSPick K) :=
  (ok_pickA T).imp fun vs H Q E h => by
    obtain ⟨d, c, l, xs, t, rfl, src, hl, nld, h0, h1, ht, q⟩ := h
    exact ⟨d, c, t, src, ht, .inl ⟨l, xs, rfl, hl, nld, h0, h1, q⟩⟩
end
end Mo

namespace Mo
open PySem PySem.Spec PyProof.Rows L2
section
variable {P : Program} {w : World} {K : PySem.W.Frag} {mg : Str → Option Value} {base : Heap}
/-- a text of n different small letters -/
def spNames : Sp := fun vs H Q _ => ∃ (d c : Addr) (n t : Nat), vs = [.ref d, .int n] ∧ Src H d c t ∧ n ≤ 26 ∧ t + 2 < 1073741824 ∧
  ∀ H' cs t', But d H H' → Src H' d c t' → t' ≤ t + 2 → cs.length = n → cs.Nodup → Low cs → Q (.str (tx cs)) H'
def lett : List Nat := [97, 98, 99, 100, 101, 102, 103, 104, 105, 106, 107, 108, 109, 110, 111, 112, 113, 114, 115, 116, 117, 118, 119, 120, 121, 122]
def nm (b st : Int) (k : Nat) : Nat := 97 + ((b + st * (k : Int)).fmod 26).toNat
theorem lett_at : ∀ j : Fin 26, lett[j.val]? = some (97 + j.val) := by decide
theorem lett_text : (Str.ofString "abcdefghijklmnopqrstuvwxyz").cps.toList = lett := by decide +kernel
theorem lett_ix {i : Int} (h0 : 0 ≤ i) (h1 : i < 26) : atI (Str.ofString "abcdefghijklmnopqrstuvwxyz").cps.toList i = some (97 + i.toNat) := by
  obtain ⟨j, rfl⟩ := nat_of h0
  rw [lett_text]
  exact atI_nat (lett_at ⟨j, by omega⟩)
theorem nm_low (b st : Int) (k : Nat) : 97 ≤ nm b st k ∧ nm b st k ≤ 122 := by
  have h := mod_in (a := b + st * (k : Int)) (b := 26) (by decide)
  unfold nm
  omega
def steps26 : List Int := [1, 3, 5, 7, 9, 11, 15, 17, 19, 21, 23, 25]
theorem nm_inj {b st : Int} (hs : st ∈ steps26) {i j : Nat} (hij : i < j) (hj : j < 26) : nm b st i ≠ nm b st j := by
  unfold nm
  rw [Int.fmod_eq_emod_of_nonneg _ (by decide), Int.fmod_eq_emod_of_nonneg _ (by decide)]
  have h1 := Int.emod_nonneg (b + st * (i : Int)) (b := 26) (by decide)
  have h2 := Int.emod_nonneg (b + st * (j : Int)) (b := 26) (by decide)
  intro e
  have e2 : (b + st * (i : Int)) % 26 = (b + st * (j : Int)) % 26 := by omega
  clear e h1 h2
  simp only [steps26, List.mem_cons, List.not_mem_nil, or_false] at hs
  rcases hs with rfl | rfl | rfl | rfl | rfl | rfl | rfl | rfl | rfl | rfl | rfl | rfl <;> omega
theorem nm_nodup {b st : Int} (hs : st ∈ steps26) {n : Nat} (hn : n ≤ 26) : ((List.range n).map (nm b st)).Nodup := by
  unfold List.Nodup
  rw [List.pairwise_map]
  refine List.Pairwise.imp_of_mem (fun {x y} hx hy hlt => ?_) (List.pairwise_lt_range (n := n))
  have := List.mem_range.mp hy
  exact nm_inj hs hlt (by omega)
theorem take_range_snoc {f : Nat → V} {i : Nat} : (List.range (i + 1)).map f = (List.range i).map f ++ [f i] := by
  rw [List.range_succ, List.map_append]
  rfl
theorem nodup_sub_len : ∀ (a b : List Nat), a.Nodup → (∀ x ∈ a, x ∈ b) → a.length ≤ b.length
  | [], b, _, _ => Nat.zero_le _
  | x :: a, b, hn, hs => by
    have hx : x ∈ b := hs x List.mem_cons_self
    have hn2 := List.nodup_cons.mp hn
    have ih := nodup_sub_len a (b.erase x) hn2.2 fun y hy => by
      have ne : y ≠ x := fun e => hn2.1 (e ▸ hy)
      exact (List.mem_erase_of_ne ne).mpr (hs y (List.mem_cons_of_mem _ hy))
    rw [List.length_erase_of_mem hx] at ih
    have := List.length_pos_of_mem hx
    rw [List.length_cons]
    omega
theorem met_sub_len {zs cs : List Nat} (h : ∀ x ∈ zs, x ∈ cs) : (met zs).length ≤ cs.length := nodup_sub_len _ _ (met_nodup zs) fun x hx => h x (mem_met.mp hx)
theorem cut_tx (zs : List Nat) (lo hi : Option Int) : cutS (tx zs) lo hi = tx ((zs.drop (HT.sIx zs.length 0 lo)).take (HT.sIx zs.length zs.length hi - HT.sIx zs.length 0 lo)) := by
  unfold cutS
  rw [tx_len]
  rfl
theorem signs_map (zs : List Nat) : zs.map sg = (zs.map fun c => (⟨#[c]⟩ : Str)).map V.str := by rw [List.map_map]; rfl
theorem signs_room {zs : List Nat} (h : zs.length ≤ 100000) : ((zs.map fun c => (⟨#[c]⟩ : Str)).map (·.length)).sum + (zs.map fun c => (⟨#[c]⟩ : Str)).length * (Str.ofString "").length ≤ 16777216 := by
  have e : ((zs.map fun c => (⟨#[c]⟩ : Str)).map (·.length)) = zs.map fun _ => 1 := by
    rw [List.map_map]
    rfl
  have e2 : ∀ l : List Nat, (l.map fun _ => 1).sum = l.length := by
    intro l
    induction l with
    | nil => rfl
    | cons x l ih => simp [ih]; omega
  have e3 : (Str.ofString "").length = 0 := by decide
  rw [e, e2, e3]
  omega
theorem ok_names {k : Nat} (T : Txt K mg) : FnOk P w K mg base CX0 (k + 3) T.aLNames T.dLNames ["_law_source_here", "_law_count"] spNames := by
  have GLDraw : FnOk P w K mg base CX0 (k + 2) T.aLDraw T.dLDraw ["_law_source_here", "_law_size"] spSDraw := ok_draw T
  have GLPick : FnOk P w K mg base CX0 (k + 2) T.aLPick T.dLPick ["_law_source_here", "_law_items"] (spSPick K) := ok_pick T
  refine T.fLNames.ok scLNames (fun vs H Q E h => ?_) (fun cdv A outer s H vs Q E hr h => ?_)
  · obtain ⟨d, c, n, t, rfl, _⟩ := h
    rfl
  · obtain ⟨d, c, n, t, rfl, src, hn, ht, q⟩ := h
    refine ⟨_, (pss_cons (ps_set (i := 2) scLNames.nd rfl (Or.inr rfl) pe_str)
      (pss_cons (ps_asg (pe_tup (pa_cons (pe_call GLDraw hr (by rfl) T.gLDraw T.fLDraw.kp T.bLDraw .nil pass0 (pa_cons (pv 0) (pa_cons pe_int pa_nil))) (pa_cons (pe_call GLPick hr (by rfl) T.gLPick T.fLPick.kp T.bLPick .nil pass0 (pa_cons (pv 0) (pa_cons (pe_lst (pa_cons pe_int (pa_cons pe_int (pa_cons pe_int (pa_cons pe_int (pa_cons pe_int (pa_cons pe_int (pa_cons pe_int (pa_cons pe_int (pa_cons pe_int (pa_cons pe_int (pa_cons pe_int (pa_cons pe_int pa_nil))))))))))))) pa_nil))) pa_nil))) (pg_tup (by rfl) (pgs_cons (pg_name (i := 3) scLNames.nd rfl (Or.inr rfl)) (pgs_cons (pg_name (i := 4) scLNames.nd rfl (Or.inr rfl)) pgs_nil))))
      (pss_one (ps_ret (pe_join pe_str (pe_lc (own := [("_law_index", 5)]) (g := gName 5) (tt := tYes) rfl scLNames.nd (pi_range1 (by rfl) T.m_range (pa_cons (pv 1) pa_nil)) (blkOk_by (N := ["_law_source_here", "_law_count", "_law_alphabet", "_law_first", "_law_step", "_law_index"]) (sc := defScope sLNames) (by decide +kernel)) (fun _ _ _ _ _ => pg_name (i := 5) scLNames.nd rfl (Or.inl rfl)) (fun _ _ _ _ _ => pts_nil) (fun _ _ _ _ _ => (pe_ix ix_str (pv 2) (pe_op op_modN (pe_op op_add (pv 3) (pe_op op_mul (pv 4) (pv 5))) pe_int) (fun _ _ => rfl))))))))), ?_⟩
    refine ⟨_, rfl, d, c, 26, t, rfl, src, by decide, by decide, by omega, fun H1 b t1 but1 src1 ht1 b0 b1 => ?_⟩
    refine ⟨_, rfl, by show 12 ≤ sizeLine; decide, fun l nl => ?_⟩
    have sm1 := same_new (o := .lst (steps26.map V.int)) nl
    refine ⟨d, c, l, _, t1, rfl, src1.same sm1, SqL.of upd_same, (src1.new nl).1, by show 0 < 12; decide, by show 12 < _; decide, by omega, fun H2 v t2 but2 src2 ht2 hv => ?_⟩
    obtain ⟨st, hst, rfl⟩ : ∃ st ∈ steps26, v = .int st := by
      have hv' : v ∈ steps26.map V.int := hv
      obtain ⟨st, h1, h2⟩ := List.mem_map.mp hv'
      exact ⟨st, h1, h2.symm⟩
    refine ⟨by show 2 ≤ sizeLine; decide, fun tp ntp => ?_⟩
    have sm2 := same_new (o := .tup [.int b, .int st]) ntp
    refine ⟨tp, [.int b, .int st], rfl, SqT.of upd_same, rfl, _, _, rfl, _, _, rfl, rfl, ?_⟩
    have src3 := src2.same sm2
    have but3 : But d H (upd H2 tp (.tup [.int b, .int st])) := ((but1.trans (But.same sm1)).trans but2).trans (But.same sm2)
    generalize upd H2 tp (.tup [.int b, .int st]) = H3 at *
    refine ⟨⟨_, rfl⟩, _, rfl, n, rfl, by omega, by omega, fun D nD => ?_⟩
    have nDp := src3.new nD
    refine lc_range (lo := 0) (n := n) (fun i H' => But d H3 H' ∧ Src H' d c t2 ∧ H' D = some (.lst ((List.range i).map fun k => sg (nm b st k)))) ?_ ?_ ?_
    · exact ⟨But.same (same_new nD), src3.same (same_new nD), upd_same⟩
    · rintro i H' hi ⟨bt, pn, hD⟩
      refine ⟨rfl, _, rfl, _, rfl, _, rfl, _, rfl, st, _, rfl, rfl, ?_, _, _, rfl, rfl, _, 26, rfl, rfl, (by show (26 : Int) ≠ 0; decide), _, _, nm b st i, rfl, rfl, by decide, ?_, _, hD, ?_, ?_⟩
      · exact .inr ⟨by omega, by omega⟩
      · rw [Int.zero_add]
        exact lett_ix (mod_in (by decide)).1 (mod_in (by decide)).2
      · exact small1000 (by rw [List.length_map, List.length_range]; omega)
      · exact ⟨bt.put nD, pn.upd nDp.1 nDp.2, by rw [upd_same, take_range_snoc]⟩
    · rintro H' ⟨bt, pn, hD⟩
      have hl : ((List.range n).map (nm b st)).length = n := by simp
      have e : (List.range n).map (fun k => sg (nm b st k)) = (((List.range n).map (nm b st)).map fun c => (⟨#[c]⟩ : Str)).map V.str := by
        rw [← signs_map, List.map_map]
        rfl
      rw [e] at hD
      refine ⟨_, D, _, rfl, rfl, .inl (SqL.of hD), signs_room (by omega), ?_⟩
      rw [join_signs]
      exact q H' _ t2 (but3.trans bt) pn (by omega) hl (nm_nodup hst hn) (fun x hx => by
        obtain ⟨k, _, rfl⟩ := List.mem_map.mp hx
        exact nm_low b st k)
end
end Mo

namespace Mo
open PySem PySem.Spec PyProof.Rows L2
section
variable {P : Program} {w : World} {K : PySem.W.Frag} {mg : Str → Option Value} {base : Heap}
theorem neg_of {p : Prop} [Decidable p] (e : (!decide p) = true) : ¬ p := by simpa using e
theorem pos_of {p : Prop} [Decidable p] (e : ¬ (!decide p) = true) : p := by simpa using e
def spIsPat : Sp := fun vs H Q _ => ∃ cs : List Nat, vs = [.str (tx cs)] ∧ Pat cs ∧ ∀ H', Same H H' → Q (.bl true) H'
def spCheck : Sp := fun vs H Q _ => ∃ cs : List Nat, vs = [.str (tx cs)] ∧ Pat cs ∧ ∀ H', Same H H' → Q .non H'
theorem low_lett {cs : List Nat} (h : Low cs) : ∀ c ∈ cs, c ∈ lett := by
  intro c hc
  have h1 := h c hc
  have h2 := lett_at ⟨c - 97, by omega⟩
  have h3 : 97 + (c - 97) = c := by omega
  rw [h3] at h2
  exact List.mem_of_getElem? h2
theorem ok_isPat {k : Nat} (T : Txt K mg) : FnOk P w K mg base CX0 (k + 1) T.aIsPattern T.dIsPattern ["value"] spIsPat := by
  refine T.fIsPattern.ok scIsPattern (fun vs H Q E h => ?_) (fun cdv A outer s H vs Q E hr h => ?_)
  · obtain ⟨cs, rfl, _⟩ := h
    rfl
  · obtain ⟨cs, rfl, pat, q⟩ := h
    refine ⟨_, (pss_cons (ps_if (PW.pt (pw_or (pt_not (pt_val (pe_callB call_isi (by rfl) T.m_isinstance (by decide +kernel) (pa_cons (pv 0) (pa_cons (pe_bltn (v := .ty "str") (by rfl) T.m_str (by decide +kernel) rfl) pa_nil))))) (pw_or1 (pt_cmpR op_gt (pe_callB call_len_str (by rfl) T.m_len PySem.boot_len (pa_cons (pv 0) pa_nil)) (pe_glob (v := .int 40) rfl T.m_LONGEST_PATTERN ⟨_, rfl⟩) (nomark _))))) (pss_one (ps_ret pe_bl)) pss_nil)
      (pss_one (ps_ret (pe_and (pe_cmpR op_le (pe_callB Mo.cr_lenK (by rfl) T.m_len PySem.boot_len (pa_cons (pe_callTy (Mo.cr_setS rfl) (by rfl) T.m_set (by decide +kernel) (pa_cons (pv 0) pa_nil)) pa_nil)) (pe_glob (v := .int 8) rfl T.m_MOST_VARIABLES ⟨_, rfl⟩) (nomark _)) (pe_one (pe_callB (cr_all rfl) (by rfl) T.m_all (by decide +kernel) (pa_cons (pe_lc (own := [("name", 1)]) (g := gName 1) (tt := tYes) rfl scIsPattern.nd (pi_str (pv 0)) (blkOk_by (N := ["value", "name"]) (sc := defScope sIsPattern) (by decide +kernel)) (fun _ _ _ _ _ => pg_name (i := 1) scIsPattern.nd rfl (Or.inl rfl)) (fun _ _ _ _ _ => pts_nil) (fun _ _ _ _ _ => (pe_cmpR op_in_sign (pv 1) (pe_glob (v := .str "abcdefghijklmnopqrstuvwxyz") rfl T.m_VARIABLES ⟨_, rfl⟩) rfl))) pa_nil))))))), ?_⟩
    have hlen := pat.len
    have hfew : (met (tx cs).cps.toList).length ≤ 8 := pat.few
    refine ⟨_, rfl, _, _, .type "str", .type "str", true, rfl, .ty "str", .base (.str _), kit_ty (by decide +kernel), true, rfl, iteF ?_⟩
    refine ⟨_, rfl, _, rfl, fits5 (by rw [tx_len]; omega), _, _, rfl, rfl, _, rfl, ite2 (fun e => ?_) (fun e => ?_)⟩
    · exfalso
      have h1 := of_decide_eq_true e
      rw [tx_len] at h1
      omega
    refine ⟨_, rfl, tx cs, rfl, by rw [tx_size]; omega, fun p np => ?_⟩
    refine ⟨p, _, _, rfl, upd_same, by omega, _, _, rfl, rfl, true, congrArg V.bl (decide_eq_true (by omega)), ?_⟩
    have sm := same_new (o := SetK P w p (inS (tx cs).cps.toList) (met (tx cs).cps.toList).length) np
    refine ⟨_, rfl, tx cs, rfl, fun D nD => lc_it walk_str (fun i H' => Same (upd H p (SetK P w p (inS (tx cs).cps.toList) (met (tx cs).cps.toList).length)) H' ∧ H' D = some (.lst ((List.replicate i true).map V.bl))) ?_ ?_ ?_ ?_⟩
    · exact ⟨same_new nD, upd_same⟩
    · exact fun _ _ _ _ => trivial
    · rintro i x H1 H2 hi ⟨s1, hD⟩ ⟨rfl, c, hc, rfl⟩
      have hi2 : i < 41 := by
        rw [tx_size] at hi
        omega
      have hcs : c ∈ (Str.ofString "abcdefghijklmnopqrstuvwxyz").cps.toList := by
        rw [lett_text]
        exact low_lett pat.low c (List.mem_of_getElem? (tx_get.symm.trans hc))
      refine ⟨rfl, _, rfl, c, _, rfl, rfl, _, hD, fitsLt (by rw [List.length_map, List.length_replicate]; omega), Same.put s1 nD, ?_⟩
      rw [upd_same, decide_eq_true hcs, List.replicate_succ', List.map_append]
      rfl
    · rintro H1 ⟨s1, hD⟩
      refine ⟨D, List.replicate _ true, rfl, SqL.of hD, ?_⟩
      rw [show (List.replicate (tx cs).cps.size true).all id = true by simp]
      exact q H1 (sm.trans s1)
theorem ok_check {k : Nat} (T : Txt K mg) : FnOk P w K mg base CX0 (k + 2) T.aCheckPattern T.dCheckPattern ["value"] spCheck := by
  have GIsPattern : FnOk P w K mg base CX0 (k + 1) T.aIsPattern T.dIsPattern ["value"] spIsPat := ok_isPat T
  refine T.fCheckPattern.ok scCheckPattern (fun vs H Q E h => ?_) (fun cdv A outer s H vs Q E hr h => ?_)
  · obtain ⟨cs, rfl, _⟩ := h
    rfl
  · obtain ⟨cs, rfl, pat, q⟩ := h
    refine ⟨_, (pss_one (ps_if (pt_not (pt_val (pe_call GIsPattern hr (by rfl) T.gIsPattern T.fIsPattern.kp T.bIsPattern .nil pass0 (pa_cons (pv 0) pa_nil)))) (pss_one ps_never) pss_nil)), ?_⟩
    exact ⟨_, rfl, cs, rfl, pat, fun H1 s1 => ⟨true, rfl, iteF (q H1 s1)⟩⟩
end
end Mo

namespace Mo
open PySem PySem.Spec PyProof.Rows L2
section
variable {P : Program} {w : World} {K : PySem.W.Frag} {mg : Str → Option Value} {base : Heap}
end
end Mo

/-! ### lists of tuples of texts as data -/
namespace Mo
open PySem PySem.Spec PyProof.Rows L2
/-- a tuple of texts, a list of such -/
def tupD (ss : List Str) : PyData := .tuple (ss.map PyData.str)
def tpsD {α : Type} (g : α → List Str) (qs : List α) : PyData := .list (qs.map fun q => tupD (g q))
theorem strs_dxs {N : Addr → Prop} {H : Hp} : ∀ ss : List Str, DxAll N H (ss.map V.str) (ss.map PyData.str)
  | [] => .nil
  | s :: r => .cons (.str s) (strs_dxs r)
theorem tps_dxs {α : Type} {g : α → List Str} {H : Hp} : ∀ {ps : List Addr} {qs : List α}, TpsAt (fun q => (g q).map V.str) H ps qs → DxAll (fun _ => False) H (ps.map V.ref) (qs.map fun q => tupD (g q))
  | [], [], _ => .nil
  | [], q :: qs, h => absurd h.len (by simp)
  | p :: ps, [], h => absurd h.len (by simp)
  | p :: ps, q :: qs, h => .cons (.tup (h.el 0 p q rfl rfl) (fun z => z) (strs_dxs _)) (tps_dxs h.tail)
theorem tps_dx {α : Type} {g : α → List Str} {H : Hp} {l : Addr} {ps : List Addr} {qs : List α} (hl : H l = some (.lst (ps.map V.ref))) (h : TpsAt (fun q => (g q).map V.str) H ps qs) : Dx (fun _ => False) H (.ref l) (tpsD g qs) :=
  .lst hl (fun z => z) (tps_dxs h)
theorem fit_txt {B W D : Nat} {s : Str} (h : s.cps.size ≤ W) (hc : ∀ c ∈ s.cps.toList, c < 128) : Fit B W D (.str s) :=
  ⟨by simp only [okD]; exact hc, by simp only [PyData.bulk]; exact h, by simp only [PyData.depth]; exact Nat.zero_le _⟩
theorem fitA_none {B D : Nat} : FitAll B 1 D [] := ⟨by simp [okAll], by simp [PyData.bulkAll], by simp [PyData.depthAll]⟩
theorem fitA_one {B W V D : Nat} {d : PyData} {ds : List PyData} (h : Fit B W D d) (g : FitAll B V D ds) : FitAll B (W + 1 + V) D (d :: ds) := FitAll.app (a := [d]) h.one g
theorem fit_two {s t : Str} (h1 : s.cps.size ≤ 60) (h2 : t.cps.size ≤ 60) (c1 : ∀ c ∈ s.cps.toList, c < 128) (c2 : ∀ c ∈ t.cps.toList, c < 128) : Fit 20 200 2 (tupD [s, t]) :=
  (FitAll.tup (fitA_one (fit_txt (B := 20) (W := 60) (D := 1) h1 c1) (fitA_one (fit_txt (B := 20) (W := 60) (D := 1) h2 c2) fitA_none))).mono (by decide) (by decide) (by decide)
theorem fit_tpsA {α : Type} {g : α → List Str} : ∀ {qs : List α}, (∀ q ∈ qs, Fit 20 200 2 (tupD (g q))) → FitAll 20 (1 + 201 * qs.length) 2 (qs.map fun q => tupD (g q))
  | [], _ => fitA_none
  | q :: qs, h => (fitA_one (h q List.mem_cons_self) (fit_tpsA fun r hr => h r (List.mem_cons_of_mem _ hr))).mono (Nat.le_refl _) (by rw [List.length_cons]; omega) (Nat.le_refl _)
theorem fit_tps {α : Type} {g : α → List Str} {qs : List α} (h : ∀ q ∈ qs, Fit 20 200 2 (tupD (g q))) (hl : qs.length ≤ 1000) : Fit 20 250000 3 (tpsD g qs) :=
  FitAll.lst ((fit_tpsA h).mono (Nat.le_refl _) (by omega) (Nat.le_refl _))
theorem fit_ed {e : Nat × Nat} (h : e.1 < 128 ∧ e.2 < 128) : Fit 20 200 2 (tupD (edS e)) :=
  fit_two (by show 1 ≤ 60; decide) (by show 1 ≤ 60; decide) (fun c hc => by
    have hc : c ∈ [e.1] := hc
    rw [List.mem_singleton.mp hc]
    exact h.1) fun c hc => by
    have hc : c ∈ [e.2] := hc
    rw [List.mem_singleton.mp hc]
    exact h.2
theorem fit_pt {q : Pt} (h1 : q.1.length ≤ 60) (h2 : q.2.length ≤ 60) (c1 : ∀ c ∈ q.1, c < 128) (c2 : ∀ c ∈ q.2, c < 128) : Fit 20 200 2 (tupD (ptS q)) :=
  fit_two (by rw [tx_size]; exact h1) (by rw [tx_size]; exact h2) c1 c2
theorem Edges.iff {es : List (Nat × Nat)} {E F : Nat × Nat → Prop} (h : Edges es E) (e : ∀ x, E x ↔ F x) : Edges es F := ⟨fun x => (h.mem x).trans (e x), h.asc⟩
theorem edges_one {es : List (Nat × Nat)} {cs : List Nat} (h : Edges es fun e => ∃ f ∈ [cs], e ∈ nbr f) : Edges es (· ∈ nbr cs) := h.iff fun e => ⟨fun ⟨f, hf, he⟩ => by rw [← List.mem_singleton.mp hf]; exact he, fun he => ⟨cs, by simp, he⟩⟩
/-- each part has but names, none twice -/
theorem Parts.in {es : List (Nat × Nat)} {ns : List Nat} {ps : List Pt} (h : Parts es ns ps) (he : ∀ e ∈ es, e.1 ∈ ns ∧ e.2 ∈ ns) {p : Pt} (hp : p ∈ ps) : (∀ c ∈ p.1, c ∈ ns) ∧ ∀ c ∈ p.2, c ∈ ns := by
  obtain ⟨v, hv, c⟩ := h.cmp p hp
  exact ⟨fun x hx => ((c.all (false, x)).mp hx).in hv he, fun x hx => ((c.all (true, x)).mp hx).in hv he⟩
theorem Parts.lens {es : List (Nat × Nat)} {ns : List Nat} {ps : List Pt} (h : Parts es ns ps) (he : ∀ e ∈ es, e.1 ∈ ns ∧ e.2 ∈ ns) {p : Pt} (hp : p ∈ ps) : p.1.length ≤ ns.length ∧ p.2.length ≤ ns.length := by
  obtain ⟨v, hv, c⟩ := h.cmp p hp
  obtain ⟨h1, h2⟩ := h.in he hp
  exact ⟨nd_sub _ _ (asc_nodup c.asc1) h1, nd_sub _ _ (asc_nodup c.asc2) h2⟩
theorem Parts.few {es : List (Nat × Nat)} {ns : List Nat} {ps : List Pt} (h : Parts es ns ps) : ps.length ≤ 2 * ns.length := by
  -- to each part a node of its own
  have key : ∀ qs : List Pt, qs.Nodup → (∀ q ∈ qs, q ∈ ps) → ∃ vs : List Nd, vs.length = qs.length ∧ vs.Nodup ∧ ∀ v ∈ vs, v.2 ∈ ns ∧ ∃ q ∈ qs, At q v := by
    intro qs
    induction qs with
    | nil => exact fun _ _ => ⟨[], rfl, List.nodup_nil, fun _ h => absurd h (by simp)⟩
    | cons q qs ih =>
      intro nd hs
      have nd2 := List.nodup_cons.mp nd
      obtain ⟨vs, h1, h2, h3⟩ := ih nd2.2 fun r hr => hs r (List.mem_cons_of_mem _ hr)
      obtain ⟨v, hv, c⟩ := h.cmp q (hs q List.mem_cons_self)
      refine ⟨v :: vs, by rw [List.length_cons, List.length_cons, h1], List.nodup_cons.mpr ⟨fun z => ?_, h2⟩, fun u hu => ?_⟩
      · obtain ⟨_, r, hr, ha⟩ := h3 v z
        obtain ⟨u, _, c2⟩ := h.cmp r (hs r (List.mem_cons_of_mem _ hr))
        rw [c.eq c2 c.self ha] at nd2
        exact nd2.1 hr
      · rcases List.mem_cons.mp hu with rfl | hu
        · exact ⟨hv, q, List.mem_cons_self, c.self⟩
        · obtain ⟨a, r, hr, b⟩ := h3 u hu
          exact ⟨a, r, List.mem_cons_of_mem _ hr, b⟩
  obtain ⟨vs, h1, h2, h3⟩ := key ps h.nd fun q h => h
  have := nd_sub vs (ns.map (fun c => (false, c)) ++ ns.map fun c => (true, c)) h2 fun v hv => by
    obtain ⟨s, c⟩ := v
    have := (h3 _ hv).1
    cases s
    · exact List.mem_append_left _ (List.mem_map.mpr ⟨c, this, rfl⟩)
    · exact List.mem_append_right _ (List.mem_map.mpr ⟨c, this, rfl⟩)
  rw [List.length_append, List.length_map, List.length_map] at this
  omega
/-! ### small data -/
theorem cfit_bl (b : Bool) : Fit 20 1000 5 (.bool b) := ⟨by simp [okD], by simp [PyData.bulk], by simp [PyData.depth]⟩
theorem cfit_non : Fit 20 1000 5 .none := ⟨by simp [okD], by simp [PyData.bulk], by simp [PyData.depth]⟩
theorem cfit_int {i : Int} (h : i.natAbs < 10 ^ 20) : Fit 20 1000 5 (.int i) := ⟨by simp only [okD]; exact h, by simp only [PyData.bulk]; exact Nat.zero_le _, by simp only [PyData.depth]; exact Nat.zero_le _⟩
theorem cfit_tx {cs : List Nat} (h : ∀ c ∈ cs, c < 128) (hl : cs.length ≤ 1000) : Fit 20 1000 5 (.str (tx cs)) := fit_txt (by rw [tx_size]; exact hl) h
theorem cfit_one {s : Str} (h : s.cps.size ≤ 60) (hc : ∀ c ∈ s.cps.toList, c < 128) : Fit 20 1000 5 (.list [.str s]) :=
  (FitAll.lst (fitA_one (fit_txt (B := 20) (W := 60) (D := 1) h hc) fitA_none)).mono (by decide) (by decide) (by decide)
theorem lay_tx {cs : List Nat} (h : ∀ c ∈ cs, c < 128) : (PyData.str (tx cs)).canLay0 = true := by
  simp only [PyData.canLay0]
  unfold PyData.strOk
  rw [Array.all_eq_true_iff_forall_mem]
  intro x hx
  exact decide_eq_true (Nat.lt_trans (h x (by simpa [tx] using hx)) (by decide))
theorem shaped_tx {cs : List Nat} (h : ∀ c ∈ cs, c < 128) : SeqAt.shaped (.str (tx cs)) = true := by
  show ((PyData.str (tx cs)).canLay0 && decide ((PyData.str (tx cs)).depth ≤ 64)) = true
  rw [lay_tx h]
  rfl
/-- small data that stands for good -/
structure VD (K : PySem.W.Frag) (H : Hp) (v : V) (d : PyData) : Prop where
  dx : Dx (fun _ => False) H v d
  dp : Dp K H v d
  sh : SeqAt.shaped d = true
  fit : Fit 20 1000 5 d
theorem vd_non {K : PySem.W.Frag} {H : Hp} : VD K H .non .none := ⟨.non, .non, rfl, cfit_non⟩
theorem vd_bl {K : PySem.W.Frag} {H : Hp} (b : Bool) : VD K H (.bl b) (.bool b) := ⟨.bl b, .bl b, rfl, cfit_bl b⟩
theorem vd_int {K : PySem.W.Frag} {H : Hp} {i : Int} (h : i.natAbs < 10 ^ 20) : VD K H (.int i) (.int i) := ⟨.int i, .int i, rfl, cfit_int h⟩
theorem vd_tx {K : PySem.W.Frag} {H : Hp} {cs : List Nat} (h : ∀ c ∈ cs, c < 128) (hl : cs.length ≤ 1000) : VD K H (.str (tx cs)) (.str (tx cs)) := ⟨.str _, .str _, shaped_tx h, cfit_tx h hl⟩
theorem vd_one {K : PySem.W.Frag} {H : Hp} {l : Addr} {cs : List Nat} (hl : H l = some (.lst [.str (tx cs)])) (h : ∀ c ∈ cs, c < 128) (h60 : cs.length ≤ 60) : VD K H (.ref l) (.list [.str (tx cs)]) :=
  ⟨.lst hl (fun z => z) (.cons (.str _) .nil), .lst (SqL.of hl) (.cons (.str _) .nil), by
    have h1 := lay_tx h
    show (PyData.canLay0 (.list [.str (tx cs)]) && decide (PyData.depth (.list [.str (tx cs)]) ≤ 64)) = true
    simp only [PyData.canLay0, PyData.canLayAll0, PyData.depth, PyData.depthAll] at h1 ⊢
    rw [h1]
    rfl, cfit_one (by rw [tx_size]; exact h60) h⟩
theorem st_a1 : Str.ofString "a" = tx [97] := by decide +kernel
theorem st_sp1 : Str.ofString " " = tx [32] := by decide +kernel
theorem st_A1 : Str.ofString "A" = tx [65] := by decide +kernel
/-! ### the signs of a repr -/
theorem rep_signs : ∀ c : Fin 128, ((Builtin.Str.reprChar 34 c.val).all fun x => decide (x < 128)) = true ∧ ((Builtin.Str.reprChar 39 c.val).all fun x => decide (x < 128)) = true := by decide +kernel
theorem rep_fold (q : Nat) : ∀ (l : List Nat) (acc : Array Nat), (∀ x ∈ acc.toList, x < 128) → (∀ c ∈ l, ((Builtin.Str.reprChar q c).all fun x => decide (x < 128)) = true) → ∀ x ∈ (l.foldl (fun out c => out ++ (Builtin.Str.reprChar q c).toArray) acc).toList, x < 128
  | [], acc, h, _ => h
  | c :: r, acc, h, hc => by
    rw [List.foldl_cons]
    refine rep_fold q r _ (fun x hx => ?_) fun d hd => hc d (List.mem_cons_of_mem _ hd)
    rw [Array.toList_append] at hx
    rcases List.mem_append.mp hx with z | z
    · exact h x z
    · exact of_decide_eq_true (List.all_eq_true.mp (hc c List.mem_cons_self) x z)
theorem repr_low {cs : List Nat} (h : ∀ c ∈ cs, c < 128) : ∀ x ∈ (reprText (tx cs)).cps.toList, x < 128 := by
  have hq : reprQuote (tx cs) = 34 ∨ reprQuote (tx cs) = 39 := by
    unfold reprQuote
    split
    · exact .inl rfl
    · exact .inr rfl
  unfold reprText
  intro x hx
  rw [← Array.foldl_toList] at hx
  have hx2 : x ∈ ((tx cs).cps.toList.foldl (fun out c => out ++ (Builtin.Str.reprChar (reprQuote (tx cs)) c).toArray) #[reprQuote (tx cs)]).toList ++ [reprQuote (tx cs)] := by
    simpa using hx
  rcases List.mem_append.mp hx2 with z | z
  · refine rep_fold _ _ _ (fun y hy => ?_) (fun c hc => ?_) x z
    · have : y = reprQuote (tx cs) := by simpa using hy
      rcases hq with e | e <;> omega
    · rcases hq with e | e
      · rw [e]; exact (rep_signs ⟨c, h c hc⟩).1
      · rw [e]; exact (rep_signs ⟨c, h c hc⟩).2
  · have : x = reprQuote (tx cs) := List.mem_singleton.mp z
    rcases hq with e | e <;> omega
theorem repr_size {cs : List Nat} (h : ∀ c ∈ cs, c < 128) : (reprText (tx cs)).cps.size ≤ 10 * cs.length + 2 := by
  have h1 := StrLaws.reprText_len (tx cs) fun c hc => Nat.lt_trans (h c (by simpa [tx] using hc)) (by decide)
  rw [tx_len] at h1
  exact h1
/-- a word, what repr says of a text, a truth value -/
theorem fit_word {z : Str} {cs : List Nat} {b : Bool} (hz : z.cps.size ≤ 60) (hzc : ∀ c ∈ z.cps.toList, c < 128) (h : ∀ c ∈ cs, c < 128) (hl : cs.length ≤ 60) : Fit 20 1000 5 (.tuple [.str z, .str (reprText (tx cs)), .bool b]) :=
  (FitAll.tup (fitA_one (fit_txt (B := 20) (W := 60) (D := 1) hz hzc) (fitA_one (fit_txt (B := 20) (W := 602) (D := 1) (Nat.le_trans (repr_size h) (by omega)) (repr_low h)) (fitA_one (W := 1) (d := .bool b) ⟨by simp [okD], by simp [PyData.bulk], by simp [PyData.depth]⟩ fitA_none)))).mono (by decide) (by decide) (by decide)
/-! ### free sets -/
/-- no left node of a member is joined with a right node of one -/
def Free (es : List (Nat × Nat)) (ls : List Nat) : Prop := ∀ a ∈ ls, ∀ b ∈ ls, ¬ Cn es (false, a) (true, b)
theorem Free.iff {es fs : List (Nat × Nat)} {ls : List Nat} (h : ∀ e, e ∈ es ↔ e ∈ fs) : Free es ls ↔ Free fs ls :=
  ⟨fun f a ha b hb c => f a ha b hb (c.mono fun e he => (h e).mpr he), fun f a ha b hb c => f a ha b hb (c.mono fun e he => (h e).mp he)⟩
theorem Free.sub {es : List (Nat × Nat)} {ls ms : List Nat} (h : Free es ls) (s : ∀ c ∈ ms, c ∈ ls) : Free es ms := fun a ha b hb => h a (s a ha) b (s b hb)
def bothB (q : Pt) (ls : List Nat) : Bool := (q.1.any fun c => decide (c ∈ ls)) && (q.2.any fun c => decide (c ∈ ls))
def keepsB (qs : List Pt) (ls : List Nat) : Bool := !qs.any fun q => bothB q ls
theorem keeps_free {es : List (Nat × Nat)} {cs ls : List Nat} {qs : List Pt} (h : Parts es cs qs) (hm : ∀ c ∈ ls, c ∈ cs) : keepsB qs ls = true ↔ Free es ls := by
  unfold keepsB
  rw [Bool.not_eq_true', ← Bool.not_eq_true, List.any_eq_true]
  constructor
  · intro n a ha b hb c
    obtain ⟨q, hq, hqa⟩ := h.cov (false, a) (hm a ha)
    obtain ⟨v, _, cm⟩ := h.cmp q hq
    have hqb : At q (true, b) := (cm.all _).mpr (((cm.all _).mp hqa).trans c)
    refine n ⟨q, hq, ?_⟩
    unfold bothB
    rw [Bool.and_eq_true, List.any_eq_true, List.any_eq_true]
    exact ⟨⟨a, hqa, decide_eq_true ha⟩, ⟨b, hqb, decide_eq_true hb⟩⟩
  · rintro f ⟨q, hq, hb⟩
    unfold bothB at hb
    rw [Bool.and_eq_true, List.any_eq_true, List.any_eq_true] at hb
    obtain ⟨⟨a, ha, ha2⟩, ⟨b, hb, hb2⟩⟩ := hb
    obtain ⟨v, _, cm⟩ := h.cmp q hq
    exact f a (of_decide_eq_true ha2) b (of_decide_eq_true hb2) ((((cm.all (false, a)).mp ha).symm).trans ((cm.all (true, b)).mp hb))
end Mo

/-! ### all free sets: made letter by letter, or sifted from all sets -/
namespace Mo
open PySem PySem.Spec PyProof.Rows L2
def setF (keep : List Nat → Bool) (ns : List Nat) : List (List Nat) := ns.foldl (fun F c => F ++ (F.map (· ++ [c])).filter keep) [[]]
theorem setF_snoc (keep : List Nat → Bool) (ns : List Nat) (c : Nat) : setF keep (ns ++ [c]) = setF keep ns ++ ((setF keep ns).map (· ++ [c])).filter keep := by
  unfold setF
  rw [List.foldl_append]
  rfl
theorem setF_len (keep : List Nat → Bool) : ∀ n, ∀ ns : List Nat, ns.length = n → (setF keep ns).length ≤ 2 ^ n
  | 0, ns, h => by
    rw [List.length_eq_zero_iff.mp h]
    exact Nat.le_refl _
  | n + 1, ns, h => by
    rcases List.eq_nil_or_concat ns with e | ⟨m, c, e⟩
    · rw [e] at h
      cases h
    · rw [List.concat_eq_append] at e
      subst e
      rw [List.length_append, List.length_singleton] at h
      have ih := setF_len keep n m (by omega)
      rw [setF_snoc, List.length_append]
      have h2 := List.length_filter_le keep ((setF keep m).map (· ++ [c]))
      rw [List.length_map] at h2
      rw [Nat.pow_succ]
      omega
theorem sub_one {l : List Nat} {c : Nat} (h : l.Sublist [c]) : l = [] ∨ l = [c] := by
  cases h with
  | cons _ h => exact .inl (List.sublist_nil.mp h)
  | cons_cons _ h => exact .inr (by rw [List.sublist_nil.mp h])
theorem sub_snoc {l ns : List Nat} {c : Nat} : l.Sublist (ns ++ [c]) ↔ l.Sublist ns ∨ ∃ m, l = m ++ [c] ∧ m.Sublist ns := by
  rw [List.sublist_append_iff]
  constructor
  · rintro ⟨a, b, rfl, h1, h2⟩
    rcases sub_one h2 with rfl | rfl
    · rw [List.append_nil]
      exact .inl h1
    · exact .inr ⟨a, rfl, h1⟩
  · rintro (h | ⟨m, rfl, h⟩)
    · exact ⟨l, [], (List.append_nil _).symm, h, List.nil_sublist _⟩
    · exact ⟨m, [c], rfl, h, List.Sublist.refl _⟩
theorem setF_mem {keep : List Nat → Bool} (cl : ∀ l c, keep (l ++ [c]) = true → keep l = true) (k0 : keep [] = true) : ∀ n, ∀ ns : List Nat, ns.length = n → ∀ l, l ∈ setF keep ns ↔ l.Sublist ns ∧ keep l = true
  | 0, ns, h, l => by
    rw [List.length_eq_zero_iff.mp h]
    show l ∈ [[]] ↔ _
    rw [List.mem_singleton, List.sublist_nil]
    exact ⟨fun e => by rw [e]; exact ⟨rfl, k0⟩, fun h => h.1⟩
  | n + 1, ns, h, l => by
    rcases List.eq_nil_or_concat ns with e | ⟨m, c, e⟩
    · rw [e] at h
      cases h
    · rw [List.concat_eq_append] at e
      subst e
      rw [List.length_append, List.length_singleton] at h
      have ih := setF_mem cl k0 n m (by omega)
      rw [setF_snoc, List.mem_append, ih, List.mem_filter, List.mem_map, sub_snoc]
      constructor
      · rintro (⟨h1, h2⟩ | ⟨⟨a, ha, rfl⟩, h2⟩)
        · exact ⟨.inl h1, h2⟩
        · exact ⟨.inr ⟨a, rfl, ((ih a).mp ha).1⟩, h2⟩
      · rintro ⟨h1 | ⟨a, rfl, h1⟩, h2⟩
        · exact .inl ⟨h1, h2⟩
        · exact .inr ⟨⟨a, (ih a).mpr ⟨h1, cl _ _ h2⟩, rfl⟩, h2⟩
theorem setF_sub {keep : List Nat → Bool} : ∀ n, ∀ ns : List Nat, ns.length = n → ∀ l ∈ setF keep ns, l.Sublist ns
  | 0, ns, h, l, hl => by
    rw [List.length_eq_zero_iff.mp h] at hl ⊢
    have hl : l ∈ [[]] := hl
    rw [List.mem_singleton.mp hl]
    exact List.Sublist.refl _
  | n + 1, ns, h, l, hl => by
    rcases List.eq_nil_or_concat ns with e | ⟨m, c, e⟩
    · rw [e] at h
      cases h
    · rw [List.concat_eq_append] at e
      subst e
      rw [List.length_append, List.length_singleton] at h
      have ih := setF_sub (keep := keep) n m (by omega)
      rw [setF_snoc, List.mem_append, List.mem_filter, List.mem_map] at hl
      rw [sub_snoc]
      rcases hl with hl | ⟨⟨a, ha, rfl⟩, _⟩
      · exact .inl (ih l hl)
      · exact .inr ⟨a, rfl, ih a ha⟩
theorem setF_nodup {keep : List Nat → Bool} : ∀ n, ∀ ns : List Nat, ns.length = n → ns.Nodup → (setF keep ns).Nodup
  | 0, ns, h, _ => by
    rw [List.length_eq_zero_iff.mp h]
    show [[]].Nodup
    simp
  | n + 1, ns, h, hn => by
    rcases List.eq_nil_or_concat ns with e | ⟨m, c, e⟩
    · rw [e] at h
      cases h
    · rw [List.concat_eq_append] at e
      subst e
      rw [List.length_append, List.length_singleton] at h
      obtain ⟨n1, _, n3⟩ := List.nodup_append.mp hn
      have ih := setF_nodup (keep := keep) n m (by omega) n1
      rw [setF_snoc]
      refine List.nodup_append.mpr ⟨ih, ?_, fun a ha b hb e => ?_⟩
      · refine List.Nodup.sublist List.filter_sublist (List.pairwise_map.mpr (ih.imp fun h e => h (List.append_cancel_right e)))
      · obtain ⟨x, _, rfl⟩ := List.mem_map.mp (List.mem_filter.mp hb).1
        have h1 := (setF_sub n m (by omega) a ha).subset (show c ∈ a by rw [e]; simp)
        exact n3 c h1 c (by simp) rfl
theorem setF_head (keep : List Nat → Bool) : ∀ n, ∀ ns : List Nat, ns.length = n → ∃ R, setF keep ns = [] :: R
  | 0, ns, h => ⟨[], by rw [List.length_eq_zero_iff.mp h]; rfl⟩
  | n + 1, ns, h => by
    rcases List.eq_nil_or_concat ns with e | ⟨m, c, e⟩
    · rw [e] at h
      cases h
    · rw [List.concat_eq_append] at e
      subst e
      rw [List.length_append, List.length_singleton] at h
      obtain ⟨R, hR⟩ := setF_head keep n m (by omega)
      exact ⟨R ++ ((setF keep m).map (· ++ [c])).filter keep, by rw [setF_snoc, hR]; rfl⟩
/-- texts in order -/
def LeT (a b : List Nat) : Prop := sltB (tx b) (tx a) = false
theorem LeT.anti {a b : List Nat} (h : LeT a b) (k : LeT b a) : a = b := (tx_inj (slt_eq h k)).symm
theorem nil_least {a : List Nat} (h : a ≠ []) : sltB (tx []) (tx a) = true := by
  unfold sltB
  refine decide_eq_true ?_
  show [] < a
  cases a with
  | nil => exact absurd rfl h
  | cons x r => exact List.nil_lt_cons x r
theorem asc_sub {l ns : List Nat} (hl : l.Pairwise (· < ·)) (hn : ns.Pairwise (· < ·)) (h : ∀ c ∈ l, c ∈ ns) : l.Sublist ns := by
  have e : l = ns.filter fun c => decide (c ∈ l) := asc_ext _ _ hl (hn.filter _) fun c => by
    rw [List.mem_filter]
    exact ⟨fun hc => ⟨h c hc, decide_eq_true hc⟩, fun hc => of_decide_eq_true hc.2⟩
  rw [e]
  exact List.filter_sublist
/-- all non-empty free sets of these names, in order -/
structure FSets (es : List (Nat × Nat)) (cs : List Nat) (fs : List (List Nat)) : Prop where
  mem : ∀ l, l ∈ fs ↔ l ≠ [] ∧ l.Pairwise (· < ·) ∧ (∀ c ∈ l, c ∈ cs) ∧ Free es l
  nd : fs.Nodup
  ord : fs.Pairwise LeT
theorem FSets.eq {es es' : List (Nat × Nat)} {cs cs' : List Nat} {fs gs : List (List Nat)} (h : FSets es cs fs) (k : FSets es' cs' gs) (e : ∀ e, e ∈ es ↔ e ∈ es') (c : ∀ c, c ∈ cs ↔ c ∈ cs') : fs = gs := by
  refine perm_le_eq (fun _ _ => LeT.anti) (perm_of_nodup h.nd k.nd fun l => ?_) h.ord k.ord
  rw [h.mem, k.mem, Free.iff e]
  exact ⟨fun z => ⟨z.1, z.2.1, fun x hx => (c x).mp (z.2.2.1 x hx), z.2.2.2⟩, fun z => ⟨z.1, z.2.1, fun x hx => (c x).mpr (z.2.2.1 x hx), z.2.2.2⟩⟩
theorem keeps_mono {qs : List Pt} {l m : List Nat} (s : ∀ c ∈ m, c ∈ l) (h : keepsB qs l = true) : keepsB qs m = true := by
  unfold keepsB at h ⊢
  rw [Bool.not_eq_true', ← Bool.not_eq_true, List.any_eq_true] at h ⊢
  rintro ⟨q, hq, hb⟩
  refine h ⟨q, hq, ?_⟩
  unfold bothB at hb ⊢
  rw [Bool.and_eq_true, List.any_eq_true, List.any_eq_true] at hb ⊢
  obtain ⟨⟨a, ha, ha2⟩, ⟨b, hb, hb2⟩⟩ := hb
  exact ⟨⟨a, ha, decide_eq_true (s a (of_decide_eq_true ha2))⟩, ⟨b, hb, decide_eq_true (s b (of_decide_eq_true hb2))⟩⟩
theorem keeps_nil (qs : List Pt) : keepsB qs [] = true := by
  unfold keepsB bothB
  simp
/-- the sets made letter by letter, without the first, in order -/
theorem fsets_made {es : List (Nat × Nat)} {cs ns : List Nat} {qs : List Pt} {R fs : List (List Nat)} (h : Parts es cs qs) (asc : ns.Pairwise (· < ·)) (mem : ∀ c, c ∈ ns ↔ c ∈ cs) (e : setF (keepsB qs) ns = [] :: R) (p : fs.Perm R) (o : fs.Pairwise LeT) : FSets es cs fs := by
  have nd := setF_nodup (keep := keepsB qs) _ ns rfl (asc_nodup asc)
  have mm := setF_mem (keep := keepsB qs) (fun l c hk => keeps_mono (fun x hx => List.mem_append_left _ hx) hk) (keeps_nil qs) _ ns rfl
  rw [e] at nd mm
  have nd2 := List.nodup_cons.mp nd
  refine ⟨fun l => ?_, p.nodup_iff.mpr nd2.2, o⟩
  rw [p.mem_iff]
  constructor
  · intro hl
    obtain ⟨h1, h2⟩ := (mm l).mp (List.mem_cons_of_mem _ hl)
    have sub : ∀ c ∈ l, c ∈ cs := fun c hc => (mem c).mp (h1.subset hc)
    exact ⟨fun z => nd2.1 (z ▸ hl), asc.sublist h1, sub, (keeps_free h sub).mp h2⟩
  · rintro ⟨h1, h2, h3, h4⟩
    have := (mm l).mpr ⟨asc_sub h2 asc fun c hc => (mem c).mpr (h3 c hc), (keeps_free h h3).mpr h4⟩
    exact (List.mem_cons.mp this).resolve_left h1
/-- all sets in order, without the first -/
theorem subs_sorted {ns : List Nat} {zs : List (List Nat)} (asc : ns.Pairwise (· < ·)) (p : zs.Perm (setF (fun _ => true) ns)) (o : zs.Pairwise LeT) : ∃ R, zs = [] :: R ∧ R.Nodup ∧ R.Pairwise LeT ∧ ∀ l, l ∈ R ↔ l ≠ [] ∧ l.Sublist ns := by
  have nd := p.nodup_iff.mpr (setF_nodup (keep := fun _ => true) _ ns rfl (asc_nodup asc))
  have mm := setF_mem (keep := fun _ => true) (fun _ _ _ => rfl) rfl _ ns rfl
  have m0 : [] ∈ zs := p.mem_iff.mpr ((mm []).mpr ⟨List.nil_sublist _, rfl⟩)
  cases zs with
  | nil => cases m0
  | cons a R =>
    have o2 := List.pairwise_cons.mp o
    have e : a = [] := by
      rcases List.mem_cons.mp m0 with z | z
      · exact z.symm
      · by_cases g : a = []
        · exact g
        · have h1 := o2.1 [] z
          unfold LeT at h1
          rw [nil_least g] at h1
          cases h1
    subst e
    have nd2 := List.nodup_cons.mp nd
    refine ⟨R, rfl, nd2.2, o2.2, fun l => ?_⟩
    constructor
    · intro hl
      exact ⟨fun z => nd2.1 (z ▸ hl), ((mm l).mp (p.mem_iff.mp (List.mem_cons_of_mem _ hl))).1⟩
    · rintro ⟨h1, h2⟩
      exact (List.mem_cons.mp (p.mem_iff.mpr ((mm l).mpr ⟨h2, rfl⟩))).resolve_left h1
theorem fsets_sifted {es : List (Nat × Nat)} {cs ns : List Nat} {R fs : List (List Nat)} (asc : ns.Pairwise (· < ·)) (mem : ∀ c, c ∈ ns ↔ c ∈ cs) (nd : R.Nodup) (o : R.Pairwise LeT) (m : ∀ l, l ∈ R ↔ l ≠ [] ∧ l.Sublist ns) {b : List Nat → Bool} (hb : ∀ l ∈ R, (b l = true ↔ Free es l)) (e : fs = R.filter b) : FSets es cs fs := by
  subst e
  refine ⟨fun l => ?_, nd.filter _, o.filter _⟩
  rw [List.mem_filter]
  constructor
  · rintro ⟨h1, h2⟩
    obtain ⟨h3, h4⟩ := (m l).mp h1
    exact ⟨h3, asc.sublist h4, fun c hc => (mem c).mp (h4.subset hc), (hb l h1).mp h2⟩
  · rintro ⟨h1, h2, h3, h4⟩
    have hl := (m l).mpr ⟨h1, asc_sub h2 asc fun c hc => (mem c).mpr (h3 c hc)⟩
    exact ⟨hl, (hb l hl).mpr h4⟩
/-! ### lists of texts sorted -/
theorem tzs_sort {zs : List Str} {ys : List (List Nat)} (p : zs.Perm (ys.map tx)) (o : zs.Pairwise fun x y => sltB y x = false) : ∃ ls : List (List Nat), zs = ls.map tx ∧ ls.Perm ys ∧ ls.Pairwise LeT := by
  obtain ⟨ls, pl, rfl⟩ := perm_of_map p rfl
  exact ⟨ls, rfl, pl, (List.pairwise_map (f := tx)).mp o⟩
theorem sortStr_of {K : PySem.W.Frag} {H : Hp} {l : Addr} {ys : List (List Nat)} {Q : VK} (hl : SqL K H l (tzs ys)) (q : ∀ (ls : List (List Nat)) p, ls.Perm ys → ls.Pairwise LeT → H p = none → Q (.ref p) (upd H p (.lst (tzs ls)))) : rSortStr K [.ref l] H Q :=
  ⟨l, ys.map tx, rfl, by rw [← tzs_strs]; exact hl, fun zs p pm pw np => by
    obtain ⟨ls, rfl, p2, o2⟩ := tzs_sort pm pw
    rw [← tzs_strs]
    exact q ls p p2 o2 np⟩
end Mo

/-! ### rules over K, for use inside comprehensions -/
namespace Mo
open PySem PySem.Spec PyProof.Rows L2
section
variable {X : Cx} {K : PySem.W.Frag}
theorem cr_anyK (h : X.K = K) (hc : X.calm = true) : CallR X (.builtin "any") (rAny K) := by
  subst h
  exact cr_any hc
theorem cr_allK (h : X.K = K) (hc : X.calm = true) : CallR X (.builtin "all") (rAll K) := by
  subst h
  exact cr_all hc
theorem op_eqNilK (h : X.K = K) (hu : X.A.units + 64 < cLine) : OpR X (compareOp .Eq) (rEqNil K) := by
  subst h
  exact op_eqNil hu
theorem op_neNilK (h : X.K = K) (hu : X.A.units + 64 < cLine) : OpR X (compareOp .NotEq) (rNeNil K) := by
  subst h
  exact op_neNil hu
theorem cr_sortStrK (h : X.K = K) : CallR X (.builtin "sorted") (rSortStr K) := by
  subst h
  exact cr_sortStr
end
theorem cutV_from (xs : List V) (n : Nat) : cutV xs (some (n : Int)) none = xs.drop n := by
  unfold cutV
  rw [HT.sIx_none, HT.sIx_nat]
  have e : xs.drop (min n xs.length) = xs.drop n := by
    by_cases h : n ≤ xs.length
    · rw [Nat.min_eq_left h]
    · rw [List.drop_of_length_le (by omega), List.drop_of_length_le (by omega)]
  rw [e, List.take_of_length_le (by rw [List.length_drop]; omega)]
theorem cutV_all (xs : List V) : cutV xs none none = xs := by
  unfold cutV
  rw [HT.sIx_none, HT.sIx_none, List.drop_zero, Nat.sub_zero, List.take_length]
end Mo

/-! ### several 'except x as n: ..', each with its own suite -/
namespace Mo
open PySem PySem.Spec PyProof.Rows L2
/-- a clause: the class, the slot of its name, what its suite does -/
abbrev Cls3 := Value × Nat × (Addr → Value → Option Addr → TS)
/-- what the clauses wish of an error of the body, one after the other -/
def wEach (K : PySem.W.Frag) (Wout : WX) (D : Ends) : List Cls3 → WX
  | [] => Wout
  | (c, i, ts) :: r => fun cls d σ H => ∃ b, PySem.W.exmOne K cls c = some b ∧
      (b = true → ∀ a, H a = none → ts a cls d { nx := fun σ' H' => D.nx (σ'.set i none) H', rt := D.rt, bk := fun σ' H' => D.bk (σ'.set i none) H', ct := fun σ' H' => D.ct (σ'.set i none) H' } (σ.set i (some (.ref a))) H) ∧ (b = false → wEach K Wout D r cls d σ H)
inductive HdsAs (X : Cx) : List ExceptHandler → List Cls3 → Prop
  | nil : HdsAs X [] []
  | cons {x n : Str} {c : Value} {i : Nat} {ts : Addr → Value → Option Addr → TS} {b₀ : Stmt} {rest : List Stmt} {np ep : Pos} {hds : List ExceptHandler} {l : List Cls3} (hc : Names X x c) (hi : X.N[i]? = some n) (hln : X.env.kindOf n = some .local)
      (hsu : ∀ (a : Addr) (oe : Obj) (cls : Value) (d : Option Addr) (pn : List (Addr × Obj)), Zc cls d oe → (∃ vs, oe.data = .fields vs) → PSs (X.suite a ((a, oe) :: pn)) (b₀ :: rest) (ts a cls d)) (r : HdsAs X hds l) : HdsAs X (.ExceptHandler (some (.Name x np)) (some n) (b₀ :: rest) ep :: hds) ((c, i, ts) :: l)
section
variable {X : Cx} {body : List Stmt} {h₀ : ExceptHandler} {hds : List ExceptHandler} {l : List Cls3} {pos : Pos} {tb : WX → TS} {Wout : WX}
theorem ps_try_each (hs : X.stack = X.env :: X.outer) (hf : X.env.frame = some X.env.locals) (hN : X.N.Nodup) (tk : Takes X Wout)
    (hb : ∀ (W : WX) (pn : List (Addr × Obj)) (xe : Value → Shared → Prop), Takes (X.tr pn xe) W → PassesOwn (model X.prog X.w) X.A X.env xe → PSs (X.tr pn xe) body (tb W)) (hh : HdsAs X (h₀ :: hds) l) :
    PS X (.Try body (h₀ :: hds) [] [] pos) (fun D σ H => tb (wEach X.K Wout D l) D σ H) := by
  refine ⟨fun pins s σ H D I h => ?_⟩
  have ok := I.ok
  have hfr : X.A.frames = some (X.env :: X.outer) := ok.frames.trans (by rw [hs])
  refine wpAny_Try_except (wpAny_mono ((hb (wEach X.K Wout D l) (X.pn ++ pins) (fun e s₁ => wpAny (model X.prog X.w) X.A (noteFrame e X.env) (fun _ s₂ => wpAny (model X.prog X.w) X.A (setFlight e none) (fun _ s₃ => wpAny (model X.prog X.w) X.A (handleBy e X.env (h₀ :: hds)) (SP X pins D) X.xe s₃) X.xe s₂) X.xe s₁)
    (fun u s' xx => ?_) PassesOwn.looking).run [] s σ H D (I.toTry _) h) (fun f s1 hsp => ?_) (fun e s1 he => he))
  · obtain ⟨a, B, sI, pins', σ', H', cls, d, rfl, J', nb, up, sky, na, os, ag, w⟩ := xx
    have J : Inv X pins σ' H' sI := J'.ofTry ok
    show wpAny (model X.prog X.w) X.A (noteFrame (.ref a) X.env) _ _ _
    refine Sky.land Zc.steady hfr hf (hs ▸ sky) fun h3 fl3 up3 => ?_
    have J3 : Inv X pins σ' H' { s' with heap := h3 } := J.landed nb fl3.1 (up.trans up3) os ag
    obtain ⟨oe3, vs3, he3, hz3, hd3⟩ := fl3.there
    have nfr : a ∉ frs (X.env :: X.outer) := fun hm => by
      obtain ⟨_, o2, e2, hnf⟩ := fl3.2.2.1.mem hm
      rw [he3] at e2
      cases e2
      exact hnf _ hd3
    have nL : a ≠ X.env.locals := fun z => nfr (List.mem_filterMap.mpr ⟨X.env, List.mem_cons_self, hf.trans (congrArg some z.symm)⟩)
    have nF : a ∉ X.fs := fun hm => (List.mem_filterMap.mp hm).elim fun e z => nfr (List.mem_filterMap.mpr ⟨e, List.mem_cons_of_mem _ z.1, z.2⟩)
    have S3 := J3.suite he3 hd3 na nL nF
    have LT : PySem.W.Looks (model X.prog X.w) h3 (typeOf (.ref a)) cls := fun A Q E s k q => wpAny_typeOf_ref (k _ _ he3) (hz3.1 ▸ q)
    have go : ∀ {hs2 : List ExceptHandler} {l2 : List Cls3}, HdsAs X hs2 l2 → wEach X.K Wout D l2 cls d σ' H' → wpAny (model X.prog X.w) X.A (handleBy (.ref a) X.env hs2) (SP X pins D) X.xe { s' with heap := h3 } := by
      intro hs2 l2 hk
      induction hk with
      | nil =>
        intro w
        refine wpAny_handleBy_nil ?_
        obtain ⟨k1, k2, k3, oe, vs, T, oT, t2, he, hz, hd, h1, hr⟩ := id fl3
        unfold PySem.passOn
        refine wpAny_bind (wpAny_field he hd h1 ?_)
        rw [if_neg (show ¬ ((Value.ref T == Value.none) = true) from by simp)]
        have fin : wpAny (model X.prog X.w) X.A (setFlight (.ref a) X.env.frame) (fun _ s4 => wpAny (model X.prog X.w) X.A (throw (.ref a) : Sem Flow) (SP X pins D) X.xe s4) X.xe { s' with heap := h3 } := by
          rw [hf]
          refine HandSPX.setFlight_upZ fl3 fun h4 hh4 up4 => wpAny_throw (tk _ _ ⟨a, B, sI, pins, σ', H', cls, d, rfl, J, nb, (up.trans up3).trans up4, .inr (.inr (hs ▸ hh4)), na, os, ag, w⟩)
        first
          | exact wpAny_bind (wpAny_pure (wpAny_bind fin))
          | exact wpAny_bind fin
      | @cons x n c i ts b₀ rest np ep hds' l' hc hi hln hsu r ih =>
        rintro ⟨b, hb1, hyes, hno⟩
        refine wpAny_handleBy_cons (codeAny_handlers_test ?_) (by intro q; cases q)
        have test : ∀ {Q : Value → Shared → Prop} {E : Value → Shared → Prop}, Q c { s' with heap := h3 } → wpAny (model X.prog X.w) (X.A.mark (some (.ref a))) (eval (.Name x np) X.env) Q E { s' with heap := h3 } := fun {Q E} q => by
          rcases hc with ⟨hg, hdbg, hm | ⟨hm, hv, hnn⟩⟩
          · exact ld_glob (X := X.suite a ((a, oe3) :: (X.pn ++ pins))) S3 hg hm q hdbg
          · exact ld_blt (X := X.suite a ((a, oe3) :: (X.pn ++ pins))) S3 hg hm hv q hnn hdbg
        refine test ((PySem.W.exm_one (M := model X.prog X.w) J3.kIn LT hb1).here ?_)
        cases b with
        | false => exact ih (hno rfl)
        | true =>
          refine codeAny_handlers_suite_as (HandSPX.lands_againZ fl3 fun h4 fl4 up4 => ?_)
          have J4 : Inv X pins σ' H' { s' with heap := h4 } := J.landed nb fl4.1 ((up.trans up3).trans up4) os ag
          obtain ⟨oe4, vs4, he4, hz4, hd4⟩ := fl4.there
          refine store_ok (X := X.suite a ((a, oe4) :: (X.pn ++ pins))) (v := .ref a) (J4.suite he4 hd4 na nL nF) hN hi (.inl hln) rfl (fun s5 S5 => ?_) (.inr hln)
          refine wpAny_mono ((hsu a oe4 cls d (X.pn ++ pins) hz4 ⟨_, hd4⟩).run [] s5 _ H' _ S5 (hyes rfl a na)) (fun f s6 hsp => ?_) (fun _ _ z => False.elim z)
          cases f with
          | next => exact hsp.elim fun σ6 z => z.elim fun H6 z => gone_ok (z.1.unsuite ok) hN hi hln fun s7 J7 => ⟨_, _, J7, z.2⟩
          | brk => exact hsp.elim fun σ6 z => z.elim fun H6 z => gone_ok (z.1.unsuite ok) hN hi hln fun s7 J7 => ⟨_, _, J7, z.2⟩
          | cont => exact hsp.elim fun σ6 z => z.elim fun H6 z => gone_ok (z.1.unsuite ok) hN hi hln fun s7 J7 => ⟨_, _, J7, z.2⟩
          | ret u => exact hsp.elim fun v z => z.elim fun σ6 z => z.elim fun H6 z => gone_ok (z.1.unsuite ok) hN hi hln fun s7 J7 => ⟨v, _, _, J7, z.2.1, z.2.2⟩
    exact go hh w
  · cases f with
    | next => exact hsp.elim fun σ1 z => z.elim fun H1 z => wpAny_execs_nil ⟨σ1, H1, z.1.ofTry ok, z.2⟩
    | brk => exact hsp.elim fun σ1 z => z.elim fun H1 z => ⟨σ1, H1, z.1.ofTry ok, z.2⟩
    | cont => exact hsp.elim fun σ1 z => z.elim fun H1 z => ⟨σ1, H1, z.1.ofTry ok, z.2⟩
    | ret u => exact hsp.elim fun v z => z.elim fun σ1 z => z.elim fun H1 z => ⟨v, σ1, H1, z.1.ofTry ok, z.2⟩
end
/-! isinstance(e, c) in the suite, e an error with its own dict -/
/-- the error at a, its class at C, its dict at dd -/
def rIsS (K : PySem.W.Frag) (a : Addr) (cls : Value) (d : Option Addr) : List V → Hp → VK → Prop := fun xs H Q => ∃ (C dd : Addr) (fs : List (Str × V)) (c : V) (u : Value) (b : Bool), xs = [.ref a, c] ∧ cls = .ref C ∧ d = some dd ∧ H dd = some (.xd fs) ∧ ExcC K C ∧ ClsV c u ∧ PySem.W.kitOne K (.ref C) u = some b ∧ Q (.bl b) H
theorem cr_isS {X : Cx} {a : Addr} {oe : Obj} {cls : Value} {d : Option Addr} {pn : List (Addr × Obj)} (hz : Zc cls d oe) (hf : ∃ vs, oe.data = .fields vs) : CallR (X.suite a ((a, oe) :: pn)) (.builtin "isinstance") (rIsS X.K a cls d) := by
  intro pins s σ H xs us Q I r h
  obtain ⟨C, dd, fs, c, u, b, rfl, rfl, rfl, hd, T, k, e, q⟩ := h
  obtain ⟨u1, u2, rfl, r1, r2⟩ := vals2 r
  cases r1
  obtain rfl := k.eq r2
  obtain ⟨ha, _⟩ := I.pin (a, oe) (List.mem_append_left _ List.mem_cons_self)
  obtain ⟨vs, hv⟩ := hf
  obtain ⟨mA, hns, hr⟩ := (show ObjOk X.prog X.w H s.heap dd (.xd fs) from I.hok dd _ hd)
  obtain ⟨od, ho, hl⟩ := lookIn_ns hns
  exact PySem.W.kia_one (err_kit T) I.kIn ⟨oe, od, ha, hz.1, by unfold PySem.W.notCls; rw [hv] <;> rfl, by rw [hz.2]; exact ho⟩ e (fun z => nomatch z) fun tk => ⟨.bl b, H, I.tok tk, rfl, q⟩
/-- e.f in the suite -/
def tXs (K : PySem.W.Frag) (a : Addr) (cls : Value) (d : Option Addr) (f : Str) (te : TE) : TE := fun σ H Q => te σ H fun x H1 => ∃ (C dd : Addr) (fs : List (Str × V)) (v : V), x = .ref a ∧ cls = .ref C ∧ d = some dd ∧ H1 dd = some (.xd fs) ∧ XfC K C ∧ PySem.W.findIn K (.ref C) f = some none ∧ fs.lookup f = some v ∧ Q v H1
theorem pe_xs {X : Cx} {a : Addr} {oe : Obj} {cls : Value} {d : Option Addr} {pn : List (Addr × Obj)} {e : Expr} {te : TE} {pos : Pos} {f : Str} (hz : Zc cls d oe) (hf : ∃ vs, oe.data = .fields vs) (he : PE (X.suite a ((a, oe) :: pn)) e te)
    (hb : attributeBase e f X.env (eval e X.env) = eval e X.env := by rfl) : PE (X.suite a ((a, oe) :: pn)) (.Attribute e f pos) (tXs X.K a cls d f te) := by
  refine ⟨fun pins s σ H Q I h => attr_of hb (thn (he.run pins s σ H _ I h) fun u s1 hh => ?_)⟩
  obtain ⟨x, H1, I1, rx, C, dd, fs, v, rfl, rfl, rfl, ea, T, hno, l, q⟩ := hh
  obtain rfl : u = Value.ref a := rx
  obtain ⟨ha, _⟩ := I1.pin (a, oe) (List.mem_append_left _ List.mem_cons_self)
  obtain ⟨vs, hv⟩ := hf
  obtain ⟨mA, hns, hr⟩ := (show ObjOk X.prog X.w H1 s1.heap dd (.xd fs) from I1.hok dd _ ea)
  obtain ⟨od, ho, hl⟩ := lookIn_ns hns
  obtain ⟨u, hu, ru⟩ := RelO.some_of (v := v) (o := mA f) (l ▸ hr f)
  exact HandSPX.exc_get I1.kIn ⟨ha, hz.1, by unfold PySem.W.notCls; rw [hv] <;> rfl, by rw [hz.2]; exact ho⟩ T.ga T.gg T.exC (PySem.W.findObj_own T.hdC hno rfl (by rw [hl, hu])) (handed_of ru) ⟨v, H1, I1.tok _, ru, q⟩
end Mo

/-! ### dicts of anything -/
namespace Mo
open PySem PySem.Spec PyProof.Rows L2
section
variable {X : Cx}
/-- a dict of anything == {} -/
def rEqNilD : R2 := fun x y H Q => ∃ a b ks, x = .ref a ∧ y = .ref b ∧ H a = some (.dK ks) ∧ H b = some (.dK []) ∧ Q (.bl ks.isEmpty) H
theorem op_eqNilD (hu : X.A.units + 64 < cLine) : OpR X (compareOp .Eq) rEqNilD := by
  intro pins s σ H x y v u Q I rx ry h
  obtain ⟨a, b, ks, rfl, rfl, ea, eb, q⟩ := h
  obtain rfl : v = Value.ref a := rx
  obtain rfl : u = Value.ref b := ry
  obtain ⟨_, ya, va, ra, da⟩ := (show ObjOk X.prog X.w H s.heap a (.dK ks) from I.hok a _ ea)
  obtain ⟨_, yb, vb, rb, db⟩ := (show ObjOk X.prog X.w H s.heap b (.dK []) from I.hok b _ eb)
  cases rb
  have ml := ra.length
  refine PySem.W.keq_eq (knd := mixKind X.prog X.w) (r := true) ya yb da db (by omega) (fun hl => ?_) (fin_bl I q ?_)
  · have e : va = [] := List.eq_nil_of_length_eq_zero hl
    subst e
    exact .nil
  · cases ks with
    | nil => simp at ml; simp [← ml]
    | cons k r => simp at ml; simp [← ml]
theorem op_neNilTK {K : PySem.W.Frag} (h : X.K = K) (hu : X.A.units + 64 < cLine) : OpR X (compareOp .NotEq) (rNeNilT K) := by
  subst h
  exact op_neNilT hu
/-- list(a text) -/
theorem cr_lstS (hc : X.calm = true) : CallR X (.type "list") (fun xs H Q => ∃ cs : List Nat, xs = [.str (tx cs)] ∧ cs.length ≤ 100000 ∧ ∀ p, H p = none → Q (.ref p) (upd H p (.lst (cs.map sg)))) := by
  intro pins s σ H xs us Q I r h
  obtain ⟨cs, rfl, hz, q⟩ := h
  obtain ⟨u, rfl, t, rfl⟩ := vals1 r
  refine call_list_str (I.ok.hd hc) (tx cs) t (fun h' tk acc c' hk hS hacc => ?_) (by rw [tx_size]; exact fits5 hz)
  have I2 := I.laid (t' := tk) (o := .lst (cs.map sg)) (h' := h') (a := s.heap.objs.size) hk (Nat.le_refl _) ⟨by rw [List.length_map]; exact fits5 hz, acc.toList, c', vals_signs cs acc.toList (by have := hacc.1; rw [tx_size] at this; simpa using this) (fun j v e => by
    obtain ⟨c, u, e1, e2⟩ := hacc.2 j v (by simpa using e)
    exact ⟨c, u, tx_get.symm.trans e1, e2⟩), by simpa using hS⟩
  exact ⟨.ref s.heap.objs.size, _, I2, rfl, q _ (I.hok.fresh (Nat.le_refl _))⟩
theorem pi_tupK {K : PySem.W.Frag} {tg l : Expr} {tl : TE} (h : X.K = K) (hl : PE X l tl) : PI X tg l (iTup K tl) := by
  subst h
  exact pi_tup hl
/-- the turns of a walk, whatever is done in one -/
theorem turns_it {J : It} {n : Nat} {G : Hp → Prop} {Y : Nat → Hp → V → Hp → Prop} (w : Walk J n G Y) {S : V → Hp → (Hp → Prop) → Prop} {H0 : Hp} {Qd : Hp → Prop} (Pv : Nat → Hp → Prop) (h0 : Pv 0 H0) (hG : ∀ i H, i ≤ n → Pv i H → G H)
    (hs : ∀ i x H H', i < n → Pv i H → Y i H x H' → S x H' (Pv (i + 1))) (hd : ∀ H, Pv n H → Qd H) :
    ∃ W : Nat → Nat → Hp → Prop, (∃ m, W 0 m H0) ∧ ∀ i m H, W i m H → (J.stop i H ∧ Qd H) ∨ (J.go i H ∧ ∃ Nx : Hp → Prop, (∀ H', Nx H' → ∃ m', m' < m ∧ W (i + 1) m' H') ∧ ∀ x H', J.yld i H x H' → S x H' Nx) := by
  refine ⟨fun i m H => m = n - i ∧ i ≤ n ∧ Pv i H, ⟨n, by simp, Nat.zero_le _, h0⟩, fun i m H z => ?_⟩
  obtain ⟨rfl, hi, p⟩ := z
  have g := hG i H hi p
  rcases Nat.lt_or_ge i n with lt | ge
  · exact .inr ⟨w.goes i H lt g, Pv (i + 1), fun H' p' => ⟨n - (i + 1), by omega, rfl, lt, p'⟩, fun x H' y => hs i x H H' lt p (w.yields i H x H' lt g y)⟩
  · obtain rfl : i = n := Nat.le_antisymm hi ge
    exact .inl ⟨w.stops H g, hd H p⟩
end
end Mo

/-! ### patterns that deletions of free sets lead to, in the order in which they are met -/
namespace Mo
open PySem PySem.Spec PyProof.Rows L2
/-- the pattern without some letters -/
def wo (cs ls : List Nat) : List Nat := cs.filter fun c => !decide (c ∈ ls)
theorem mem_wo {cs ls : List Nat} {c : Nat} : c ∈ wo cs ls ↔ c ∈ cs ∧ c ∉ ls := by
  unfold wo
  rw [List.mem_filter]
  simp
theorem wo_nil (cs : List Nat) : wo cs [] = cs := by
  unfold wo
  simp
theorem wo_len (cs ls : List Nat) : (wo cs ls).length ≤ cs.length := List.length_filter_le ..
theorem wo_pat {cs ls : List Nat} (p : Pat cs) : Pat (wo cs ls) :=
  ⟨Nat.le_trans (wo_len _ _) p.len, fun x hx => p.low x (mem_wo.mp hx).1, Nat.le_trans (nd_sub _ (met cs) (met_nodup _) fun x hx => mem_met.mpr (mem_wo.mp (mem_met.mp hx)).1) p.few⟩
theorem wo_wo (cs a b : List Nat) : wo (wo cs a) b = wo cs (a ++ b) := by
  unfold wo
  rw [List.filter_filter]
  refine List.filter_congr fun c _ => ?_
  rw [Bool.eq_iff_iff]
  simp
  exact And.comm
noncomputable def Fs (cs : List Nat) : List (List Nat) := Classical.epsilon (FSets (nbr cs) cs)
theorem Fs_eq {cs : List Nat} {fs : List (List Nat)} (h : FSets (nbr cs) cs fs) : Fs cs = fs :=
  (Classical.epsilon_spec (p := FSets (nbr cs) cs) ⟨fs, h⟩).eq h (fun _ => Iff.rfl) fun _ => Iff.rfl
theorem Fs_of {cs : List Nat} {fs : List (List Nat)} (h : FSets (nbr cs) cs fs) : FSets (nbr cs) cs (Fs cs) := by
  rw [Fs_eq h]
  exact h
/-- steps that lead from one pattern to another -/
inductive Steps (c : List Nat) : List (List Nat) → List Nat → Prop
  | nil : Steps c [] c
  | snoc {w : List (List Nat)} {p ls : List Nat} : Steps c w p → ls ≠ [] → ls.Pairwise (· < ·) → (∀ x ∈ ls, x ∈ p) → Free (nbr p) ls → Steps c (w ++ [ls]) (wo p ls)
theorem Steps.gone {c p : List Nat} {w : List (List Nat)} (h : Steps c w p) : p = wo c w.flatten := by
  induction h with
  | nil => exact (wo_nil c).symm
  | snoc _ _ _ _ _ ih =>
    rw [List.flatten_append, List.flatten_cons, List.flatten_nil, List.append_nil, ← wo_wo, ← ih]
theorem Steps.sub {c p : List Nat} {w : List (List Nat)} (h : Steps c w p) : ∀ ls ∈ w, ls ≠ [] ∧ ls.Pairwise (· < ·) ∧ ∀ x ∈ ls, x ∈ c := by
  induction h with
  | nil => exact fun _ h => absurd h (by simp)
  | @snoc w p ls hw h1 h2 h3 _ ih =>
    intro l hl
    rcases List.mem_append.mp hl with z | z
    · exact ih l z
    · rw [List.mem_singleton.mp z]
      refine ⟨h1, h2, fun x hx => ?_⟩
      have := h3 x hx
      rw [hw.gone] at this
      exact (mem_wo.mp this).1
theorem Steps.flat {c p : List Nat} {w : List (List Nat)} (h : Steps c w p) : w.flatten.Nodup := by
  induction h with
  | nil => exact List.nodup_nil
  | @snoc w p ls hw h1 h2 h3 _ ih =>
    rw [List.flatten_append, List.flatten_cons, List.flatten_nil, List.append_nil]
    refine List.nodup_append.mpr ⟨ih, asc_nodup h2, fun a ha b hb e => ?_⟩
    subst e
    have := h3 a hb
    rw [hw.gone] at this
    exact (mem_wo.mp this).2 ha
theorem flat_ge : ∀ {w : List (List Nat)}, (∀ l ∈ w, l ≠ []) → w.length ≤ w.flatten.length
  | [], _ => Nat.le_refl _
  | l :: w, h => by
    rw [List.length_cons, List.flatten_cons, List.length_append]
    have := flat_ge fun x hx => h x (List.mem_cons_of_mem l hx)
    have := List.length_pos_iff.mpr (h l List.mem_cons_self)
    omega
theorem Steps.len {c p : List Nat} {w : List (List Nat)} (h : Steps c w p) : w.length ≤ (met c).length := by
  refine Nat.le_trans (flat_ge fun l hl => (h.sub l hl).1) (nd_sub _ _ h.flat fun x hx => ?_)
  obtain ⟨l, hl, hx⟩ := List.mem_flatten.mp hx
  exact mem_met.mpr ((h.sub l hl).2.2 x hx)
abbrev Wz := List (List Nat × List (List Nat))
def keysZ (Z : Wz) : List (List Nat) := Z.map (·.1)
def growZ (here : List Nat) (way : List (List Nat)) (Z : Wz) (ls : List Nat) : Wz := if wo here ls ∈ keysZ Z then Z else Z ++ [(wo here ls, way ++ [ls])]
noncomputable def stepZ (Z : Wz) (i : Nat) : Wz := match Z[i]? with
  | some z => (Fs z.1).foldl (growZ z.1 z.2) Z
  | none => Z
noncomputable def runZ (c : List Nat) : Nat → Wz
  | 0 => [(c, [])]
  | n + 1 => stepZ (runZ c n) n
theorem runZ_stop {c : List Nat} {n : Nat} (h : (runZ c n).length ≤ n) : ∀ k, runZ c (n + k) = runZ c n
  | 0 => rfl
  | k + 1 => by
    show stepZ (runZ c (n + k)) (n + k) = _
    rw [runZ_stop h k]
    unfold stepZ
    rw [List.getElem?_eq_none (by omega)]
theorem runZ_eq {c : List Nat} {n m : Nat} (h : (runZ c n).length ≤ n) (k : (runZ c m).length ≤ m) : runZ c n = runZ c m := by
  by_cases e : n ≤ m
  · rw [← runZ_stop h (m - n), show n + (m - n) = m by omega]
  · rw [← runZ_stop k (n - m), show m + (n - m) = n by omega]
theorem grow_keys {here : List Nat} {way : List (List Nat)} {Z : Wz} {ls : List Nat} : ∀ p, p ∈ keysZ Z → p ∈ keysZ (growZ here way Z ls) := fun p hp => by
  unfold growZ
  split
  · exact hp
  · unfold keysZ at *
    rw [List.map_append]
    exact List.mem_append_left _ hp
theorem grow_new {here : List Nat} {way : List (List Nat)} {Z : Wz} {ls : List Nat} : wo here ls ∈ keysZ (growZ here way Z ls) := by
  unfold growZ
  split
  · assumption
  · unfold keysZ
    rw [List.map_append]
    exact List.mem_append_right _ (by simp)
/-- as far as the search has come: i patterns are done, and j free sets of the next one -/
structure Way (c : List Nat) (Z : Wz) (i : Nat) : Prop where
  nd : (keysZ Z).Nodup
  ok : ∀ z ∈ Z, Steps c z.2 z.1
  dn : ∀ k z, k < i → Z[k]? = some z → FSets (nbr z.1) z.1 (Fs z.1) ∧ ∀ ls ∈ Fs z.1, wo z.1 ls ∈ keysZ Z
  st : Z[0]? = some (c, [])
theorem Way.one {c : List Nat} : Way c [(c, [])] 0 := ⟨by simp [keysZ], fun z hz => by rw [List.mem_singleton.mp hz]; exact .nil, fun k z h => absurd h (Nat.not_lt_zero _), rfl⟩
theorem Way.grow {c here : List Nat} {way : List (List Nat)} {Z : Wz} {i : Nat} {ls : List Nat} (h : Way c Z i) (hz : (here, way) ∈ Z) (h1 : ls ≠ []) (h2 : ls.Pairwise (· < ·)) (h3 : ∀ x ∈ ls, x ∈ here) (h4 : Free (nbr here) ls) (hi : i ≤ Z.length) : Way c (growZ here way Z ls) i := by
  by_cases g : wo here ls ∈ keysZ Z
  · rw [show growZ here way Z ls = Z from if_pos g]
    exact h
  · have e : growZ here way Z ls = Z ++ [(wo here ls, way ++ [ls])] := if_neg g
    refine ⟨?_, fun z hz2 => ?_, fun k z hk hz2 => ?_, ?_⟩
    · rw [e]
      unfold keysZ
      rw [List.map_append]
      refine List.nodup_append.mpr ⟨h.nd, by simp, fun a ha b hb e => ?_⟩
      rw [List.map_singleton, List.mem_singleton] at hb
      rw [e, hb] at ha
      exact g ha
    · rw [e] at hz2
      rcases List.mem_append.mp hz2 with y | y
      · exact h.ok z y
      · rw [List.mem_singleton.mp y]
        exact .snoc (h.ok _ hz) h1 h2 h3 h4
    · rw [e, List.getElem?_append_left (by omega)] at hz2
      obtain ⟨a, b⟩ := h.dn k z hk hz2
      exact ⟨a, fun ls hl => grow_keys _ (b ls hl)⟩
    · rw [e, List.getElem?_append_left]
      · exact h.st
      · exact (List.getElem?_eq_some_iff.mp h.st).1
/-- how many there can be -/
theorem Way.few {c : List Nat} {Z : Wz} {i : Nat} (h : Way c Z i) (p : Pat c) : Z.length ≤ 256 := by
  -- the letters that are left determine the pattern
  have asc : ∀ ns : List Nat, ∃ ms : List Nat, ms.Pairwise (· < ·) ∧ ∀ x, x ∈ ms ↔ x ∈ ns := fun ns => by
    induction ns with
    | nil => exact ⟨[], .nil, fun _ => Iff.rfl⟩
    | cons a ns ih =>
      obtain ⟨ms, h1, h2⟩ := ih
      refine ⟨(ms.filter fun x => decide (x < a)) ++ [a] ++ ms.filter fun x => decide (a < x), ?_, fun x => ?_⟩
      · refine List.pairwise_append.mpr ⟨List.pairwise_append.mpr ⟨h1.filter _, by simp, fun x hx y hy => ?_⟩, h1.filter _, fun x hx y hy => ?_⟩
        · rw [List.mem_singleton.mp hy]
          exact of_decide_eq_true (List.mem_filter.mp hx).2
        · have hy2 := of_decide_eq_true (List.mem_filter.mp hy).2
          rcases List.mem_append.mp hx with z | z
          · exact Nat.lt_trans (of_decide_eq_true (List.mem_filter.mp z).2) hy2
          · rw [List.mem_singleton.mp z]
            exact hy2
      · rw [List.mem_append, List.mem_append, List.mem_filter, List.mem_filter, List.mem_singleton, List.mem_cons, ← h2]
        simp only [decide_eq_true_eq]
        constructor
        · rintro ((⟨z, _⟩ | z) | ⟨z, _⟩)
          · exact .inr z
          · exact .inl z
          · exact .inr z
        · rintro (z | z)
          · exact .inl (.inr z)
          · rcases Nat.lt_trichotomy x a with l | l | l
            · exact .inl (.inl ⟨z, l⟩)
            · exact .inl (.inr l)
            · exact .inr ⟨z, l⟩
  obtain ⟨ns, n1, n2⟩ := asc c
  have nlen : ns.length ≤ 8 := Nat.le_trans (nd_sub ns (met c) (asc_nodup n1) fun x hx => mem_met.mpr ((n2 x).mp hx)) p.few
  have back : ∀ q ∈ keysZ Z, q = c.filter fun x => decide (x ∈ q) := fun q hq => by
    obtain ⟨z, hz, rfl⟩ := List.mem_map.mp hq
    have e := (h.ok z hz).gone
    have e2 : ∀ x ∈ c, (x ∈ z.1 ↔ x ∉ z.2.flatten) := fun x hx => by
      rw [e, mem_wo]
      exact ⟨fun y => (mem_wo.mp (by rw [← e]; rw [e]; exact mem_wo.mpr y)).2, fun y => ⟨hx, y⟩⟩
    refine e.trans ?_
    unfold wo
    refine List.filter_congr fun x hx => ?_
    rw [Bool.eq_iff_iff]
    simp only [Bool.not_eq_true', decide_eq_false_iff_not, decide_eq_true_eq]
    exact (e2 x hx).symm
  have key := nd_sub ((keysZ Z).map fun q => ns.filter fun x => decide (x ∈ q)) (setF (fun _ => true) ns) ?_ ?_
  · rw [List.length_map] at key
    have l1 : (keysZ Z).length = Z.length := List.length_map ..
    have l2 := setF_len (fun _ => true) _ ns rfl
    have l3 : 2 ^ ns.length ≤ 2 ^ 8 := Nat.pow_le_pow_right (by decide) nlen
    omega
  · refine List.pairwise_map.mpr (List.Pairwise.imp_of_mem (fun {a b} ha hb hab e => hab ?_) h.nd)
    rw [back a ha, back b hb]
    refine List.filter_congr fun x hx => ?_
    have hx2 := (n2 x).mpr hx
    have : x ∈ (ns.filter fun x => decide (x ∈ a)) ↔ x ∈ (ns.filter fun x => decide (x ∈ b)) := by rw [e]
    rw [List.mem_filter, List.mem_filter, decide_eq_true_eq, decide_eq_true_eq] at this
    exact decide_eq_decide.mpr ⟨fun z => (this.mp ⟨hx2, z⟩).2, fun z => (this.mpr ⟨hx2, z⟩).2⟩
  · intro l hl
    obtain ⟨q, _, rfl⟩ := List.mem_map.mp hl
    exact (setF_mem (keep := fun _ => true) (fun _ _ _ => rfl) rfl _ ns rfl _).mpr ⟨List.filter_sublist, rfl⟩
theorem stuck_two {c : Nat} {p : List Nat} {w : List (List Nat)} (h : Steps [c, c] w p) : p = [c, c] := by
  induction h with
  | nil => rfl
  | @snoc w p ls hw h1 h2 h3 h4 ih =>
    subst ih
    exfalso
    cases ls with
    | nil => exact h1 rfl
    | cons x r =>
      obtain rfl : x = c := by
        have := h3 x List.mem_cons_self
        simpa using this
      exact h4 x List.mem_cons_self x List.mem_cons_self (.l2r (.refl _) (by simp [nbr]))
theorem first_way {cs : List Nat} {Z : Wz} {k : Nat} {st : List (List Nat)} (h : Way cs Z Z.length) (hz : Z[k]? = some (cs, st)) : st = [] := by
  have h0 := h.st
  have e : k = 0 := by
    have nd := h.nd
    have a1 : (keysZ Z)[k]? = some cs := by
      unfold keysZ
      rw [List.getElem?_map, hz]
      rfl
    have a2 : (keysZ Z)[0]? = some cs := by
      unfold keysZ
      rw [List.getElem?_map, h0]
      rfl
    exact (List.getElem?_inj (List.getElem?_eq_some_iff.mp a1).1 nd).mp (a1.trans a2.symm)
  subst e
  rw [h0] at hz
  exact (Prod.mk.inj (Option.some.inj hz)).2.symm
/-! ### dicts whose keys are patterns -/
theorem room1 {k : Nat} {A : Around} (r : Room k A) : A.units + 1 < cLine := by have := r.un; omega
def dk (D : List (List Nat × V)) : List (Key × V) := D.map fun z => (Sum.inr (tx z.1), z.2)
theorem dget_t {H : Hp} {a : Addr} {kvs : List (Key × V)} {p : List Nat} (e : H a = some (.dK kvs)) : DGet H a (.str (tx p)) (valV kvs (Sum.inr (tx p))) := DGet.k (k := Sum.inr (tx p)) e
theorem dk_len (D : List (List Nat × V)) : (dk D).length = D.length := List.length_map ..
theorem key_ne {p q : List Nat} (h : p ≠ q) : ¬ ((Sum.inr (tx p) : Key) = Sum.inr (tx q)) := fun e => h (tx_inj (Sum.inr.inj e))
theorem dk_none : ∀ {D : List (List Nat × V)} {p : List Nat}, p ∉ D.map (·.1) → valV (dk D) (Sum.inr (tx p)) = none
  | [], _, _ => rfl
  | (q, v) :: D, p, h => by
    have n : q ≠ p := fun e => h (by simp [e])
    show valV ((Sum.inr (tx q), v) :: dk D) _ = none
    rw [valV_neg (key_ne n)]
    exact dk_none fun z => h (by simp [z])
theorem dk_some : ∀ {D : List (List Nat × V)} {p : List Nat} {v : V} {k : Nat}, (D.map (·.1)).Nodup → D[k]? = some (p, v) → valV (dk D) (Sum.inr (tx p)) = some v
  | [], _, _, _, _, h => by simp at h
  | (q, u) :: D, p, v, 0, _, h => by
    have h : (q, u) = (p, v) := by simpa using h
    obtain ⟨rfl, rfl⟩ := Prod.mk.inj h
    exact valV_pos rfl
  | (q, u) :: D, p, v, k + 1, nd, h => by
    have h : D[k]? = some (p, v) := by simpa using h
    have nd2 := List.nodup_cons.mp nd
    have n : q ≠ p := fun e => nd2.1 (e ▸ List.mem_map.mpr ⟨(p, v), List.mem_of_getElem? h, rfl⟩)
    show valV ((Sum.inr (tx q), u) :: dk D) _ = _
    rw [valV_neg (key_ne n)]
    exact dk_some nd2.2 h
theorem dk_put {D : List (List Nat × V)} {p : List Nat} {v : V} (h : p ∉ D.map (·.1)) : putK (dk D) (Sum.inr (tx p)) v = dk (D ++ [(p, v)]) := by
  have e : ((dk D).any fun q => decide (q.1 = (Sum.inr (tx p) : Key))) = false := by
    rw [List.any_eq_false]
    intro q hq
    obtain ⟨z, hz, rfl⟩ := List.mem_map.mp hq
    have n : z.1 ≠ p := fun e => h (e ▸ List.mem_map.mpr ⟨z, hz, rfl⟩)
    simpa using key_ne n
  unfold putK
  rw [e, if_neg Bool.false_ne_true]
  unfold dk
  rw [List.map_append]
  rfl
end Mo

namespace Mo
open PySem PySem.Spec PyProof.Rows L2
section
variable {P : Program} {w : World} {K : PySem.W.Frag} {mg : Str → Option Value} {base : Heap}
def spVars : Sp := fun vs H Q _ => ∃ cs : List Nat, vs = [.str (tx cs)] ∧ Pat cs ∧ ∀ H', Same H H' → Q (.str (tx (met cs))) H'
theorem ok_vars {k : Nat} (T : Txt K mg) : FnOk P w K mg base CX0 (k + 3) T.aVariables T.dVariables ["pattern"] spVars := by
  have GCheckPattern : FnOk P w K mg base CX0 (k + 2) T.aCheckPattern T.dCheckPattern ["value"] spCheck := ok_check T
  refine T.fVariables.ok scVariables (fun vs H Q E h => ?_) (fun cdv A outer s H vs Q E hr h => ?_)
  · obtain ⟨cs, rfl, _⟩ := h
    rfl
  · obtain ⟨cs, rfl, pat, q⟩ := h
    refine ⟨_, (pss_cons (ps_expr (pe_call GCheckPattern hr (by rfl) T.gCheckPattern T.fCheckPattern.kp T.bCheckPattern .nil pass0 (pa_cons (pv 0) pa_nil)))
      (pss_one (ps_ret (pe_join pe_str (pe_lc (own := [("at", 1), ("name", 2)]) (g := gTup K 2 (gCons (gName 1) (gCons (gName 2) gNil))) rfl scVariables.nd (Mo.pi_enumS (by rfl) T.m_enumerate (pa_cons (pv 0) pa_nil)) (blkOk_by (N := ["pattern", "at", "name"]) (sc := defScope sVariables) (by decide +kernel)) (fun _ _ _ _ _ => Mo.pg_tupK (K := K) rfl rfl (pgs_cons (pg_name (i := 1) scVariables.nd rfl (Or.inl rfl)) (pgs_cons (pg_name (i := 2) scVariables.nd rfl (Or.inl rfl)) pgs_nil))) (fun _ _ _ _ _ => pts_one (pt_cmpR op_notIn_sign (pv 2) (pe_slice sl_str (pv 0) po_none (po_some (pv 1))) rfl)) (fun _ _ _ _ _ => (pv 2))))))), ?_⟩
    have hlen := pat.len
    refine ⟨_, rfl, cs, rfl, pat, fun H1 s1 => ?_⟩
    refine ⟨⟨_, rfl⟩, _, rfl, tx cs, rfl, fun D nD => lc_it walk_enumS (fun i H' => Same H1 H' ∧ H' D = some (.lst ((met (cs.take i)).map sg))) ?_ ?_ ?_ ?_⟩
    · exact ⟨same_new nD, upd_same⟩
    · exact fun _ _ _ _ => trivial
    · rintro i x H2 H3 hi ⟨s2, hD⟩ ⟨tp, a, b, rfl, ntp, rfl, ha, hb⟩
      obtain rfl : V.int (i : Nat) = a := Option.some.inj ha
      obtain ⟨c, hc, rfl⟩ : ∃ c, cs[i]? = some c ∧ sg c = b := by
        have hb2 : Option.map (fun c => sg c) ((tx cs).cps[i]?) = some b := hb
        rw [tx_get] at hb2
        cases e : cs[i]? with
        | none => rw [e] at hb2; cases hb2
        | some c => rw [e] at hb2; exact ⟨c, rfl, Option.some.inj hb2⟩
      have s3 := same_new (o := .tup [.int (i : Nat), sg c]) ntp
      refine ⟨tp, _, rfl, SqT.of upd_same, rfl, _, _, rfl, _, _, rfl, rfl, rfl, ?_⟩
      have hlt : i < cs.length := (List.getElem?_eq_some_iff.mp hc).1
      have ntD : D ≠ tp := ne_of_none hD ntp
      refine ⟨_, rfl, _, rfl, _, rfl, _, rfl, tx cs, rfl, fits5 (by rw [tx_len]; omega), c, _, rfl, rfl, _, rfl, ?_⟩
      rw [cut_tx, HT.sIx_nat, HT.sIx_none, tx_list, List.drop_zero, Nat.sub_zero, Nat.min_eq_left (Nat.le_of_lt hlt)]
      have hm := met_length_le (cs.take i)
      rw [List.length_take] at hm
      refine ite2 (fun e => ?_) (fun e => ?_)
      · have nc : c ∉ cs.take i := by simpa using e
        refine ⟨_, rfl, _, (by rw [upd_ne ntD]; exact hD), fitsLt (by rw [List.length_map]; omega), Same.put (s2.trans s3) nD, ?_⟩
        rw [upd_same, met_take_snoc hc, metStep, if_neg (fun z => nc (mem_met.mp z)), List.map_append]
        rfl
      · have nc : c ∈ cs.take i := by simpa using e
        refine ⟨s2.trans s3, ?_⟩
        rw [upd_ne ntD, hD, met_take_snoc hc, metStep, if_pos (mem_met.mpr nc)]
    · rintro H2 ⟨s2, hD⟩
      rw [List.take_of_length_le (by rw [tx_size]; exact Nat.le_refl _)] at hD
      have hm := met_length_le cs
      refine ⟨_, D, (met cs).map fun c => (⟨#[c]⟩ : Str), rfl, rfl, .inl (SqL.of (by rw [← signs_map]; exact hD)), signs_room (by omega), ?_⟩
      rw [join_signs]
      exact q H2 (s1.trans s2)
/-! ### values of a pattern -/
abbrev kS (c : Nat) : Key := .inr ⟨#[c]⟩
def emptyT : PyData → Bool
  | .tuple [] => true
  | _ => false
def okVal (d : PyData) : Bool := textD d && !emptyT d
def lookK : List (Key × V) → List PyData → Key → Option PyData
  | (k, _) :: r, d :: ds, q => if k = q then some d else lookK r ds q
  | _, _, _ => none
def hasVal (kvs : List (Key × V)) (ds : List PyData) (c : Nat) : Bool := match lookK kvs ds (kS c) with
  | some d => okVal d
  | none => false
def areB (cs : List Nat) (kvs : List (Key × V)) (ds : List PyData) : Bool := decide (kvs.length = (met cs).length) && (met cs).all (hasVal kvs ds)
theorem look_val {N : Addr → Prop} {H : Hp} {q : Key} : ∀ {kvs : List (Key × V)} {ds : List PyData}, DxAll N H (kvs.map (·.2)) ds → (valV kvs q = none ∧ lookK kvs ds q = none) ∨ ∃ v d, valV kvs q = some v ∧ lookK kvs ds q = some d ∧ Dx N H v d ∧ d ∈ ds
  | [], [], _ => .inl ⟨rfl, rfl⟩
  | [], _ :: _, h => by cases h
  | _ :: _, [], h => by cases h
  | (k, v) :: r, d :: ds, h => by
    cases h with
    | cons h t =>
      by_cases e : k = q
      · exact .inr ⟨v, d, valV_pos e, by simp [lookK, e], h, List.mem_cons_self⟩
      · rcases look_val (q := q) t with ⟨h1, h2⟩ | ⟨v', d', h1, h2, h3, h4⟩
        · exact .inl ⟨by rw [valV_neg e]; exact h1, by simp only [lookK, if_neg e]; exact h2⟩
        · exact .inr ⟨v', d', by rw [valV_neg e]; exact h1, by simp only [lookK, if_neg e]; exact h2, h3, List.mem_cons_of_mem _ h4⟩
theorem kit_dict : ∀ d : PyData, kitB (tyD d) "dict" = some (isDictD d)
  | .none => by show kitB "NoneType" "dict" = some false; decide +kernel
  | .bool _ => by show kitB "bool" "dict" = some false; decide +kernel
  | .int _ => by show kitB "int" "dict" = some false; decide +kernel
  | .str _ => by show kitB "str" "dict" = some false; decide +kernel
  | .list _ => by show kitB "list" "dict" = some false; decide +kernel
  | .tuple _ => by show kitB "tuple" "dict" = some false; decide +kernel
  | .dict _ => by show kitB "dict" "dict" = some true; decide +kernel
def spAre : Sp := fun vs H Q _ => ∃ (cs : List Nat) (x : V) (N : Addr → Prop), vs = [.str (tx cs), x] ∧ Pat cs ∧
  ((∃ (a : Addr) (kvs : List (Key × V)) (ds : List PyData), x = .ref a ∧ H a = some (.dK kvs) ∧ DxAll N H (kvs.map (·.2)) ds ∧ (∀ d ∈ ds, d.bulk ≤ 1000000) ∧ ∀ H', Same H H' → Q (.bl (areB cs kvs ds)) H') ∨
    (∃ d, Dx N H x d ∧ isDictD d = false ∧ ∀ H', Same H H' → Q (.bl false) H'))
theorem text_tup : ∀ {d : PyData}, textD d = true → isTupD d = true := by
  intro d h
  cases e : isTupD d with
  | true => rfl
  | false => rw [notTup e] at h; cases h
end
end Mo

namespace Mo
open PySem PySem.Spec PyProof.Rows L2
section
variable {P : Program} {w : World} {K : PySem.W.Frag} {mg : Str → Option Value} {base : Heap}
def spNormal : Sp := fun vs H Q _ => ∃ cs : List Nat, vs = [.str (tx cs)] ∧ Pat cs ∧ ∀ H', Same H H' → Q (.str (tx (nf cs))) H'
theorem ok_normal {k : Nat} (T : Txt K mg) : FnOk P w K mg base CX0 (k + 4) T.aNormal T.dNormal ["pattern"] spNormal := by
  have GVariables : FnOk P w K mg base CX0 (k + 3) T.aVariables T.dVariables ["pattern"] spVars := ok_vars T
  refine T.fNormal.ok scNormal (fun vs H Q E h => ?_) (fun cdv A outer s H vs Q E hr h => ?_)
  · obtain ⟨cs, rfl, _⟩ := h
    rfl
  · obtain ⟨cs, rfl, pat, q⟩ := h
    refine ⟨_, (pss_cons (ps_set (i := 1) scNormal.nd rfl (Or.inr rfl) (pe_call GVariables hr (by rfl) T.gVariables T.fVariables.kp T.bVariables .nil pass0 (pa_cons (pv 0) pa_nil)))
      (pss_one (ps_ret (pe_join pe_str (pe_lc (own := [("name", 2)]) (g := gName 2) (tt := tYes) rfl scNormal.nd (pi_str (pv 0)) (blkOk_by (N := ["pattern", "names", "name"]) (sc := defScope sNormal) (by decide +kernel)) (fun _ _ _ _ _ => pg_name (i := 2) scNormal.nd rfl (Or.inl rfl)) (fun _ _ _ _ _ => pts_nil) (fun _ _ _ _ _ => (pe_ix ix_str (pe_glob (v := .str "abcdefghijklmnopqrstuvwxyz") rfl T.m_VARIABLES ⟨_, rfl⟩) (pe_m1 PySem.F.slot_str_index PySem.F.type_str_index mt_sindex (pv 1) (pv 2)) (fun _ _ => rfl)))))))), ?_⟩
    have hlen := pat.len
    refine ⟨_, rfl, cs, rfl, pat, fun H1 s1 => ?_⟩
    refine ⟨⟨_, rfl⟩, _, rfl, tx cs, rfl, fun D nD => lc_it walk_str (fun i H' => Same H1 H' ∧ H' D = some (.lst ((cs.take i).map fun c => sg (nfc cs c)))) ?_ ?_ ?_ ?_⟩
    · exact ⟨same_new nD, upd_same⟩
    · exact fun _ _ _ _ => trivial
    · rintro i x H2 H3 hi ⟨s2, hD⟩ ⟨rfl, c, hc, rfl⟩
      rw [tx_get] at hc
      have hlt : i < cs.length := (List.getElem?_eq_some_iff.mp hc).1
      have hmem : c ∈ cs := List.mem_of_getElem? hc
      obtain ⟨rest, hocc⟩ := index_one (met_nodup cs) (mem_met.mpr hmem)
      have h1 := nfc_lt hmem
      have h2 := pat.few
      refine ⟨rfl, _, rfl, ⟨_, rfl⟩, _, rfl, _, _, _, _, rfl, rfl, hocc, _, _, nfc cs c, rfl, rfl, by decide, ?_, _, hD, fitsLt (by rw [List.length_map, List.length_take]; omega), Same.put s2 nD, ?_⟩
      · have h3 := lett_ix (i := (((met cs).idxOf c : Nat) : Int)) (by omega) (by omega)
        rw [h3, Int.toNat_natCast]
        rfl
      · rw [upd_same, map_take_snoc hc]
    · rintro H2 ⟨s2, hD⟩
      rw [List.take_of_length_le (by rw [tx_size]; exact Nat.le_refl _)] at hD
      refine ⟨_, D, (nf cs).map fun c => (⟨#[c]⟩ : Str), rfl, rfl, .inl (SqL.of (by rw [← signs_map]; unfold nf; rw [List.map_map]; exact hD)), signs_room (by unfold nf; rw [List.length_map]; omega), ?_⟩
      rw [join_signs]
      exact q H2 (s1.trans s2)
end
end Mo

namespace Mo
open PySem PySem.Spec PyProof.Rows L2
theorem cut_txFrom (zs : List Nat) (n : Nat) : cutS (tx zs) (some (n : Int)) none = tx (zs.drop n) := by
  rw [cut_tx, HT.sIx_none, HT.sIx_nat]
  have e : zs.drop (min n zs.length) = zs.drop n := by
    by_cases h : n ≤ zs.length
    · rw [Nat.min_eq_left h]
    · rw [List.drop_of_length_le (by omega), List.drop_of_length_le (by omega)]
  rw [e, List.take_of_length_le (by rw [List.length_drop]; omega)]
section
variable {P : Program} {w : World} {K : PySem.W.Frag} {mg : Str → Option Value} {base : Heap}
def spLinks : Sp := fun vs H Q _ => ∃ cs : List Nat, vs = [.str (tx cs)] ∧ Pat cs ∧
  ∀ H' l ps es, Same H H' → H l = none → H' l = some (.lst (ps.map V.ref)) → TpsAt edV H' ps es → Edges es (· ∈ nbr cs) → Q (.ref l) H'
theorem ok_links {k : Nat} (T : Txt K mg) : FnOk P w K mg base CX0 (k + 3) T.aLinks T.dLinks ["pattern"] spLinks := by
  have GCheckPattern : FnOk P w K mg base CX0 (k + 2) T.aCheckPattern T.dCheckPattern ["value"] spCheck := ok_check T
  refine T.fLinks.ok scLinks (fun vs H Q E h => ?_) (fun cdv A outer s H vs Q E hr h => ?_)
  · obtain ⟨cs, rfl, _⟩ := h
    rfl
  · obtain ⟨cs, rfl, pat, q⟩ := h
    refine ⟨_, (pss_cons (ps_expr (pe_call GCheckPattern hr (by rfl) T.gCheckPattern T.fCheckPattern.kp T.bCheckPattern .nil pass0 (pa_cons (pv 0) pa_nil)))
      (pss_one (ps_ret (pe_callB (Mo.cr_sortKs (P := P) (w := w) rfl rfl rfl) (by rfl) T.m_sorted (by decide +kernel) (pa_cons (pe_callTy (Mo.cr_setKs (P := P) (w := w) rfl rfl rfl hr.units) (by rfl) T.m_set (by decide +kernel) (pa_cons (Mo.pe_lzip rfl (by rfl) T.m_list (by rfl) T.m_zip (pa_cons (pv 0) (pa_cons (pe_slice sl_str (pv 0) (po_some pe_int) po_none) pa_nil))) pa_nil)) pa_nil))))), ?_⟩
    refine ⟨_, rfl, cs, rfl, pat, fun H1 s1 => ?_⟩
    have l40 := pat.len
    have cut : cutS (tx cs) (some 1) none = tx (cs.drop 1) := by
      exact cut_txFrom cs 1
    refine ⟨_, rfl, _, rfl, 1, rfl, _, rfl, ?_, ?_⟩
    · rw [tx_len, sizeLine_eq]
      omega
    rw [cut]
    have sz1 : (tx cs).cps.size = cs.length := by simp [tx]
    have sz2 : (tx (cs.drop 1)).cps.size = cs.length - 1 := by simp [tx]
    refine ⟨tx cs, tx (cs.drop 1), rfl, by rw [sz1, sz2]; omega, fun l ps H2 hlen s2 nl hl hps => ?_⟩
    rw [sz1, sz2] at hlen
    have nlen : (nbr cs).length = ps.length := by
      unfold nbr
      rw [List.length_zip, List.length_drop, hlen]
    have at2 : TpsAt edV H2 ps (nbr cs) := ⟨nlen.symm, fun j p e hp he => by
      obtain ⟨h1, h2⟩ := List.getElem?_zip_eq_some.mp he
      have h3 := (hps j p hp).2
      unfold pairV tx at h3
      simp only [Array.getD_eq_getD_getElem?, List.getElem?_toArray, h1, h2] at h3
      exact h3⟩
    exact sortSet_of (g := edS) (fun _ => rfl) (fun _ _ => edS_inj) hl at2 (by have := nbr_len cs; omega) fun rs us p H' s3 np hp hps m nd o => q H' p rs us ((s1.trans s2).trans s3) ((s1.trans s2).free np) hp hps (edges_of m nd o)
end
end Mo

namespace Mo
open PySem PySem.Spec PyProof.Rows L2
theorem near_add (qs : List Pt) (q : Pt) (a b : Nat) : nearP (qs ++ [q]) a b = if a ∈ q.1 ∨ b ∈ q.2 then nearP qs a b ++ [q] else nearP qs a b := by
  unfold nearP
  rw [List.filter_append]
  by_cases h : a ∈ q.1 ∨ b ∈ q.2
  · rw [if_pos h, List.filter_cons_of_pos (by simpa using h)]
    rfl
  · rw [if_neg h, List.filter_cons_of_neg (by simpa using h), List.filter_nil, List.append_nil]
theorem far_add (qs : List Pt) (q : Pt) (a b : Nat) : farP (qs ++ [q]) a b = if a ∈ q.1 ∨ b ∈ q.2 then farP qs a b else farP qs a b ++ [q] := by
  unfold farP
  rw [List.filter_append]
  by_cases h : a ∈ q.1 ∨ b ∈ q.2
  · rw [if_pos h, List.filter_cons_of_neg (by simp; intro z; exact h.resolve_left z), List.filter_nil, List.append_nil]
  · rw [if_neg h, List.filter_cons_of_pos (by simp; exact ⟨fun z => h (.inl z), fun z => h (.inr z)⟩)]
    rfl
theorem flat_sub_len {α β : Type} (f : α → List β) {a b : List α} (h : a.Sublist b) : (a.flatMap f).length ≤ (b.flatMap f).length := by
  induction h with
  | slnil => exact Nat.le_refl _
  | cons x _ ih =>
    rw [List.flatMap_cons, List.length_append]
    omega
  | cons_cons x _ ih =>
    rw [List.flatMap_cons, List.flatMap_cons, List.length_append, List.length_append]
    omega
theorem take_next {α : Type} {l : List α} {i : Nat} {q : α} (h : l[i]? = some q) : l.take (i + 1) = l.take i ++ [q] := by
  rw [List.take_add_one, h]
  rfl
section
variable {P : Program} {w : World} {K : PySem.W.Frag} {mg : Str → Option Value} {base : Heap}
def spMerged : Sp := fun vs H Q _ => ∃ (l : Addr) (a b : Nat) (ps : List Addr) (qs : List Pt), vs = [.ref l, .str (ch1 a), .str (ch1 b)] ∧ H l = some (.lst (ps.map V.ref)) ∧ TpsAt ptV H ps qs ∧ qs.length ≤ 1000 ∧ (qs.flatMap (·.1)).length ≤ 1000 ∧ (qs.flatMap (·.2)).length ≤ 1000 ∧
  ∀ H' l' ps' L R, Same H H' → H l' = none → H' l' = some (.lst (ps'.map V.ref)) → TpsAt ptV H' ps' (farP qs a b ++ [(L, R)]) → L.Perm ((nearP qs a b).flatMap (·.1)) → R.Perm ((nearP qs a b).flatMap (·.2)) → L.Pairwise (· ≤ ·) → R.Pairwise (· ≤ ·) → Q (.ref l') H'
theorem ok_merged {k : Nat} (T : Txt K mg) : FnOk P w K mg base CX0 (k + 1) T.aMerged T.dMerged ["parts", "first", "second"] spMerged := by
  refine T.fMerged.ok scMerged (fun vs H Q E h => ?_) (fun cdv A outer s H vs Q E hr h => ?_)
  · obtain ⟨_, _, _, _, _, rfl, _⟩ := h
    rfl
  · obtain ⟨l, a, b, ps, qs, rfl, hl, hp, q0, q1, q2, q⟩ := h
    refine ⟨_, (pss_cons (ps_setLc (i := 3) (own := [("left", 4), ("right", 5)]) (g := gTup K 2 (gCons (gName 4) (gCons (gName 5) gNil))) rfl scMerged.nd rfl rfl (sw_true rfl rfl rfl (by decide +kernel)) (pi_list (pv 0)) (blkOk_by (N := ["parts", "first", "second", "near", "left", "right", "apart", "lefts", "rights"]) (sc := defScope sMerged) (by decide +kernel)) (fun _ _ _ _ _ => Mo.pg_tupK (K := K) rfl rfl (pgs_cons (pg_name (i := 4) scMerged.nd rfl (Or.inl rfl)) (pgs_cons (pg_name (i := 5) scMerged.nd rfl (Or.inl rfl)) pgs_nil))) (fun _ _ _ _ _ => pts_one (PW.pt (pw_or (pt_cmpR op_in_sign (pv 1) (pv 4) rfl) (pw_or1 (pt_cmpR op_in_sign (pv 2) (pv 5) rfl))))) (fun _ _ _ _ _ => (pe_tup (pa_cons (pv 4) (pa_cons (pv 5) pa_nil)))))
      (pss_cons (ps_setLc (i := 6) (own := [("left", 4), ("right", 5)]) (g := gTup K 2 (gCons (gName 4) (gCons (gName 5) gNil))) rfl scMerged.nd rfl rfl (sw_true rfl rfl rfl (by decide +kernel)) (pi_list (pv 0)) (blkOk_by (N := ["parts", "first", "second", "near", "left", "right", "apart", "lefts", "rights"]) (sc := defScope sMerged) (by decide +kernel)) (fun _ _ _ _ _ => Mo.pg_tupK (K := K) rfl rfl (pgs_cons (pg_name (i := 4) scMerged.nd rfl (Or.inl rfl)) (pgs_cons (pg_name (i := 5) scMerged.nd rfl (Or.inl rfl)) pgs_nil))) (fun _ _ _ _ _ => pts_one (PW.pt (pw_and (pt_cmpR op_notIn_sign (pv 1) (pv 4) rfl) (pw_and1 (pt_cmpR op_notIn_sign (pv 2) (pv 5) rfl))))) (fun _ _ _ _ _ => (pe_tup (pa_cons (pv 4) (pa_cons (pv 5) pa_nil)))))
      (pss_cons (ps_set (i := 7) scMerged.nd rfl (Or.inl rfl) (pe_join pe_str (pe_callB (Mo.cr_sortTxt rfl) (by rfl) T.m_sorted (by decide +kernel) (pa_cons (pe_join pe_str (pe_lc (own := [("left", 4), ("right", 5)]) (g := gTup K 2 (gCons (gName 4) (gCons (gName 5) gNil))) (tt := tYes) rfl scMerged.nd (pi_list (pv 3)) (blkOk_by (N := ["parts", "first", "second", "near", "left", "right", "apart", "lefts", "rights"]) (sc := defScope sMerged) (by decide +kernel)) (fun _ _ _ _ _ => Mo.pg_tupK (K := K) rfl rfl (pgs_cons (pg_name (i := 4) scMerged.nd rfl (Or.inl rfl)) (pgs_cons (pg_name (i := 5) scMerged.nd rfl (Or.inl rfl)) pgs_nil))) (fun _ _ _ _ _ => pts_nil) (fun _ _ _ _ _ => (pv 4)))) pa_nil))))
      (pss_cons (ps_set (i := 8) scMerged.nd rfl (Or.inl rfl) (pe_join pe_str (pe_callB (Mo.cr_sortTxt rfl) (by rfl) T.m_sorted (by decide +kernel) (pa_cons (pe_join pe_str (pe_lc (own := [("left", 4), ("right", 5)]) (g := gTup K 2 (gCons (gName 4) (gCons (gName 5) gNil))) (tt := tYes) rfl scMerged.nd (pi_list (pv 3)) (blkOk_by (N := ["parts", "first", "second", "near", "left", "right", "apart", "lefts", "rights"]) (sc := defScope sMerged) (by decide +kernel)) (fun _ _ _ _ _ => Mo.pg_tupK (K := K) rfl rfl (pgs_cons (pg_name (i := 4) scMerged.nd rfl (Or.inl rfl)) (pgs_cons (pg_name (i := 5) scMerged.nd rfl (Or.inl rfl)) pgs_nil))) (fun _ _ _ _ _ => pts_nil) (fun _ _ _ _ _ => (pv 5)))) pa_nil))))
      (pss_one (ps_ret (pe_op op_cat (pv 6) (pe_lst (pa_cons (pe_tup (pa_cons (pv 7) (pa_cons (pv 8) pa_nil))) pa_nil))))))))), ?_⟩
    -- near
    have nl : (nearP qs a b).length ≤ qs.length := List.length_filter_le ..
    refine ⟨_, rfl, l, rfl, ⟨_, SqL.of hl⟩, fun D1 nD1 => lc_it (walk_list (xs := ps.map V.ref)) (fun i H' => ∃ rs : List Addr, Same H H' ∧ H' D1 = some (.lst (rs.map V.ref)) ∧ TpsAt ptV H' rs (nearP (qs.take i) a b)) ?_ ?_ ?_ ?_⟩
    · exact ⟨[], same_new nD1, upd_same, .nil⟩
    · rintro i H' _ ⟨rs, s1, _⟩
      exact SqL.of (s1 _ _ hl)
    · rintro i x H1 H1' hi ⟨rs, s1, hD, at1⟩ ⟨rfl, hx⟩
      obtain ⟨p, qq, rfl, hq, hp1⟩ := (hp.same s1).refs hx
      rw [take_next hq, near_add]
      have ll := at1.len
      have l2 : (nearP (qs.take i) a b).length ≤ qs.length := Nat.le_trans (List.length_filter_le ..) (List.length_take_le' ..)
      have tail : ∀ c : Bool, (c = true ↔ a ∈ qq.1 ∨ b ∈ qq.2) → (if c = true then tTup (tCons (tVar 4) (tCons (tVar 5) tNil)) [some (V.ref l), some (.str (ch1 a)), some (.str (ch1 b)), none, some (.str (tx qq.1)), some (.str (tx qq.2)), none, none, none] H1' fun y H4 => ∃ acc, H4 D1 = some (.lst acc) ∧ acc.length < sizeLine ∧
          ∃ rs' : List Addr, Same H (upd H4 D1 (.lst (acc ++ [y]))) ∧ (upd H4 D1 (.lst (acc ++ [y]))) D1 = some (.lst (rs'.map V.ref)) ∧ TpsAt ptV (upd H4 D1 (.lst (acc ++ [y]))) rs' (if a ∈ qq.1 ∨ b ∈ qq.2 then nearP (qs.take i) a b ++ [qq] else nearP (qs.take i) a b)
        else ∃ rs' : List Addr, Same H H1' ∧ H1' D1 = some (.lst (rs'.map V.ref)) ∧ TpsAt ptV H1' rs' (if a ∈ qq.1 ∨ b ∈ qq.2 then nearP (qs.take i) a b ++ [qq] else nearP (qs.take i) a b)) := fun c hc => by
        cases c with
        | false =>
          rw [if_neg (fun z => Bool.noConfusion (hc.mpr z))]
          exact iteF ⟨rs, s1, hD, at1⟩
        | true =>
          rw [if_pos (hc.mp rfl)]
          refine iteT ⟨_, rfl, _, rfl, by show 2 ≤ sizeLine; decide, fun T0 nT => ⟨_, (same_new nT) _ _ hD, fitsLt (by rw [List.length_map]; omega), rs ++ [T0], Same.put (s1.trans (same_new nT)) nD1, ?_, at1.put hD nT⟩⟩
          rw [upd_same, List.map_append]
          rfl
      refine ⟨p, _, rfl, SqT.of hp1, rfl, _, _, rfl, _, _, rfl, rfl, rfl, ?_⟩
      refine ⟨_, rfl, _, rfl, a, _, rfl, rfl, _, rfl, ?_⟩
      by_cases c1 : a ∈ qq.1
      · rw [show decide (a ∈ (tx qq.1).cps.toList) = true from decide_eq_true c1]
        exact iteT (tail true ⟨fun _ => .inl c1, fun _ => rfl⟩)
      · rw [show decide (a ∈ (tx qq.1).cps.toList) = false from decide_eq_false c1]
        refine iteF ⟨_, rfl, _, rfl, b, _, rfl, rfl, _, rfl, ?_⟩
        exact tail (decide (b ∈ qq.2)) ⟨fun h => .inr (of_decide_eq_true h), fun h => decide_eq_true (h.resolve_left c1)⟩
    rintro H1 ⟨rs1, s1, hD1, at1⟩
    rw [hp.rl, List.take_length] at at1
    have hl1 := s1 _ _ hl
    have hp1 := hp.same s1
    -- apart
    refine ⟨_, rfl, l, rfl, ⟨_, SqL.of hl1⟩, fun D2 nD2 => lc_it (walk_list (xs := ps.map V.ref)) (fun i H' => ∃ rs : List Addr, Same H1 H' ∧ H' D2 = some (.lst (rs.map V.ref)) ∧ TpsAt ptV H' rs (farP (qs.take i) a b)) ?_ ?_ ?_ ?_⟩
    · exact ⟨[], same_new nD2, upd_same, .nil⟩
    · rintro i H' _ ⟨rs, s2, _⟩
      exact SqL.of (s2 _ _ hl1)
    · rintro i x H2 H2' hi ⟨rs, s2, hD, at2⟩ ⟨rfl, hx⟩
      obtain ⟨p, qq, rfl, hq, hp2⟩ := (hp1.same s2).refs hx
      rw [take_next hq, far_add]
      have ll := at2.len
      have l2 : (farP (qs.take i) a b).length ≤ qs.length := Nat.le_trans (List.length_filter_le ..) (List.length_take_le' ..)
      have tail : ∀ c : Bool, (c = true ↔ ¬ (a ∈ qq.1 ∨ b ∈ qq.2)) → (if c = true then tTup (tCons (tVar 4) (tCons (tVar 5) tNil)) [some (V.ref l), some (.str (ch1 a)), some (.str (ch1 b)), some (.ref D1), some (.str (tx qq.1)), some (.str (tx qq.2)), none, none, none] H2' fun y H4 => ∃ acc, H4 D2 = some (.lst acc) ∧ acc.length < sizeLine ∧
          ∃ rs' : List Addr, Same H1 (upd H4 D2 (.lst (acc ++ [y]))) ∧ (upd H4 D2 (.lst (acc ++ [y]))) D2 = some (.lst (rs'.map V.ref)) ∧ TpsAt ptV (upd H4 D2 (.lst (acc ++ [y]))) rs' (if a ∈ qq.1 ∨ b ∈ qq.2 then farP (qs.take i) a b else farP (qs.take i) a b ++ [qq])
        else ∃ rs' : List Addr, Same H1 H2' ∧ H2' D2 = some (.lst (rs'.map V.ref)) ∧ TpsAt ptV H2' rs' (if a ∈ qq.1 ∨ b ∈ qq.2 then farP (qs.take i) a b else farP (qs.take i) a b ++ [qq])) := fun c hc => by
        cases c with
        | false =>
          rw [if_pos (Classical.byContradiction fun z => Bool.noConfusion (hc.mpr z))]
          exact iteF ⟨rs, s2, hD, at2⟩
        | true =>
          rw [if_neg (hc.mp rfl)]
          refine iteT ⟨_, rfl, _, rfl, by show 2 ≤ sizeLine; decide, fun T0 nT => ⟨_, (same_new nT) _ _ hD, fitsLt (by rw [List.length_map]; omega), rs ++ [T0], Same.put (s2.trans (same_new nT)) nD2, ?_, at2.put hD nT⟩⟩
          rw [upd_same, List.map_append]
          rfl
      refine ⟨p, _, rfl, SqT.of hp2, rfl, _, _, rfl, _, _, rfl, rfl, rfl, ?_⟩
      refine ⟨_, rfl, _, rfl, a, _, rfl, rfl, _, rfl, ?_⟩
      by_cases c1 : a ∈ qq.1
      · rw [show (!decide (a ∈ (tx qq.1).cps.toList)) = false by rw [show decide (a ∈ (tx qq.1).cps.toList) = true from decide_eq_true c1]; rfl]
        exact iteF (tail false ⟨fun h => Bool.noConfusion h, fun h => absurd (.inl c1) h⟩)
      · rw [show (!decide (a ∈ (tx qq.1).cps.toList)) = true by rw [show decide (a ∈ (tx qq.1).cps.toList) = false from decide_eq_false c1]; rfl]
        refine iteT ⟨_, rfl, _, rfl, b, _, rfl, rfl, _, rfl, ?_⟩
        refine tail (!decide (b ∈ qq.2)) ⟨fun h => ?_, fun h => ?_⟩
        · simp at h
          exact fun z => z.elim c1 h
        · simp
          exact fun z => h (.inr z)
    rintro H2 ⟨rs2, s2, hD2, at2⟩
    rw [hp.rl, List.take_length] at at2
    have hD1' := s2 _ _ hD1
    have at1' := at1.same s2
    have rl1 := at1.rl
    have fm1 : ((nearP qs a b).map (·.1)).flatten.length ≤ 1000 := by
      rw [← List.flatMap_def]
      exact Nat.le_trans (flat_sub_len _ List.filter_sublist) q1
    have fm2 : ((nearP qs a b).map (·.2)).flatten.length ≤ 1000 := by
      rw [← List.flatMap_def]
      exact Nat.le_trans (flat_sub_len _ List.filter_sublist) q2
    -- lefts
    refine ⟨⟨_, rfl⟩, ⟨_, rfl⟩, _, rfl, D1, rfl, ⟨_, SqL.of hD1'⟩, fun D3 nD3 => lc_it (walk_list (xs := rs1.map V.ref)) (fun i H' => Same H2 H' ∧ H' D3 = some (.lst (tzs (((nearP qs a b).take i).map (·.1))))) ?_ ?_ ?_ ?_⟩
    · exact ⟨same_new nD3, upd_same⟩
    · rintro i H' _ ⟨s, _⟩
      exact SqL.of (s _ _ hD1')
    · rintro i x H3 H3' hi ⟨s3, hD⟩ ⟨rfl, hx⟩
      obtain ⟨p, qq, rfl, hq, hp1⟩ := ((at1').same s3).refs hx
      refine ⟨p, _, rfl, SqT.of hp1, rfl, _, _, rfl, _, _, rfl, rfl, rfl, _, rfl, _, hD, fitsLt ?_, Same.put s3 nD3, ?_⟩
      · unfold tzs
        rw [List.length_map, List.length_map]
        exact Nat.le_trans (List.length_take_le' ..) (by omega)
      · rw [upd_same, take_next hq]
        unfold tzs
        rw [List.map_append, List.map_append]
        rfl
    rintro H3 ⟨s3, hD⟩
    rw [rl1, List.take_length, tzs_strs] at hD
    refine ⟨_, D3, _, rfl, rfl, .inl (SqL.of hD), tzs_room (Nat.le_trans fm1 (by decide)), ?_⟩
    rw [join_tzs]
    dsimp only [tNil]
    refine sortTxt_of (cs := ((nearP qs a b).map (·.1)).flatten) (Nat.le_trans fm1 (by decide)) fun L p1 H3' pL oL s3' np1 hp1 => ?_
    rw [sgs_map] at hp1
    have lenL := pL.length_eq
    refine ⟨_, p1, _, rfl, rfl, .inl (SqL.of hp1), sgs_room (by omega), ?_⟩
    rw [join_signs]
    rw [← List.flatMap_def] at pL
    have s23 := s3.trans s3'
    -- rights
    refine ⟨⟨_, rfl⟩, ⟨_, rfl⟩, _, rfl, D1, rfl, ⟨_, SqL.of (s23 _ _ hD1')⟩, fun D4 nD4 => lc_it (walk_list (xs := rs1.map V.ref)) (fun i H' => Same H3' H' ∧ H' D4 = some (.lst (tzs (((nearP qs a b).take i).map (·.2))))) ?_ ?_ ?_ ?_⟩
    · exact ⟨same_new nD4, upd_same⟩
    · rintro i H' _ ⟨s, _⟩
      exact SqL.of (s _ _ (s23 _ _ hD1'))
    · rintro i x H3 H3' hi ⟨s3, hD⟩ ⟨rfl, hx⟩
      obtain ⟨p, qq, rfl, hq, hp1⟩ := ((at1'.same s23).same s3).refs hx
      refine ⟨p, _, rfl, SqT.of hp1, rfl, _, _, rfl, _, _, rfl, rfl, rfl, _, rfl, _, hD, fitsLt ?_, Same.put s3 nD4, ?_⟩
      · unfold tzs
        rw [List.length_map, List.length_map]
        exact Nat.le_trans (List.length_take_le' ..) (by omega)
      · rw [upd_same, take_next hq]
        unfold tzs
        rw [List.map_append, List.map_append]
        rfl
    rintro H4 ⟨s4, hD⟩
    rw [rl1, List.take_length, tzs_strs] at hD
    refine ⟨_, D4, _, rfl, rfl, .inl (SqL.of hD), tzs_room (Nat.le_trans fm2 (by decide)), ?_⟩
    rw [join_tzs]
    dsimp only [tNil]
    refine sortTxt_of (cs := ((nearP qs a b).map (·.2)).flatten) (Nat.le_trans fm2 (by decide)) fun R p2 H4' pR oR s4' np2 hp2 => ?_
    rw [sgs_map] at hp2
    have lenR := pR.length_eq
    refine ⟨_, p2, _, rfl, rfl, .inl (SqL.of hp2), sgs_room (by omega), ?_⟩
    rw [join_signs]
    rw [← List.flatMap_def] at pR
    have s34 := s4.trans s4'
    have hD2' := s34 _ _ (s23 _ _ hD2)
    have at2' := (at2.same s23).same s34
    have ll2 := at2.len
    have l2 : (farP qs a b).length ≤ qs.length := List.length_filter_le ..
    refine ⟨_, rfl, _, rfl, _, rfl, by show 2 ≤ sizeLine; decide, fun T0 nT => ⟨by show 1 ≤ sizeLine; decide, fun E0 nE => ?_⟩⟩
    have s5 := same_new (o := .tup (ptV (L, R))) nT
    have s6 := same_new (o := .lst [V.ref T0]) nE
    refine ⟨D2, E0, _, _, rfl, rfl, s6 _ _ (s5 _ _ hD2'), upd_same, fits5 (by rw [List.length_map]; show _ + 1 ≤ _; omega), fun r nr => ?_⟩
    have s7 := (s5.trans s6).trans (same_new (o := .lst (rs2.map V.ref ++ [V.ref T0])) nr)
    have all := ((s1.trans s2).trans (s23.trans s34)).trans s7
    refine q _ r (rs2 ++ [T0]) L R all ?_ (by rw [upd_same, List.map_append]; rfl) ((at2'.same s7).add (s6.trans (same_new nr) _ _ upd_same)) pL pR oL oR
    exact (((s1.trans s2).trans (s23.trans s34)).trans (s5.trans s6)).free nr
end
end Mo

namespace Mo
open PySem PySem.Spec PyProof.Rows L2
theorem Parts.flat {es : List (Nat × Nat)} {ns : List Nat} {ps : List Pt} (h : Parts es ns ps) (he : ∀ e ∈ es, e.1 ∈ ns ∧ e.2 ∈ ns) : (ps.flatMap (·.1)).length ≤ ns.length ∧ (ps.flatMap (·.2)).length ≤ ns.length := by
  have same : ∀ p ∈ ps, ∀ q ∈ ps, ∀ x : Nd, At p x → At q x → p = q := fun p hp q hq x h1 h2 => by
    obtain ⟨v, _, hv⟩ := h.cmp p hp
    obtain ⟨u, _, hu⟩ := h.cmp q hq
    exact hv.eq hu h1 h2
  have in_ : ∀ p ∈ ps, ∀ u : Nd, At p u → u.2 ∈ ns := fun p hp u hu => by
    obtain ⟨v, hv, c⟩ := h.cmp p hp
    exact ((c.all u).mp hu).in hv he
  constructor
  · refine nd_sub _ _ (nodup_flatMap h.nd (fun p hp => ?_) fun p hp q hq c h1 h2 => same p hp q hq (false, c) h1 h2) fun c hc => ?_
    · obtain ⟨v, _, hv⟩ := h.cmp p hp
      exact asc_nodup hv.asc1
    · obtain ⟨p, hp, h1⟩ := List.mem_flatMap.mp hc
      exact in_ p hp (false, c) h1
  · refine nd_sub _ _ (nodup_flatMap h.nd (fun p hp => ?_) fun p hp q hq c h1 h2 => same p hp q hq (true, c) h1 h2) fun c hc => ?_
    · obtain ⟨v, _, hv⟩ := h.cmp p hp
      exact asc_nodup hv.asc2
    · obtain ⟨p, hp, h1⟩ := List.mem_flatMap.mp hc
      exact in_ p hp (true, c) h1
theorem far_len (qs : List Pt) (a b : Nat) (p : Pt) : (farP qs a b ++ [p]).length ≤ qs.length + 1 := by
  rw [List.length_append, List.length_singleton]
  exact Nat.succ_le_succ (List.length_filter_le ..)
section
variable {P : Program} {w : World} {K : PySem.W.Frag} {mg : Str → Option Value} {base : Heap}
def spLinked : Sp := fun vs H Q _ => ∃ (n e : Addr) (ns : List Nat) (ps : List Addr) (es : List (Nat × Nat)), vs = [.ref n, .ref e] ∧ H n = some (.lst (ns.map sg)) ∧ H e = some (.lst (ps.map V.ref)) ∧ TpsAt edV H ps es ∧ ns.Nodup ∧ ns.length ≤ 100 ∧ es.length ≤ 100 ∧ (∀ e ∈ es, e.1 ∈ ns ∧ e.2 ∈ ns) ∧
  ∀ H' l rs qs, Same H H' → H l = none → H' l = some (.lst (rs.map V.ref)) → TpsAt ptV H' rs qs → Comps es ns qs → Q (.ref l) H'
theorem ok_linked {k : Nat} (T : Txt K mg) : FnOk P w K mg base CX0 (k + 2) T.aLinkedParts T.dLinkedParts ["names", "edges"] spLinked := by
  have GMerged : FnOk P w K mg base CX0 (k + 1) T.aMerged T.dMerged ["parts", "first", "second"] spMerged := ok_merged T
  refine T.fLinkedParts.ok scLinkedParts (fun vs H Q E h => ?_) (fun cdv A outer s H vs Q E hr h => ?_)
  · obtain ⟨_, _, _, _, _, rfl, _⟩ := h
    rfl
  · obtain ⟨n, e, ns, ps, es, rfl, hn, he, hp, nd, n1, e1, ein, q⟩ := h
    refine ⟨_, (pss_cons (ps_set (i := 2) scLinkedParts.nd rfl (Or.inl rfl) (pe_op op_cat (pe_lc (own := [("name", 3)]) (g := gName 3) (tt := tYes) rfl scLinkedParts.nd (pi_list (pv 0)) (blkOk_by (N := ["names", "edges", "parts", "name", "first", "second"]) (sc := defScope sLinkedParts) (by decide +kernel)) (fun _ _ _ _ _ => pg_name (i := 3) scLinkedParts.nd rfl (Or.inl rfl)) (fun _ _ _ _ _ => pts_nil) (fun _ _ _ _ _ => (pe_tup (pa_cons (pv 3) (pa_cons pe_str pa_nil))))) (pe_lc (own := [("name", 3)]) (g := gName 3) (tt := tYes) rfl scLinkedParts.nd (pi_list (pv 0)) (blkOk_by (N := ["names", "edges", "parts", "name", "first", "second"]) (sc := defScope sLinkedParts) (by decide +kernel)) (fun _ _ _ _ _ => pg_name (i := 3) scLinkedParts.nd rfl (Or.inl rfl)) (fun _ _ _ _ _ => pts_nil) (fun _ _ _ _ _ => (pe_tup (pa_cons pe_str (pa_cons (pv 3) pa_nil)))))))
      (pss_cons (ps_for PassesOwn.never rfl (pi_list (pv 1)) (pg_tup rfl (pgs_cons (pg_name (i := 4) scLinkedParts.nd rfl (Or.inl rfl)) (pgs_cons (pg_name (i := 5) scLinkedParts.nd rfl (Or.inl rfl)) pgs_nil))) (pss_one (ps_set (i := 2) scLinkedParts.nd rfl (Or.inl rfl) (pe_call GMerged hr (by rfl) T.gMerged T.fMerged.kp T.bMerged .nil pass0 (pa_cons (pv 2) (pa_cons (pv 4) (pa_cons (pv 5) pa_nil)))))))
      (pss_one (ps_ret (pe_callB Mo.cr_sortPs (by rfl) T.m_sorted (by decide +kernel) (pa_cons (pv 2) pa_nil)))))), ?_⟩
    -- parts
    refine ⟨_, rfl, n, rfl, ⟨_, SqL.of hn⟩, fun D1 nD1 => lc_it (walk_list (xs := ns.map sg)) (fun i H' => ∃ rs : List Addr, Same H H' ∧ H' D1 = some (.lst (rs.map V.ref)) ∧ TpsAt ptV H' rs ((ns.take i).map fun c => ([c], []))) ?_ ?_ ?_ ?_⟩
    · exact ⟨[], same_new nD1, upd_same, .nil⟩
    · rintro i H' _ ⟨rs, s1, _⟩
      exact SqL.of (s1 _ _ hn)
    · rintro i x H1 H1' hi ⟨rs, s1, hD, at1⟩ ⟨rfl, hx⟩
      rw [List.getElem?_map] at hx
      obtain ⟨c, hc, rfl⟩ := Option.map_eq_some_iff.mp hx
      have ll := at1.len
      have l2 : ((ns.take i).map fun c => (([c], []) : Pt)).length ≤ ns.length := by rw [List.length_map]; exact List.length_take_le' ..
      refine ⟨rfl, _, rfl, by show 2 ≤ sizeLine; decide, fun T0 nT => ⟨_, (same_new nT) _ _ hD, fitsLt (by rw [List.length_map]; omega), rs ++ [T0], Same.put (s1.trans (same_new nT)) nD1, ?_, ?_⟩⟩
      · rw [upd_same, List.map_append]
        rfl
      · rw [take_next hc, List.map_append, tx_nil]
        exact at1.put (q := ([c], [])) hD nT
    rintro H1 ⟨rs1, s1, hD1, at1⟩
    rw [List.length_map, List.take_length] at at1
    have hn1 := s1 _ _ hn
    refine ⟨_, rfl, n, rfl, ⟨_, SqL.of hn1⟩, fun D2 nD2 => lc_it (walk_list (xs := ns.map sg)) (fun i H' => ∃ rs : List Addr, Same H1 H' ∧ H' D2 = some (.lst (rs.map V.ref)) ∧ TpsAt ptV H' rs ((ns.take i).map fun c => ([], [c]))) ?_ ?_ ?_ ?_⟩
    · exact ⟨[], same_new nD2, upd_same, .nil⟩
    · rintro i H' _ ⟨rs, s1, _⟩
      exact SqL.of (s1 _ _ hn1)
    · rintro i x H2 H2' hi ⟨rs, s2, hD, at2⟩ ⟨rfl, hx⟩
      rw [List.getElem?_map] at hx
      obtain ⟨c, hc, rfl⟩ := Option.map_eq_some_iff.mp hx
      have ll := at2.len
      have l2 : ((ns.take i).map fun c => (([], [c]) : Pt)).length ≤ ns.length := by rw [List.length_map]; exact List.length_take_le' ..
      refine ⟨rfl, _, rfl, by show 2 ≤ sizeLine; decide, fun T0 nT => ⟨_, (same_new nT) _ _ hD, fitsLt (by rw [List.length_map]; omega), rs ++ [T0], Same.put (s2.trans (same_new nT)) nD2, ?_, ?_⟩⟩
      · rw [upd_same, List.map_append]
        rfl
      · rw [take_next hc, List.map_append, tx_nil]
        exact at2.put (q := ([], [c])) hD nT
    rintro H2 ⟨rs2, s2, hD2, at2⟩
    rw [List.length_map, List.take_length] at at2
    have r1 := at1.len
    have r2 := at2.len
    rw [List.length_map] at r1 r2
    refine ⟨D1, D2, _, _, rfl, rfl, s2 _ _ hD1, hD2, fits5 (by rw [List.length_map, List.length_map]; omega), fun L nL => ?_⟩
    have s3 := (s1.trans s2).trans (same_new (o := .lst (rs1.map V.ref ++ rs2.map V.ref)) nL)
    have at3 := ((at1.same s2).app at2).same (same_new (o := .lst (rs1.map V.ref ++ rs2.map V.ref)) nL)
    have hL : upd H2 L (.lst (rs1.map V.ref ++ rs2.map V.ref)) L = some (.lst ((rs1 ++ rs2).map V.ref)) := by rw [upd_same, List.map_append]
    have nL0 := (s1.trans s2).free nL
    generalize upd H2 L (.lst (rs1.map V.ref ++ rs2.map V.ref)) = H3 at *
    have he3 := s3 _ _ he
    have hp3 := hp.same s3
    -- the edges
    refine ⟨_, rfl, e, rfl, ⟨_, SqL.of he3⟩, for_it (walk_list (xs := ps.map V.ref)) (fun i σ H' => ∃ (l : Addr) (rs : List Addr) (qs : List Pt) (o3 o4 o5 : Option V), σ = [some (.ref n), some (.ref e), some (.ref l), o3, o4, o5] ∧ Same H H' ∧ Same H3 H' ∧ H l = none ∧ H' l = some (.lst (rs.map V.ref)) ∧ TpsAt ptV H' rs qs ∧ Parts (es.take i) ns qs ∧ qs.length ≤ 2 * ns.length + i) ?_ ?_ ?_ ?_⟩
    · exact ⟨L, _, _, _, _, _, rfl, s3, .refl _, nL0, hL, at3, Parts.nil nd, by rw [List.length_append, List.length_map, List.length_map]; omega⟩
    · rintro i σ H' _ ⟨_, _, _, _, _, _, _, _, s4, _⟩
      exact SqL.of (s4 _ _ he3)
    · rintro i x σ H4 H4' hi ⟨l, rs, qs, o3, o4, o5, rfl, s4, s4', nl, hl, at4, pt, ql⟩ ⟨rfl, hx⟩
      obtain ⟨p, ee, rfl, hq, hpe⟩ := (hp3.same s4').refs hx
      have hi2 : i < es.length := (List.getElem?_eq_some_iff.mp hq).1
      obtain ⟨ea, eb⟩ := ein ee (List.mem_of_getElem? hq)
      have fl := pt.flat fun e he => ein e (List.mem_of_mem_take he)
      refine ⟨p, _, rfl, SqT.of hpe, rfl, _, _, rfl, _, _, rfl, rfl, ?_⟩
      refine ⟨_, rfl, _, rfl, _, rfl, l, ee.1, ee.2, rs, qs, rfl, hl, at4, by omega, by omega, by omega, fun H5 l5 rs5 Lf Rt s5 nl5 hl5 at5 pl pr ol or_ => ?_⟩
      refine ⟨l5, rs5, _, _, _, _, rfl, s4.trans s5, s4'.trans s5, s4.free nl5, hl5, at5, ?_, ?_⟩
      · rw [take_next hq]
        exact pt.step ea eb pl pr ol or_
      · have := far_len qs ee.1 ee.2 (Lf, Rt)
        omega
    · rintro σ H4 ⟨l, rs, qs, o3, o4, o5, rfl, s4, s4', nl, hl, at4, pt, ql⟩
      rw [hp.rl, List.take_length] at pt
      refine ⟨_, rfl, ?_⟩
      dsimp only [tNil]
      exact sortPs_of (g := ptS) (fun _ => rfl) (fun _ _ => ptS_inj) hl at4 fun rs us p pm o at5 np => q _ p rs us (s4.trans (same_new np)) (s4.free np) upd_same (at5.same (same_new np)) ⟨pt.perm pm, o⟩
def spComps : Sp := fun vs H Q _ => ∃ cs : List Nat, vs = [.str (tx cs)] ∧ Pat cs ∧
  ∀ H' l rs qs es, Same H H' → H l = none → H' l = some (.lst (rs.map V.ref)) → TpsAt ptV H' rs qs → Edges es (· ∈ nbr cs) → Comps es cs qs → Q (.ref l) H'
theorem ok_comps {k : Nat} (T : Txt K mg) : FnOk P w K mg base CX0 (k + 4) T.aComponents T.dComponents ["pattern"] spComps := by
  have GCheckPattern : FnOk P w K mg base CX0 (k + 3) T.aCheckPattern T.dCheckPattern ["value"] spCheck := ok_check T
  have GLinks : FnOk P w K mg base CX0 (k + 3) T.aLinks T.dLinks ["pattern"] spLinks := ok_links T
  have GLinkedParts : FnOk P w K mg base CX0 (k + 3) T.aLinkedParts T.dLinkedParts ["names", "edges"] spLinked := ok_linked T
  refine T.fComponents.ok scComponents (fun vs H Q E h => ?_) (fun cdv A outer s H vs Q E hr h => ?_)
  · obtain ⟨_, rfl, _⟩ := h
    rfl
  · obtain ⟨cs, rfl, pat, q⟩ := h
    refine ⟨_, (pss_cons (ps_expr (pe_call GCheckPattern hr (by rfl) T.gCheckPattern T.fCheckPattern.kp T.bCheckPattern .nil pass0 (pa_cons (pv 0) pa_nil)))
      (pss_one (ps_ret (pe_call GLinkedParts hr (by rfl) T.gLinkedParts T.fLinkedParts.kp T.bLinkedParts .nil pass0 (pa_cons (pe_callB (Mo.cr_sortSg (P := P) (w := w) rfl rfl rfl) (by rfl) T.m_sorted (by decide +kernel) (pa_cons (pe_callTy (Mo.cr_setSg (P := P) (w := w) rfl rfl rfl) (by rfl) T.m_set (by decide +kernel) (pa_cons (pv 0) pa_nil)) pa_nil)) (pa_cons (pe_call GLinks hr (by rfl) T.gLinks T.fLinks.kp T.bLinks .nil pass0 (pa_cons (pv 0) pa_nil)) pa_nil)))))), ?_⟩
    have l40 := pat.len
    have l8 := pat.few
    refine ⟨_, rfl, cs, rfl, pat, fun H1 s1 => ?_⟩
    refine ⟨_, rfl, tx cs, rfl, by rw [tx_size]; omega, fun a na => ?_⟩
    have s2 := same_new (o := SetSg P w a (tx cs).cps.toList) na
    refine ⟨a, _, rfl, upd_same, by show (met cs).length < 64; omega, fun ys r pm st nr => ?_⟩
    obtain ⟨ns, rfl, asc, mem, nlen⟩ := signs_set (cs := cs) pm st
    have s3 := s2.trans (same_new (o := .lst ((ns.map ch1).map V.str)) nr)
    have hr3 : upd (upd H1 a (SetSg P w a (tx cs).cps.toList)) r (.lst ((ns.map ch1).map V.str)) r = some (.lst (ns.map sg)) := by rw [upd_same, List.map_map]; rfl
    generalize upd (upd H1 a (SetSg P w a (tx cs).cps.toList)) r (.lst ((ns.map ch1).map V.str)) = H3 at *
    refine ⟨_, rfl, cs, rfl, pat, fun H4 l ps es s4 nl hl hps ed => ?_⟩
    have el : es.length ≤ 40 := Nat.le_trans (nd_sub _ _ ed.nd fun e he => (ed.mem e).mp he) (Nat.le_trans (nbr_len cs) l40)
    refine ⟨r, l, ns, ps, es, rfl, s4 _ _ hr3, hl, hps, asc_nodup asc, by omega, by omega, fun e he => ?_, fun H5 l5 rs qs s5 nl5 hl5 hp5 cm => ?_⟩
    · obtain ⟨h1, h2⟩ := nbr_in ((ed.mem e).mp he)
      exact ⟨(mem _).mpr h1, (mem _).mpr h2⟩
    · exact q H5 l5 rs qs es (((s1.trans s3).trans s4).trans s5) (((s1.trans s3).trans s4).free nl5) hl5 hp5 ed ⟨cm.prt.names mem, cm.ord⟩
end
end Mo

namespace Mo
open PySem PySem.Spec PyProof.Rows L2
section
variable {P : Program} {w : World} {K : PySem.W.Frag} {mg : Str → Option Value} {base : Heap}
def spTouches : Sp := fun vs H Q _ => ∃ ns ls : List Nat, vs = [.str (tx ns), .str (tx ls)] ∧ ns.length ≤ 1000 ∧ ∀ H', Same H H' → Q (.bl (ns.any fun c => decide (c ∈ ls))) H'
theorem ok_touches {k : Nat} (T : Txt K mg) : FnOk P w K mg base CX0 (k + 1) T.aTouches T.dTouches ["names", "letters"] spTouches := by
  refine T.fTouches.ok scTouches (fun vs H Q E h => ?_) (fun cdv A outer s H vs Q E hr h => ?_)
  · obtain ⟨_, _, rfl, _⟩ := h
    rfl
  · obtain ⟨ns, ls, rfl, n1, q⟩ := h
    refine ⟨_, (pss_one (ps_ret (pe_callB (cr_any rfl) (by rfl) T.m_any (by decide +kernel) (pa_cons (pe_lc (own := [("name", 2)]) (g := gName 2) (tt := tYes) rfl scTouches.nd (pi_str (pv 0)) (blkOk_by (N := ["names", "letters", "name"]) (sc := defScope sTouches) (by decide +kernel)) (fun _ _ _ _ _ => pg_name (i := 2) scTouches.nd rfl (Or.inl rfl)) (fun _ _ _ _ _ => pts_nil) (fun _ _ _ _ _ => (pe_cmpR op_in_sign (pv 2) (pv 1) rfl))) pa_nil)))), ?_⟩
    refine ⟨_, rfl, tx ns, rfl, fun D nD => lc_it walk_str (fun i H' => Same H H' ∧ H' D = some (.lst (((ns.take i).map fun c => decide (c ∈ ls)).map V.bl))) ?_ ?_ ?_ ?_⟩
    · exact ⟨same_new nD, upd_same⟩
    · exact fun _ _ _ _ => trivial
    · rintro i x H1 H2 hi ⟨s1, hD⟩ ⟨rfl, c, hc, rfl⟩
      rw [tx_get] at hc
      refine ⟨rfl, _, rfl, _, rfl, c, _, rfl, rfl, _, hD, fitsLt (by rw [List.length_map, List.length_map, List.length_take]; omega), Same.put s1 nD, ?_⟩
      rw [upd_same, take_next hc, List.map_append, List.map_append]
      rfl
    · rintro H1 ⟨s1, hD⟩
      rw [tx_size, List.take_length] at hD
      refine ⟨D, ns.map fun c => decide (c ∈ ls), rfl, SqL.of hD, ?_⟩
      rw [show (ns.map fun c => decide (c ∈ ls)).any id = ns.any fun c => decide (c ∈ ls) by rw [List.any_map]; rfl]
      exact q H1 s1
def spKeeps : Sp := fun vs H Q _ => ∃ (l : Addr) (rs : List Addr) (qs : List Pt) (ls : List Nat), vs = [.ref l, .str (tx ls)] ∧ H l = some (.lst (rs.map V.ref)) ∧ TpsAt ptV H rs qs ∧ qs.length ≤ 1000 ∧ (∀ q ∈ qs, q.1.length ≤ 1000 ∧ q.2.length ≤ 1000) ∧ ∀ H', Same H H' → Q (.bl (keepsB qs ls)) H'
theorem ok_keeps {k : Nat} (T : Txt K mg) : FnOk P w K mg base CX0 (k + 2) T.aKeepsSides T.dKeepsSides ["parts", "letters"] spKeeps := by
  have GTouches : FnOk P w K mg base CX0 (k + 1) T.aTouches T.dTouches ["names", "letters"] spTouches := ok_touches T
  refine T.fKeepsSides.ok scKeepsSides (fun vs H Q E h => ?_) (fun cdv A outer s H vs Q E hr h => ?_)
  · obtain ⟨_, _, _, _, rfl, _⟩ := h
    rfl
  · obtain ⟨l, rs, qs, ls, rfl, hl, hp, q1, q2, q⟩ := h
    refine ⟨_, (pss_one (ps_ret (pe_not (pe_callB (cr_any rfl) (by rfl) T.m_any (by decide +kernel) (pa_cons (pe_lc (own := [("left", 2), ("right", 3)]) (g := gTup K 2 (gCons (gName 2) (gCons (gName 3) gNil))) (tt := tYes) rfl scKeepsSides.nd (pi_list (pv 0)) (blkOk_by (N := ["parts", "letters", "left", "right"]) (sc := defScope sKeepsSides) (by decide +kernel)) (fun _ _ _ _ _ => Mo.pg_tupK (K := K) rfl rfl (pgs_cons (pg_name (i := 2) scKeepsSides.nd rfl (Or.inl rfl)) (pgs_cons (pg_name (i := 3) scKeepsSides.nd rfl (Or.inl rfl)) pgs_nil))) (fun _ _ _ _ _ => pts_nil) (fun _ _ _ _ _ => (pe_and (pe_call GTouches hr (by rfl) T.gTouches T.fTouches.kp T.bTouches .nil pass0 (pa_cons (pv 2) (pa_cons (pv 1) pa_nil))) (pe_one (pe_call GTouches hr (by rfl) T.gTouches T.fTouches.kp T.bTouches .nil pass0 (pa_cons (pv 3) (pa_cons (pv 1) pa_nil))))))) pa_nil))))), ?_⟩
    refine ⟨_, rfl, l, rfl, ⟨_, SqL.of hl⟩, fun D nD => lc_it (walk_list (xs := rs.map V.ref)) (fun i H' => Same H H' ∧ H' D = some (.lst (((qs.take i).map fun q => bothB q ls).map V.bl))) ?_ ?_ ?_ ?_⟩
    · exact ⟨same_new nD, upd_same⟩
    · rintro i H' _ ⟨s, _⟩
      exact SqL.of (s _ _ hl)
    · rintro i x H1 H2 hi ⟨s1, hD⟩ ⟨rfl, hx⟩
      obtain ⟨p, qq, rfl, hq, hpp⟩ := (hp.same s1).refs hx
      obtain ⟨l1, l2⟩ := q2 qq (List.mem_of_getElem? hq)
      have fin : ∀ H3, Same H2 H3 → ∃ acc, H3 D = some (.lst acc) ∧ acc.length < sizeLine ∧ Same H (upd H3 D (.lst (acc ++ [V.bl (bothB qq ls)]))) ∧ upd H3 D (.lst (acc ++ [V.bl (bothB qq ls)])) D = some (.lst (((qs.take (i + 1)).map fun q => bothB q ls).map V.bl)) := fun H3 s3 => by
        refine ⟨_, s3 _ _ hD, fitsLt (by rw [List.length_map, List.length_map, List.length_take]; omega), Same.put (s1.trans s3) nD, ?_⟩
        rw [upd_same, take_next hq, List.map_append, List.map_append]
        rfl
      refine ⟨p, _, rfl, SqT.of hpp, rfl, _, _, rfl, _, _, rfl, rfl, rfl, ?_⟩
      refine ⟨_, rfl, _, rfl, qq.1, ls, rfl, l1, fun H3 s3 => ⟨_, rfl, ?_⟩⟩
      cases e1 : qq.1.any fun c => decide (c ∈ ls) with
      | false =>
        have eb : bothB qq ls = false := by
          unfold bothB
          rw [e1]
          rfl
        rw [eb] at fin
        exact iteF (fin H3 s3)
      | true =>
        have eb : bothB qq ls = qq.2.any fun c => decide (c ∈ ls) := by
          unfold bothB
          rw [e1]
          rfl
        rw [eb] at fin
        exact iteT ⟨_, rfl, _, rfl, qq.2, ls, rfl, l2, fun H4 s4 => fin H4 (s3.trans s4)⟩
    · rintro H1 ⟨s1, hD⟩
      rw [hp.rl, List.take_length] at hD
      refine ⟨D, qs.map fun q => bothB q ls, rfl, SqL.of hD, _, rfl, ?_⟩
      rw [show (qs.map fun q => bothB q ls).any id = qs.any fun q => bothB q ls by rw [List.any_map]; rfl]
      exact q H1 s1
end
end Mo

namespace Mo
open PySem PySem.Spec PyProof.Rows L2
theorem tzs_len (l : List (List Nat)) : (tzs l).length = l.length := List.length_map ..
theorem tzs_app (a b : List (List Nat)) : tzs a ++ tzs b = tzs (a ++ b) := by
  unfold tzs
  rw [List.map_append]
theorem tzs_get {l : List (List Nat)} {i : Nat} {x : V} (h : (tzs l)[i]? = some x) : ∃ u, l[i]? = some u ∧ x = .str (tx u) := by
  unfold tzs at h
  rw [List.getElem?_map] at h
  obtain ⟨u, h1, h2⟩ := Option.map_eq_some_iff.mp h
  exact ⟨u, h1, h2.symm⟩
section
variable {P : Program} {w : World} {K : PySem.W.Frag} {mg : Str → Option Value} {base : Heap}
def spAmong : Sp := fun vs H Q _ => ∃ (n p : Addr) (ns : List Nat) (rs : List Addr) (qs : List Pt), vs = [.ref n, .ref p] ∧ H n = some (.lst (ns.map sg)) ∧ H p = some (.lst (rs.map V.ref)) ∧ TpsAt ptV H rs qs ∧ qs.length ≤ 1000 ∧ (∀ q ∈ qs, q.1.length ≤ 1000 ∧ q.2.length ≤ 1000) ∧ ns.length ≤ 8 ∧
  ∀ H' l R fs, Same H H' → H l = none → H' l = some (.lst (tzs fs)) → setF (keepsB qs) ns = [] :: R → fs.Perm R → fs.Pairwise LeT → Q (.ref l) H'
theorem ok_among {k : Nat} (T : Txt K mg) : FnOk P w K mg base CX0 (k + 3) T.aFreeAmong T.dFreeAmong ["names", "parts"] spAmong := by
  have GKeepsSides : FnOk P w K mg base CX0 (k + 2) T.aKeepsSides T.dKeepsSides ["parts", "letters"] spKeeps := ok_keeps T
  refine T.fFreeAmong.ok scFreeAmong (fun vs H Q E h => ?_) (fun cdv A outer s H vs Q E hr h => ?_)
  · obtain ⟨_, _, _, _, _, rfl, _⟩ := h
    rfl
  · obtain ⟨n, p, ns, rs, qs, rfl, hn, hp, hq, q1, q2, n8, q⟩ := h
    refine ⟨_, (pss_cons (ps_set (i := 2) scFreeAmong.nd rfl (Or.inl rfl) (pe_lst (pa_cons pe_str pa_nil)))
      (pss_cons (ps_for PassesOwn.never rfl (pi_list (pv 0)) (pg_name (i := 3) scFreeAmong.nd rfl (Or.inr rfl)) (pss_one (ps_set (i := 2) scFreeAmong.nd rfl (Or.inl rfl) (pe_op op_cat (pv 2) (pe_lc (own := [("letters", 4)]) (g := gName 4) rfl scFreeAmong.nd (pi_list (pv 2)) (blkOk_by (N := ["names", "parts", "found", "name", "letters"]) (sc := defScope sFreeAmong) (by decide +kernel)) (fun _ _ _ _ _ => pg_name (i := 4) scFreeAmong.nd rfl (Or.inl rfl)) (fun _ _ _ _ _ => pts_one (pt_val (pe_call GKeepsSides hr (by rfl) T.gKeepsSides T.fKeepsSides.kp T.bKeepsSides .nil pass0 (pa_cons (pv 1) (pa_cons (pe_op op_add_str (pv 4) (pv 3)) pa_nil))))) (fun _ _ _ _ _ => (pe_op op_add_str (pv 4) (pv 3))))))))
      (pss_one (ps_ret (pe_callB Mo.cr_sortStr (by rfl) T.m_sorted (by decide +kernel) (pa_cons (pe_slice sl_list (pv 2) (po_some pe_int) po_none) pa_nil)))))), ?_⟩
    refine ⟨by show 1 ≤ sizeLine; decide, fun L0 nL0 => ?_⟩
    have s0 := same_new (o := .lst [V.str (Str.ofString "")]) nL0
    refine ⟨_, rfl, n, rfl, ⟨_, SqL.of (s0 _ _ hn)⟩, for_it (walk_list (xs := ns.map sg)) (fun i σ H' => ∃ (L : Addr) (o3 o4 : Option V), σ = [some (.ref n), some (.ref p), some (.ref L), o3, o4] ∧ Same H H' ∧ H L = none ∧ H' L = some (.lst (tzs (setF (keepsB qs) (ns.take i))))) ?_ ?_ ?_ ?_⟩
    · exact ⟨L0, _, _, rfl, s0, nL0, by rw [upd_same, tx_nil]; rfl⟩
    · rintro i σ H' _ ⟨_, _, _, _, s1, _⟩
      exact SqL.of (s1 _ _ hn)
    · rintro i x σ H1 H1' hi ⟨L, o3, o4, rfl, s1, nL, hL⟩ ⟨rfl, hx⟩
      rw [List.getElem?_map] at hx
      obtain ⟨c, hc, rfl⟩ := Option.map_eq_some_iff.mp hx
      have e1 := take_next hc
      obtain ⟨F, hF⟩ : ∃ F, F = setF (keepsB qs) (ns.take i) := ⟨_, rfl⟩
      have fl : F.length ≤ 256 := by
        rw [hF]
        refine Nat.le_trans (setF_len _ _ _ rfl) (Nat.le_trans (Nat.pow_le_pow_right (by decide) (show (ns.take i).length ≤ 8 by rw [List.length_take]; omega)) (by decide))
      have fw : ∀ l ∈ F, l.length ≤ 8 := fun l hl => by
        rw [hF] at hl
        have := (setF_sub _ _ rfl l hl).length_le
        rw [List.length_take] at this
        omega
      rw [← hF] at hL
      have hp1 := s1 _ _ hp
      have hq1 := hq.same s1
      refine ⟨_, rfl, _, rfl, L, rfl, ⟨_, SqL.of hL⟩, fun D nD => lc_it (walk_list (xs := tzs F)) (fun j H' => Same H1' H' ∧ H' D = some (.lst (tzs (((F.take j).map (· ++ [c])).filter (keepsB qs))))) ?_ ?_ ?_ ?_⟩
      · exact ⟨same_new nD, upd_same⟩
      · rintro j H' _ ⟨s2, _⟩
        exact SqL.of (s2 _ _ hL)
      · rintro j y H2 H2' hj ⟨s2, hD⟩ ⟨rfl, hy⟩
        obtain ⟨u, hu, rfl⟩ := tzs_get hy
        have ul := fw u (List.mem_of_getElem? hu)
        have l2 : (((F.take j).map (· ++ [c])).filter (keepsB qs)).length ≤ 256 := Nat.le_trans (List.length_filter_le ..) (by rw [List.length_map, List.length_take]; omega)
        have fit : ((tx u).length + (⟨#[c]⟩ : Str).length) ≤ sizeLine := fits5 (by rw [tx_len]; show u.length + 1 ≤ _; omega)
        refine ⟨rfl, _, rfl, _, rfl, _, rfl, _, _, rfl, rfl, fit, ?_⟩
        rw [show tx u ++ (⟨#[c]⟩ : Str) = tx (u ++ [c]) from tx_app u [c]]
        refine ⟨p, rs, qs, u ++ [c], rfl, s2 _ _ hp1, hq1.same s2, q1, q2, fun H3 s3 => ⟨_, rfl, ?_⟩⟩
        rw [take_next hu, List.map_append, List.filter_append]
        cases e : keepsB qs (u ++ [c]) with
        | false =>
          rw [show ([u].map (· ++ [c])) = [u ++ [c]] from rfl, List.filter_cons_of_neg (by rw [e]; exact Bool.false_ne_true), List.filter_nil, List.append_nil]
          exact iteF ⟨s2.trans s3, s3 _ _ hD⟩
        | true =>
          rw [show ([u].map (· ++ [c])) = [u ++ [c]] from rfl, List.filter_cons_of_pos e, List.filter_nil]
          refine iteT ⟨_, rfl, _, rfl, _, _, rfl, rfl, fit, _, s3 _ _ hD, fitsLt (by rw [tzs_len]; omega), Same.put (s2.trans s3) nD, ?_⟩
          rw [upd_same, ← tzs_app]
          rw [show tx u ++ (⟨#[c]⟩ : Str) = tx (u ++ [c]) from tx_app u [c]]
          rfl
      · rintro H2 ⟨s2, hD⟩
        rw [tzs_len, List.take_length] at hD
        have l2 : ((F.map (· ++ [c])).filter (keepsB qs)).length ≤ 256 := Nat.le_trans (List.length_filter_le ..) (by rw [List.length_map]; omega)
        refine ⟨L, D, _, _, rfl, rfl, s2 _ _ hL, hD, fits5 (by rw [tzs_len, tzs_len]; omega), fun r nr => ?_⟩
        refine ⟨r, _, _, rfl, (s1.trans s2).trans (same_new nr), (s1.trans s2).free nr, ?_⟩
        rw [upd_same, tzs_app, e1, setF_snoc, ← hF]
    · rintro σ H1 ⟨L, o3, o4, rfl, s1, nL, hL⟩
      rw [List.length_map, List.take_length] at hL
      obtain ⟨R, hR⟩ := setF_head (keepsB qs) _ ns rfl
      rw [hR] at hL
      refine ⟨_, rfl, 1, rfl, L, _, rfl, SqL.of hL, fun S nS => ?_⟩
      have e : cutV (tzs ([] :: R)) (some 1) none = tzs R := cutV_from (tzs ([] :: R)) 1
      rw [e]
      dsimp only [tNil]
      have sS := same_new (o := .lst (tzs R)) nS
      exact sortStr_of (SqL.of upd_same) fun ls r pm o nr => q _ r R ls ((s1.trans sS).trans (same_new nr)) ((s1.trans sS).free nr) upd_same hR pm o
/-- free_sets -/
def spFreeSets : Sp := fun vs H Q _ => ∃ cs : List Nat, vs = [.str (tx cs)] ∧ Pat cs ∧
  ∀ H' l fs, Same H H' → H l = none → H' l = some (.lst (tzs fs)) → FSets (nbr cs) cs fs → fs.length ≤ 256 → Q (.ref l) H'
theorem ok_fsets {k : Nat} (T : Txt K mg) : FnOk P w K mg base CX0 (k + 5) T.aFreeSets T.dFreeSets ["pattern"] spFreeSets := by
  have GComponents : FnOk P w K mg base CX0 (k + 4) T.aComponents T.dComponents ["pattern"] spComps := ok_comps T
  have GFreeAmong : FnOk P w K mg base CX0 (k + 4) T.aFreeAmong T.dFreeAmong ["names", "parts"] spAmong := ok_among T
  refine T.fFreeSets.ok scFreeSets (fun vs H Q E h => ?_) (fun cdv A outer s H vs Q E hr h => ?_)
  · obtain ⟨_, rfl, _⟩ := h
    rfl
  · obtain ⟨cs, rfl, pat, q⟩ := h
    refine ⟨_, (pss_cons (ps_set (i := 1) scFreeSets.nd rfl (Or.inl rfl) (pe_call GComponents hr (by rfl) T.gComponents T.fComponents.kp T.bComponents .nil pass0 (pa_cons (pv 0) pa_nil)))
      (pss_one (ps_ret (pe_call GFreeAmong hr (by rfl) T.gFreeAmong T.fFreeAmong.kp T.bFreeAmong .nil pass0 (pa_cons (pe_callB (Mo.cr_sortSg (P := P) (w := w) rfl rfl rfl) (by rfl) T.m_sorted (by decide +kernel) (pa_cons (pe_callTy (Mo.cr_setSg (P := P) (w := w) rfl rfl rfl) (by rfl) T.m_set (by decide +kernel) (pa_cons (pv 0) pa_nil)) pa_nil)) (pa_cons (pv 1) pa_nil)))))), ?_⟩
    have l40 := pat.len
    have l8 := pat.few
    refine ⟨_, rfl, cs, rfl, pat, fun H1 p rs qs es s1 np hp hq ed cm => ?_⟩
    have ein : ∀ e ∈ es, e.1 ∈ cs ∧ e.2 ∈ cs := fun e he => nbr_in ((ed.mem e).mp he)
    have ql := cm.prt.few
    refine ⟨_, rfl, tx cs, rfl, by rw [tx_size]; omega, fun a na => ?_⟩
    have s2 := same_new (o := SetSg P w a (tx cs).cps.toList) na
    refine ⟨a, _, rfl, upd_same, by show (met cs).length < 64; omega, fun ys r pm st nr => ?_⟩
    obtain ⟨ns, rfl, asc, mem, nlen⟩ := signs_set (cs := cs) pm st
    have s3 := s2.trans (same_new (o := .lst ((ns.map ch1).map V.str)) nr)
    have hr3 : upd (upd H1 a (SetSg P w a (tx cs).cps.toList)) r (.lst ((ns.map ch1).map V.str)) r = some (.lst (ns.map sg)) := by rw [upd_same, List.map_map]; rfl
    generalize upd (upd H1 a (SetSg P w a (tx cs).cps.toList)) r (.lst ((ns.map ch1).map V.str)) = H3 at *
    refine ⟨_, rfl, r, p, ns, rs, qs, rfl, hr3, s3 _ _ hp, hq.same s3, by omega, fun q hq => ?_, by omega, fun H4 l R fs s4 nl hl hR pR oR => ?_⟩
    · obtain ⟨l1, l2⟩ := cm.prt.lens ein hq
      exact ⟨by omega, by omega⟩
    · have fR := fsets_made cm.prt asc mem hR pR oR
      have len : (setF (keepsB qs) ns).length ≤ 256 := Nat.le_trans (setF_len _ _ _ rfl) (Nat.le_trans (Nat.pow_le_pow_right (by decide) (show ns.length ≤ 8 by omega)) (by decide))
      rw [hR, List.length_cons] at len
      have := pR.length_eq
      refine q H4 l fs ((s1.trans s3).trans s4) ((s1.trans s3).free nl) hl ⟨fun x => ?_, fR.nd, fR.ord⟩ (by omega)
      rw [fR.mem, Free.iff fun e => ed.mem e]
end
end Mo

namespace Mo
open PySem PySem.Spec PyProof.Rows L2
/-! ### variable sets -/
def vset (cs : List Nat) : List Nat := lett.filter fun c => decide (c ∈ cs)
theorem filter_snoc {p : Nat → Bool} {cs : List Nat} {i c : Nat} (h : cs[i]? = some c) : (cs.take (i + 1)).filter p = (cs.take i).filter p ++ (if p c = true then [c] else []) := by
  rw [List.take_add_one, h, List.filter_append]
  cases hp : p c <;> simp [List.filter, hp]
theorem lett_asc : lett.Pairwise (· < ·) := by decide
theorem vset_asc (cs : List Nat) : (vset cs).Pairwise (· < ·) := List.Pairwise.filter _ lett_asc
theorem mem_vset {cs : List Nat} {c : Nat} : c ∈ vset cs ↔ c ∈ lett ∧ c ∈ cs := by
  unfold vset
  rw [List.mem_filter]
  simp
theorem vset_of_asc {ls : List Nat} (h : ls.Pairwise (· < ·)) (hl : Low ls) : ls = vset ls := asc_ext ls (vset ls) h (vset_asc ls) fun x => by
  rw [mem_vset]
  exact ⟨fun hx => ⟨low_lett hl x hx, hx⟩, fun hx => hx.2⟩
theorem vset_low {ls : List Nat} (h : ls = vset ls) : Low ls := fun c hc => by
  rw [h] at hc
  have h2 : ∀ c ∈ lett, 97 ≤ c ∧ c ≤ 122 := by decide
  exact h2 c (mem_vset.mp hc).1
theorem vset_len {ls : List Nat} (h : ls = vset ls) : ls.length ≤ 26 := by
  rw [h]
  exact List.length_filter_le _ _
section
variable {P : Program} {w : World} {K : PySem.W.Frag} {mg : Str → Option Value} {base : Heap}
def spIsVS (K : PySem.W.Frag) : Sp := fun vs H Q _ => ∃ x, vs = [x] ∧
  ((∃ cs : List Nat, x = .str (tx cs) ∧ ∀ H', Same H H' → Q (.bl (decide (V.str (tx cs) = V.str (tx (vset cs))))) H') ∨ (∃ t, TyX K H x (.type t) ∧ kitB t "str" = some false ∧ ∀ H', Same H H' → Q (.bl false) H'))
theorem ok_isVS {k : Nat} (T : Txt K mg) : FnOk P w K mg base CX0 (k + 1) T.aIsVariableSet T.dIsVariableSet ["value"] (spIsVS K) := by
  refine T.fIsVariableSet.ok scIsVariableSet (fun vs H Q E h => ?_) (fun cdv A outer s H vs Q E hr h => ?_)
  · obtain ⟨x, rfl, _⟩ := h
    rfl
  · obtain ⟨x, rfl, h⟩ := h
    refine ⟨_, (pss_one (ps_ret (pe_and (pe_callB call_isi (by rfl) T.m_isinstance (by decide +kernel) (pa_cons (pv 0) (pa_cons (pe_bltn (v := .ty "str") (by rfl) T.m_str (by decide +kernel) rfl) pa_nil))) (pe_one (pe_cmpR op_eq (pv 0) (pe_join pe_str (pe_lc (own := [("name", 1)]) (g := gName 1) rfl scIsVariableSet.nd (pi_str (pe_glob (v := .str "abcdefghijklmnopqrstuvwxyz") rfl T.m_VARIABLES ⟨_, rfl⟩)) (blkOk_by (N := ["value", "name"]) (sc := defScope sIsVariableSet) (by decide +kernel)) (fun _ _ _ _ _ => pg_name (i := 1) scIsVariableSet.nd rfl (Or.inl rfl)) (fun _ _ _ _ _ => pts_one (pt_cmpR op_in_sign (pv 1) (pv 0) rfl)) (fun _ _ _ _ _ => (pv 1)))) (nomark _)))))), ?_⟩
    rcases h with ⟨cs, rfl, q⟩ | ⟨t, ty, hk, q⟩
    · refine ⟨_, rfl, _, _, .type "str", .type "str", true, rfl, .ty "str", .base (.str _), kit_ty (by decide +kernel), true, rfl, ?_⟩
      refine ⟨_, rfl, ⟨_, rfl⟩, Str.ofString "abcdefghijklmnopqrstuvwxyz", rfl, fun D nD => lc_it walk_str (fun i H' => Same H H' ∧ H' D = some (.lst (((lett.take i).filter fun c => decide (c ∈ cs)).map sg))) ?_ ?_ ?_ ?_⟩
      · exact ⟨same_new nD, upd_same⟩
      · exact fun _ _ _ _ => trivial
      · rintro i x H1 H2 hi ⟨s1, hD⟩ ⟨rfl, c, hc, rfl⟩
        rw [← Array.getElem?_toList, lett_text] at hc
        have hlt : i < 26 := (List.getElem?_eq_some_iff.mp hc).1
        have hfl : ((lett.take i).filter fun c => decide (c ∈ cs)).length ≤ 26 := Nat.le_trans (List.length_filter_le _ _) (by rw [List.length_take]; exact Nat.min_le_right _ _)
        refine ⟨rfl, _, rfl, _, rfl, c, _, rfl, rfl, _, rfl, ?_⟩
        by_cases e : c ∈ cs
        · rw [tx_list, decide_eq_true e]
          refine ⟨_, rfl, _, hD, fitsLt (by rw [List.length_map]; omega), Same.put s1 nD, ?_⟩
          rw [upd_same, filter_snoc hc, if_pos (decide_eq_true e), List.map_append]
          rfl
        · rw [tx_list, decide_eq_false e]
          refine ⟨s1, ?_⟩
          rw [hD, filter_snoc hc, if_neg (by rw [decide_eq_false e]; exact Bool.false_ne_true), List.append_nil]
      · rintro H1 ⟨s1, hD⟩
        have e26 : (Str.ofString "abcdefghijklmnopqrstuvwxyz").cps.size = 26 := by decide +kernel
        have ev : (lett.take 26).filter (fun c => decide (c ∈ cs)) = vset cs := rfl
        rw [e26, ev] at hD
        have hfl : (vset cs).length ≤ 26 := List.length_filter_le _ _
        refine ⟨_, D, (vset cs).map fun c => (⟨#[c]⟩ : Str), rfl, rfl, .inl (SqL.of (by rw [← sgs_map]; exact hD)), sgs_room (by omega), rfl, ?_⟩
        rw [join_signs]
        exact q H1 s1
    · exact ⟨_, rfl, _, _, .type t, .type "str", false, rfl, .ty "str", ty, kit_ty hk, false, rfl, q H (Same.refl H)⟩
end
end Mo


namespace Mo
open PySem PySem.Spec PyProof.Rows L2
section
variable {P : Program} {w : World} {K : PySem.W.Frag} {mg : Str → Option Value} {base : Heap}
def spCheckV0 : Sp := fun vs H Q _ => ∃ ls : List Nat, vs = [.str (tx ls)] ∧ ls = vset ls ∧ ∀ H', Same H H' → Q .non H'
theorem ok_checkV0 {k : Nat} (T : Txt K mg) : FnOk P w K mg base CX0 (k + 2) T.aCheckVariableSet T.dCheckVariableSet ["value"] spCheckV0 := by
  have GIsVariableSet : FnOk P w K mg base CX0 (k + 1) T.aIsVariableSet T.dIsVariableSet ["value"] (spIsVS K) := ok_isVS T
  refine T.fCheckVariableSet.ok scCheckVariableSet (fun vs H Q E h => ?_) (fun cdv A outer s H vs Q E hr h => ?_)
  · obtain ⟨_, rfl, _⟩ := h
    rfl
  · obtain ⟨ls, rfl, hv, q⟩ := h
    refine ⟨_, (pss_one (ps_if (pt_not (pt_val (pe_call GIsVariableSet hr (by rfl) T.gIsVariableSet T.fIsVariableSet.kp T.bIsVariableSet .nil pass0 (pa_cons (pv 0) pa_nil)))) (pss_one ps_never) pss_nil)), ?_⟩
    refine ⟨_, rfl, _, rfl, .inl ⟨ls, rfl, fun H1 s1 => ?_⟩⟩
    rw [← hv]
    exact ⟨true, congrArg V.bl (decide_eq_true rfl), iteF (q H1 s1)⟩
/-- delete(pattern, letters) of a variable set -/
def spDel0 : Sp := fun vs H Q _ => ∃ cs ls : List Nat, vs = [.str (tx cs), .str (tx ls)] ∧ Pat cs ∧ ls = vset ls ∧ ∀ H', Same H H' → Q (.str (tx (wo cs ls))) H'
theorem ok_del0 {k : Nat} (T : Txt K mg) : FnOk P w K mg base CX0 (k + 3) T.aDelete T.dDelete ["pattern", "letters"] spDel0 := by
  have GCheckPattern : FnOk P w K mg base CX0 (k + 2) T.aCheckPattern T.dCheckPattern ["value"] spCheck := ok_check T
  have GCheckVariableSet : FnOk P w K mg base CX0 (k + 2) T.aCheckVariableSet T.dCheckVariableSet ["value"] spCheckV0 := ok_checkV0 T
  refine T.fDelete.ok scDelete (fun vs H Q E h => ?_) (fun cdv A outer s H vs Q E hr h => ?_)
  · obtain ⟨_, _, rfl, _⟩ := h
    rfl
  · obtain ⟨cs, ls, rfl, pat, hv, q⟩ := h
    have hlen := pat.len
    refine ⟨_, (pss_cons (ps_expr (pe_call GCheckPattern hr (by rfl) T.gCheckPattern T.fCheckPattern.kp T.bCheckPattern .nil pass0 (pa_cons (pv 0) pa_nil)))
      (pss_cons (ps_expr (pe_call GCheckVariableSet hr (by rfl) T.gCheckVariableSet T.fCheckVariableSet.kp T.bCheckVariableSet .nil pass0 (pa_cons (pv 1) pa_nil)))
      (pss_one (ps_ret (pe_join pe_str (pe_lc (own := [("name", 2)]) (g := gName 2) rfl scDelete.nd (pi_str (pv 0)) (blkOk_by (N := ["pattern", "letters", "name"]) (sc := defScope sDelete) (by decide +kernel)) (fun _ _ _ _ _ => pg_name (i := 2) scDelete.nd rfl (Or.inl rfl)) (fun _ _ _ _ _ => pts_one (pt_cmpR op_notIn_sign (pv 2) (pv 1) rfl)) (fun _ _ _ _ _ => (pv 2)))))))), ?_⟩
    refine ⟨_, rfl, cs, rfl, pat, fun H1 s1 => ⟨_, rfl, ls, rfl, hv, fun H2 s2 => ?_⟩⟩
    refine ⟨⟨_, rfl⟩, _, rfl, tx cs, rfl, fun D nD => lc_it walk_str (fun i H' => Same H2 H' ∧ H' D = some (.lst (((cs.take i).filter fun c => !decide (c ∈ ls)).map sg))) ?_ ?_ ?_ ?_⟩
    · exact ⟨same_new nD, upd_same⟩
    · exact fun _ _ _ _ => trivial
    · rintro i x H3 H4 hi ⟨s3, hD⟩ ⟨rfl, c, hc, rfl⟩
      rw [tx_get] at hc
      have hlt : i < cs.length := (List.getElem?_eq_some_iff.mp hc).1
      have hfl : ((cs.take i).filter fun c => !decide (c ∈ ls)).length ≤ 40 := Nat.le_trans (List.length_filter_le _ _) (by rw [List.length_take]; omega)
      refine ⟨rfl, _, rfl, _, rfl, c, _, rfl, rfl, _, rfl, ?_⟩
      rw [tx_list]
      refine ite2 (fun e => ?_) (fun e => ?_)
      · refine ⟨_, rfl, _, hD, fitsLt (by rw [List.length_map]; omega), Same.put s3 nD, ?_⟩
        rw [upd_same, filter_snoc hc, if_pos e, List.map_append]
        rfl
      · refine ⟨s3, ?_⟩
        rw [hD, filter_snoc hc, if_neg e, List.append_nil]
    · rintro H3 ⟨s3, hD⟩
      rw [List.take_of_length_le (by rw [tx_size]; exact Nat.le_refl _)] at hD
      have hfl : (wo cs ls).length ≤ 40 := Nat.le_trans (List.length_filter_le _ _) hlen
      refine ⟨_, D, (wo cs ls).map fun c => (⟨#[c]⟩ : Str), rfl, rfl, .inl (SqL.of (by rw [← sgs_map]; exact hD)), sgs_room (by omega), ?_⟩
      rw [join_signs]
      exact q H3 ((s1.trans s2).trans s3)
end
end Mo

namespace Mo
open PySem PySem.Spec PyProof.Rows L2
/-- the ways as a dict, at W; the lists of steps at as -/
def waysD (as : List Addr) (Z : Wz) : List (List Nat × V) := List.zipWith (fun a z => (z.1, V.ref a)) as Z
structure WaysAt (H : Hp) (W : Addr) (as : List Addr) (Z : Wz) : Prop where
  len : as.length = Z.length
  dict : H W = some (.dK (dk (waysD as Z)))
  el : ∀ (k : Nat) (a : Addr) (z : List Nat × List (List Nat)), as[k]? = some a → Z[k]? = some z → H a = some (.lst (tzs z.2))
theorem ways_keys {as : List Addr} {Z : Wz} (h : as.length = Z.length) : (waysD as Z).map (·.1) = keysZ Z := by
  unfold waysD keysZ
  induction as generalizing Z with
  | nil =>
    cases Z with
    | nil => rfl
    | cons z Z => cases h
  | cons a as ih =>
    cases Z with
    | nil => cases h
    | cons z Z =>
      rw [List.zipWith_cons_cons, List.map_cons, List.map_cons, ih (by simpa using h)]
theorem ways_get {as : List Addr} {Z : Wz} {k : Nat} {a : Addr} {z : List Nat × List (List Nat)} (h1 : as[k]? = some a) (h2 : Z[k]? = some z) : (waysD as Z)[k]? = some (z.1, V.ref a) := by
  unfold waysD
  rw [List.getElem?_zipWith, h1, h2]
theorem ways_add {as : List Addr} {Z : Wz} {a : Addr} {z : List Nat × List (List Nat)} (h : as.length = Z.length) : waysD (as ++ [a]) (Z ++ [z]) = waysD as Z ++ [(z.1, V.ref a)] := by
  unfold waysD
  rw [List.zipWith_append h]
  rfl
theorem ways_len {as : List Addr} {Z : Wz} (h : as.length = Z.length) : (waysD as Z).length = Z.length := by
  unfold waysD
  rw [List.length_zipWith, h, Nat.min_self]
theorem WaysAt.same {H H' : Hp} {W : Addr} {as : List Addr} {Z : Wz} (h : WaysAt H W as Z) (s : Same H H') : WaysAt H' W as Z := ⟨h.len, s _ _ h.dict, fun k a z e1 e2 => s _ _ (h.el k a z e1 e2)⟩
theorem WaysAt.list {H H' : Hp} {W Q : Addr} {as : List Addr} {Z : Wz} {xs : List V} (h : WaysAt H W as Z) (hQ : H Q = some (.lst xs)) (nQ : Q ∉ as) (s : But Q H H') : WaysAt H' W as Z :=
  ⟨h.len, s _ _ (ne_of h.dict hQ (by intro z; cases z)) h.dict, fun k a z e1 e2 => s _ _ (fun e => nQ (e ▸ List.mem_of_getElem? e1)) (h.el k a z e1 e2)⟩
/-- how far shortest_ways has come -/
structure SitW (H H' : Hp) (cs : List Nat) (W Qq : Addr) (as : List Addr) (Z : Wz) (i : Nat) : Prop where
  s : Same H H'
  wa : WaysAt H' W as Z
  hq : H' Qq = some (.lst (tzs (keysZ Z)))
  nq : Qq ∉ as
  na : ∀ a ∈ as, H a = none
  wy : Way cs Z i
  il : i ≤ Z.length
theorem SitW.same {H H' H'' : Hp} {cs : List Nat} {W Qq : Addr} {as : List Addr} {Z : Wz} {i : Nat} (h : SitW H H' cs W Qq as Z i) (s : Same H' H'') : SitW H H'' cs W Qq as Z i :=
  ⟨h.s.trans s, h.wa.same s, s _ _ h.hq, h.nq, h.na, h.wy, h.il⟩
section
variable {P : Program} {w : World} {K : PySem.W.Frag} {mg : Str → Option Value} {base : Heap}
/-- shortest_ways(whole, free_sets, delete) -/
def spWays (f1 f2 : Addr) : Sp := fun vs H Q _ => ∃ cs : List Nat, vs = [.str (tx cs), .ref f1, .ref f2] ∧ Pat cs ∧
  ∀ H' W as Z n, Same H H' → H W = none → (∀ a ∈ as, H a = none) → WaysAt H' W as Z → Z = runZ cs n → Z.length ≤ n → Way cs Z Z.length → Q (.ref W) H'
theorem ok_ways {k : Nat} (T : Txt K mg) : FnOk P w K mg base CX0 (k + 6) T.aShortestWays T.dShortestWays ["whole", "list_free", "remove"] (spWays T.aFreeSets T.aDelete) := by
  have GFreeSets : FnOk P w K mg base CX0 (k + 5) T.aFreeSets T.dFreeSets ["pattern"] spFreeSets := ok_fsets T
  have GDelete : FnOk P w K mg base CX0 (k + 5) T.aDelete T.dDelete ["pattern", "letters"] spDel0 := ok_del0 T
  refine T.fShortestWays.ok scShortestWays (fun vs H Q E h => ?_) (fun cdv A outer s H vs Q E hr h => ?_)
  · obtain ⟨_, rfl, _⟩ := h
    rfl
  · obtain ⟨cs, rfl, pat, q⟩ := h
    refine ⟨_, (pss_cons (ps_set (i := 3) scShortestWays.nd rfl (Or.inl rfl) (pe_disp (pps_cons (pv 0) (pe_lst pa_nil) pps_nil) (by rfl) (by rfl) (fun z => by cases z) (by decide)))
      (pss_cons (ps_set (i := 4) scShortestWays.nd rfl (Or.inl rfl) (pe_lst (pa_cons (pv 0) pa_nil)))
      (pss_cons (ps_set (i := 5) scShortestWays.nd rfl (Or.inl rfl) pe_int)
      (pss_cons (ps_while PassesOwn.never (pt_cmpR op_lt (pv 5) (pe_callB call_len_seq (by rfl) T.m_len PySem.boot_len (pa_cons (pv 4) pa_nil)) (nomark _)) (pss_cons (ps_set (i := 6) scShortestWays.nd rfl (Or.inl rfl) (pe_ix ix_list (pv 4) (pv 5) (fun _ _ => rfl)))
      (pss_cons (ps_aug (i := 5) scShortestWays.nd rfl (Or.inl rfl) pe_int ip_add)
      (pss_one (ps_for PassesOwn.never rfl (pi_list (Mo.pe_callLS (i := 1) (f := T.aFreeSets) (E := fun _ => E0) GFreeSets hr rfl (Or.inl rfl) T.fFreeSets.kp T.bFreeSets (fun _ _ _ _ _ _ _ h => h.elim) (pa_cons (pv 6) pa_nil))) (pg_name (i := 7) scShortestWays.nd rfl (Or.inl rfl)) (pss_cons (ps_set (i := 8) scShortestWays.nd rfl (Or.inl rfl) (Mo.pe_callLS (i := 2) (f := T.aDelete) (E := fun _ => E0) GDelete hr rfl (Or.inl rfl) T.fDelete.kp T.bDelete (fun _ _ _ _ _ _ _ h => h.elim) (pa_cons (pv 6) (pa_cons (pv 7) pa_nil))))
      (pss_one (ps_if (pt_cmp (pc_dnotin (Mo.room1 hr) (pv 8) (pv 3))) (pss_cons (ps_dput (Mo.room1 hr) (pv 3) (pv 8) (pe_op op_cat (pe_dget (Mo.room1 hr) (pv 3) (pv 6) (fun _ _ => rfl)) (pe_lst (pa_cons (pv 7) pa_nil))) rfl)
      (pss_one (ps_expr (pe_bm PySem.F.plainAttrs_list PySem.F.slot_list_append PySem.F.type_list_append mt_append (pv 4) (pa_cons (pv 8) pa_nil))))) pss_nil))))))))
      (pss_one (ps_ret (pv 3))))))), ?_⟩
    have l40 := pat.len
    intro W nW
    have sW := same_new (o := .dK []) nW
    refine ⟨_, rfl, by show 0 ≤ sizeLine; decide, fun a0 na0 => ⟨?_, [(Sum.inr (tx cs), .ref a0)], rfl, by show 1 ≤ 15; decide, ?_⟩⟩
    · rw [upd_ne (ne_of_none upd_same na0)]
      exact upd_same
    have sa := same_new (o := .lst []) na0
    have na00 : H a0 = none := sW.free na0
    have eW : mergeK [] [((Sum.inr (tx cs) : Key), V.ref a0)] = dk (waysD [a0] [(cs, [])]) := by
      show putK [] (Sum.inr (tx cs) : Key) (V.ref a0) = _
      rfl
    rw [eW]
    have neW : a0 ≠ W := (ne_of_none upd_same na0).symm
    have hW1 : upd (upd (upd H W (.dK [])) a0 (.lst [])) W (.dK (dk (waysD [a0] [(cs, [])]))) W = some (.dK (dk (waysD [a0] [(cs, [])]))) := upd_same
    have ha1 : upd (upd (upd H W (.dK [])) a0 (.lst [])) W (.dK (dk (waysD [a0] [(cs, [])]))) a0 = some (.lst []) := by rw [upd_ne neW, upd_same]
    have s1 : Same H (upd (upd (upd H W (.dK [])) a0 (.lst [])) W (.dK (dk (waysD [a0] [(cs, [])])))) := Same.put (sW.trans sa) nW
    generalize upd (upd (upd H W (.dK [])) a0 (.lst [])) W (.dK (dk (waysD [a0] [(cs, [])]))) = H1 at *
    refine ⟨_, rfl, by show 1 ≤ sizeLine; decide, fun Qq nQ => ?_⟩
    have sQ := same_new (o := .lst [V.str (tx cs)]) nQ
    have nQ0 : H Qq = none := s1.free nQ
    have neQW : Qq ≠ W := (ne_of_none hW1 nQ).symm
    have neQa : Qq ≠ a0 := (ne_of_none ha1 nQ).symm
    refine ⟨fun m σ H' => ∃ (i : Nat) (as : List Addr) (Z : Wz) (o6 o7 o8 : Option V), σ = [some (.str (tx cs)), some (.ref T.aFreeSets), some (.ref T.aDelete), some (.ref W), some (.ref Qq), some (.int (i : Int)), o6, o7, o8] ∧ SitW H H' cs W Qq as Z i ∧ Z = runZ cs i ∧ m + i = 257, ⟨257, 0, [a0], [(cs, [])], _, _, _, rfl, ⟨s1.trans sQ, ⟨rfl, sQ _ _ hW1, fun k a z e1 e2 => ?_⟩, upd_same, fun h => neQa (List.mem_singleton.mp h), fun a h => by rw [List.mem_singleton.mp h]; exact na00, .one, Nat.zero_le _⟩, rfl, rfl⟩, ?_⟩
    · cases k with
      | zero =>
        obtain rfl : a0 = a := by simpa using e1
        obtain rfl : (cs, []) = z := by simpa using e2
        exact sQ _ _ ha1
      | succ k => simp at e1
    rintro m σ H2 ⟨i, as, Z, o6, o7, o8, rfl, st, eZ, hm⟩
    have few := st.wy.few pat
    have kl : (tzs (keysZ Z)).length = Z.length := by rw [tzs_len]; exact List.length_map ..
    refine ⟨_, rfl, _, rfl, Qq, _, rfl, .inl (SqL.of st.hq), _, _, rfl, rfl, _, rfl, ?_⟩
    rw [kl]
    refine ite2 (fun cc => ?_) (fun cc => ?_)
    · have ilt : i < Z.length := by
        have := of_decide_eq_true cc
        omega
      obtain ⟨z, hz⟩ : ∃ z, Z[i]? = some z := ⟨_, List.getElem?_eq_getElem ilt⟩
      obtain ⟨p, w⟩ := z
      have zm := List.mem_of_getElem? hz
      have sp := st.wy.ok _ zm
      have patp : Pat p := by
        rw [show p = wo cs w.flatten from sp.gone]
        exact wo_pat pat
      refine ⟨fun σ' H' => ∃ (as : List Addr) (Z : Wz) (o6 o7 o8 : Option V), σ' = [some (.str (tx cs)), some (.ref T.aFreeSets), some (.ref T.aDelete), some (.ref W), some (.ref Qq), some (.int ((i + 1 : Nat) : Int)), o6, o7, o8] ∧ SitW H H' cs W Qq as Z (i + 1) ∧ Z = runZ cs (i + 1), fun σ' H' => ?_, ?_⟩
      · rintro ⟨as, Z, o6, o7, o8, hσ, st', eZ'⟩
        have := st'.wy.few pat
        have := st'.il
        exact ⟨257 - (i + 1), by omega, i + 1, as, Z, o6, o7, o8, hσ, st', eZ', by omega⟩
      refine ⟨_, rfl, _, rfl, Qq, _, (i : Int), .str (tx p), rfl, rfl, SqL.of st.hq, atI_nat ?_, ?_⟩
      · unfold tzs keysZ
        rw [List.getElem?_map, List.getElem?_map, hz]
        rfl
      refine ⟨_, rfl, ⟨(i : Int), 1, rfl, rfl, ?_⟩⟩
      refine ⟨rfl, _, rfl, p, rfl, patp, fun H3 l fs s3 nl hl fset flen => ⟨l, rfl, ⟨_, SqL.of hl⟩, for_it (walk_list (xs := tzs fs)) (fun j σ H' => ∃ (as : List Addr) (Z' : Wz) (o7 o8 : Option V), σ = [some (.str (tx cs)), some (.ref T.aFreeSets), some (.ref T.aDelete), some (.ref W), some (.ref Qq), some (.int ((i + 1 : Nat) : Int)), some (.str (tx p)), o7, o8] ∧ SitW H H' cs W Qq as Z' i ∧ Z' = (fs.take j).foldl (growZ p w) Z ∧ Z'[i]? = some (p, w) ∧ (∀ ls ∈ fs.take j, wo p ls ∈ keysZ Z') ∧ H' l = some (.lst (tzs fs))) ?_ ?_ ?_ ?_⟩⟩
      · exact ⟨as, Z, _, _, rfl, st.same s3, rfl, hz, fun ls h => absurd h (by simp), hl⟩
      · rintro j σ H' _ ⟨_, _, _, _, _, _, _, _, _, h⟩
        exact SqL.of h
      · rintro j x σ H4 H4' hj ⟨as, Z', o7, o8, rfl, st4, eZ4, hz4, keys4, hl4⟩ ⟨rfl, hx⟩
        obtain ⟨ls, hls, rfl⟩ := tzs_get hx
        obtain ⟨m1, m2, m3, m4⟩ := (fset.mem ls).mp (List.mem_of_getElem? hls)
        have hv : ls = vset ls := vset_of_asc m2 fun c hc => patp.low c (m3 c hc)
        have zm4 := List.mem_of_getElem? hz4
        have wy2 := st4.wy.grow zm4 m1 m2 m3 m4 st4.il
        have eT : (fs.take (j + 1)).foldl (growZ p w) Z = growZ p w Z' ls := by rw [take_next hls, List.foldl_append, ← eZ4]; rfl
        have allk : ∀ l' ∈ fs.take (j + 1), wo p l' ∈ keysZ (growZ p w Z' ls) := fun l' hl' => by
          rw [take_next hls] at hl'
          rcases List.mem_append.mp hl' with y | y
          · exact grow_keys _ (keys4 l' y)
          · rw [List.mem_singleton.mp y]
            exact grow_new
        refine ⟨rfl, _, rfl, _, rfl, p, ls, rfl, patp, hv, fun H5 s5 => ?_⟩
        have st5 := st4.same s5
        have hl5 := s5 _ _ hl4
        have wk : (waysD as Z').map (·.1) = keysZ Z' := ways_keys st5.wa.len
        by_cases g : wo p ls ∈ keysZ Z'
        · have eg : growZ p w Z' ls = Z' := if_pos g
          obtain ⟨k2, hk2⟩ := List.getElem?_of_mem (show wo p ls ∈ (waysD as Z').map (·.1) by rw [wk]; exact g)
          rw [List.getElem?_map] at hk2
          obtain ⟨⟨q0, v0⟩, hq0, hq1⟩ := Option.map_eq_some_iff.mp hk2
          have hq1 : q0 = wo p ls := hq1
          subst hq1
          have hv0 := dk_some (by rw [wk]; exact st5.wy.nd) hq0
          refine ⟨_, rfl, _, rfl, W, some v0, rfl, by rw [← hv0]; exact dget_t st5.wa.dict, false, rfl, iteF ?_⟩
          exact ⟨as, Z', _, _, rfl, st5, by rw [eT, eg], hz4, by rw [← eg]; exact allk, hl5⟩
        · have eg : growZ p w Z' ls = Z' ++ [(wo p ls, w ++ [ls])] := if_neg g
          have hn := dk_none (D := waysD as Z') (p := wo p ls) (by rw [wk]; exact g)
          refine ⟨_, rfl, _, rfl, W, none, rfl, by rw [← hn]; exact dget_t st5.wa.dict, true, rfl, iteT ?_⟩
          have few4 := st5.wy.few pat
          have il := st5.il
          have wl := st5.wa.len
          obtain ⟨ai, hai⟩ : ∃ a, as[i]? = some a := ⟨_, List.getElem?_eq_getElem (by have := (List.getElem?_eq_some_iff.mp hz4).1; omega)⟩
          have hA := st5.wa.el i ai (p, w) hai hz4
          have hget := dk_some (by rw [wk]; exact st5.wy.nd) (ways_get hai hz4)
          have stp := st5.wy.ok _ zm4
          have wlen : w.length ≤ (met cs).length := stp.len
          have p8 := pat.few
          refine ⟨_, rfl, _, rfl, W, .ref ai, rfl, by rw [← hget]; exact dget_t st5.wa.dict, _, rfl, by show 1 ≤ sizeLine; decide, fun E0 nE => ?_⟩
          have sE := same_new (o := .lst [V.str (tx ls)]) nE
          refine ⟨ai, E0, _, _, rfl, rfl, sE _ _ hA, upd_same, fits5 (by rw [tzs_len]; show w.length + 1 ≤ _; omega), fun r nr => ?_⟩
          have sr := same_new (o := .lst (tzs w ++ [V.str (tx ls)])) nr
          have st6 := (st5.same sE).same sr
          have hl6 := sr _ _ (sE _ _ hl5)
          have hr6 : upd (upd H5 E0 (.lst [V.str (tx ls)])) r (.lst (tzs w ++ [V.str (tx ls)])) r = some (.lst (tzs (w ++ [ls]))) := by
            rw [upd_same, ← tzs_app]
            rfl
          have nr0 : H r = none := (st5.s.trans sE).free nr
          have nrW : r ≠ W := (ne_of_none ((st5.same sE).wa.dict) nr).symm
          have nrQ : r ≠ Qq := (ne_of_none ((st5.same sE).hq) nr).symm
          have nrl : r ≠ l := (ne_of_none (sE _ _ hl5) nr).symm
          have nlW : l ≠ W := fun e => by
            have := st6.wa.dict
            rw [← e, hl6] at this
            cases this
          have nlQ : l ≠ Qq := fun e => by
            rw [e] at nl
            exact absurd st.hq (by rw [nl]; intro z; cases z)
          generalize upd (upd H5 E0 (.lst [V.str (tx ls)])) r (.lst (tzs w ++ [V.str (tx ls)])) = H6 at *
          refine ⟨_, rfl, _, rfl, W, _, rfl, .inl ⟨_, Sum.inr (tx (wo p ls)), st6.wa.dict, rfl, fitsLt (by rw [dk_len, ways_len wl]; omega), rfl⟩, ?_⟩
          rw [dk_put (D := waysD as Z') (p := wo p ls) (by rw [wk]; exact g), ← ways_add (z := (wo p ls, w ++ [ls])) wl]
          have hQ7 : upd H6 W (.dK (dk (waysD (as ++ [r]) (Z' ++ [(wo p ls, w ++ [ls])])))) Qq = some (.lst (tzs (keysZ Z'))) := by
            rw [upd_ne neQW]
            exact st6.hq
          refine ⟨_, rfl, .inl ⟨rfl, _, SqL.of hQ7⟩, _, rfl, Qq, _, _, rfl, rfl, hQ7, fitsLt (by rw [tzs_len]; unfold keysZ; rw [List.length_map]; omega), ?_⟩
          rw [eg] at wy2 allk
          refine ⟨as ++ [r], Z' ++ [(wo p ls, w ++ [ls])], _, _, rfl, ⟨?_, ⟨?_, ?_, ?_⟩, ?_, ?_, ?_, wy2, ?_⟩, by rw [eT, eg], ?_, allk, ?_⟩
          · exact Same.put (Same.put st6.s nW) nQ0
          · rw [List.length_append, List.length_append, wl]
            rfl
          · rw [upd_ne neQW.symm]
            exact upd_same
          · intro k a z e1 e2
            have key : ∀ b o, b ≠ W → b ≠ Qq → H6 b = some o → upd (upd H6 W (.dK (dk (waysD (as ++ [r]) (Z' ++ [(wo p ls, w ++ [ls])]))))) Qq (.lst (tzs (keysZ Z') ++ [V.str (tx (wo p ls))])) b = some o := fun b o n1 n2 e => by
              rw [upd_ne n2, upd_ne n1]
              exact e
            by_cases lt : k < as.length
            · rw [List.getElem?_append_left lt] at e1
              rw [List.getElem?_append_left (by omega)] at e2
              have := st6.wa.el k a z e1 e2
              exact key a _ (ne_of this st6.wa.dict (by intro z; cases z)) (fun e => st6.nq (e ▸ List.mem_of_getElem? e1)) this
            · rw [List.getElem?_append_right (by omega)] at e1
              rw [List.getElem?_append_right (by omega), ← wl] at e2
              have k0 : k - as.length = 0 := by
                have := (List.getElem?_eq_some_iff.mp e1).1
                rw [List.length_singleton] at this
                omega
              rw [k0] at e1 e2
              obtain rfl : r = a := by simpa using e1
              obtain rfl : (wo p ls, w ++ [ls]) = z := by simpa using e2
              exact key r _ nrW nrQ hr6
          · rw [upd_same]
            unfold keysZ
            rw [List.map_append, ← tzs_app]
            rfl
          · intro h
            rcases List.mem_append.mp h with h | h
            · exact st6.nq h
            · exact nrQ (List.mem_singleton.mp h).symm
          · intro a h
            rcases List.mem_append.mp h with h | h
            · exact st6.na a h
            · rw [List.mem_singleton.mp h]
              exact nr0
          · rw [List.length_append]
            omega
          · rw [List.getElem?_append_left (List.getElem?_eq_some_iff.mp hz4).1]
            exact hz4
          · rw [upd_ne nlQ, upd_ne nlW]
            exact hl6
      · rintro σ H4 ⟨as, Z', o7, o8, rfl, st4, eZ4, hz4, keys4, hl4⟩
        rw [tzs_len, List.take_length] at eZ4 keys4
        have eF := Fs_eq fset
        have eR : Z' = runZ cs (i + 1) := by
          show _ = stepZ (runZ cs i) i
          unfold stepZ
          rw [← eZ, hz]
          show _ = (Fs p).foldl (growZ p w) Z
          rw [eF, eZ4]
        refine ⟨as, Z', _, _, _, rfl, ⟨st4.s, st4.wa, st4.hq, st4.nq, st4.na, ⟨st4.wy.nd, st4.wy.ok, fun k z hk hz5 => ?_, st4.wy.st⟩, ?_⟩, eR⟩
        · by_cases e : k = i
          · subst e
            obtain rfl : (p, w) = z := Option.some.inj (hz4.symm.trans hz5)
            exact ⟨Fs_of fset, fun ls h => keys4 ls (by rw [← eF]; exact h)⟩
          · exact st4.wy.dn k z (by omega) hz5
        · have := (List.getElem?_eq_some_iff.mp hz4).1
          omega
    · have il := st.il
      have ie : i = Z.length := by
        have := of_decide_eq_false (show decide ((i : Int) < (Z.length : Int)) = false by simpa using cc)
        omega
      refine ⟨_, rfl, ?_⟩
      exact q H2 W as Z i st.s nW st.na st.wa eZ (by omega) (by rw [← ie]; exact st.wy)
end
end Mo

namespace Mo
open PySem PySem.Spec PyProof.Rows L2
/-- the search's end: every pattern that is reached, with the steps that lead to it -/
structure Ends16 (cs : List Nat) (Z : Wz) : Prop where
  run : ∃ n, Z = runZ cs n ∧ Z.length ≤ n
  way : Way cs Z Z.length
theorem Ends16.eq {cs : List Nat} {Z Y : Wz} (h : Ends16 cs Z) (k : Ends16 cs Y) : Z = Y := by
  obtain ⟨n, e, l⟩ := h.run
  obtain ⟨m, f, j⟩ := k.run
  rw [e, f]
  exact runZ_eq (by rw [← e]; exact l) (by rw [← f]; exact j)
section
variable {P : Program} {w : World} {K : PySem.W.Frag} {mg : Str → Option Value} {base : Heap}
/-- chain: the steps to the empty pattern in a new list, or None -/
def spChain : Sp := fun vs H Q _ => ∃ cs : List Nat, vs = [.str (tx cs)] ∧ Pat cs ∧
  ∀ (H' : Hp) (Z : Wz), Same H H' → Ends16 cs Z → ([] ∉ keysZ Z → Q .non H') ∧ (∀ (a : Addr) (k : Nat) (st : List (List Nat)), Z[k]? = some ([], st) → H a = none → H' a = some (.lst (tzs st)) → Q (.ref a) H')
theorem ok_chain {k : Nat} (T : Txt K mg) : FnOk P w K mg base CX0 (k + 7) T.aChain T.dChain ["pattern"] spChain := by
  have GCheckPattern : FnOk P w K mg base CX0 (k + 6) T.aCheckPattern T.dCheckPattern ["value"] spCheck := ok_check T
  have GShortestWays : FnOk P w K mg base CX0 (k + 6) T.aShortestWays T.dShortestWays ["whole", "list_free", "remove"] (spWays T.aFreeSets T.aDelete) := ok_ways T
  refine T.fChain.ok scChain (fun vs H Q E h => ?_) (fun cdv A outer s H vs Q E hr h => ?_)
  · obtain ⟨_, rfl, _⟩ := h
    rfl
  · obtain ⟨cs, rfl, pat, q⟩ := h
    refine ⟨_, (pss_cons (ps_expr (pe_call GCheckPattern hr (by rfl) T.gCheckPattern T.fCheckPattern.kp T.bCheckPattern .nil pass0 (pa_cons (pv 0) pa_nil)))
      (pss_one (ps_ret (pe_dget1 (Mo.room1 hr) (pe_call GShortestWays hr (by rfl) T.gShortestWays T.fShortestWays.kp T.bShortestWays .nil pass0 (pa_cons (pv 0) (pa_cons (pe_glob (v := .ref T.aFreeSets) rfl T.gFreeSets rfl) (pa_cons (pe_glob (v := .ref T.aDelete) rfl T.gDelete rfl) pa_nil)))) pe_str ⟨rfl, rfl, rfl, rfl⟩)))), ?_⟩
    refine ⟨_, rfl, cs, rfl, pat, fun H1 s1 => ?_⟩
    refine ⟨_, rfl, cs, rfl, pat, fun H2 W as Z n s2 nW na wa eZ zn wy => ⟨W, rfl, .inl ⟨_, .inl wa.dict⟩, ?_⟩⟩
    have s12 := s1.trans s2
    have wk : (waysD as Z).map (·.1) = keysZ Z := ways_keys wa.len
    obtain ⟨q1, q2⟩ := q H2 Z s12 ⟨⟨n, eZ, zn⟩, wy⟩
    have st0 : V.str (Str.ofString "") = V.str (tx []) := congrArg V.str tx_nil
    by_cases g : [] ∈ keysZ Z
    · obtain ⟨k2, hk2⟩ := List.getElem?_of_mem g
      unfold keysZ at hk2
      rw [List.getElem?_map] at hk2
      obtain ⟨⟨p0, st⟩, hz, hp0⟩ := Option.map_eq_some_iff.mp hk2
      have hp0 : p0 = [] := hp0
      subst hp0
      obtain ⟨a, ha⟩ : ∃ a, as[k2]? = some a := ⟨_, List.getElem?_eq_getElem (by have := (List.getElem?_eq_some_iff.mp hz).1; have := wa.len; omega)⟩
      have hget := dk_some (by rw [wk]; exact wy.nd) (ways_get ha hz)
      refine ⟨some (.ref a), ?_, q2 a k2 st hz (s1.free (na a (List.mem_of_getElem? ha))) (wa.el k2 a _ ha hz)⟩
      rw [st0, ← hget]
      exact dget_t wa.dict
    · have hn := dk_none (D := waysD as Z) (p := []) (by rw [wk]; exact g)
      refine ⟨none, ?_, q1 g⟩
      rw [st0, ← hn]
      exact dget_t wa.dict
/-- is_avoidable -/
def spAvoid : Sp := fun vs H Q _ => ∃ cs : List Nat, vs = [.str (tx cs)] ∧ Pat cs ∧ ∀ H' Z, Same H H' → Ends16 cs Z → Q (.bl (decide ([] ∉ keysZ Z))) H'
theorem ok_avoid {k : Nat} (T : Txt K mg) : FnOk P w K mg base CX0 (k + 8) T.aIsAvoidable T.dIsAvoidable ["pattern"] spAvoid := by
  have GChain : FnOk P w K mg base CX0 (k + 7) T.aChain T.dChain ["pattern"] spChain := ok_chain T
  refine T.fIsAvoidable.ok scIsAvoidable (fun vs H Q E h => ?_) (fun cdv A outer s H vs Q E hr h => ?_)
  · obtain ⟨_, rfl, _⟩ := h
    rfl
  · obtain ⟨cs, rfl, pat, q⟩ := h
    refine ⟨_, (pss_one (ps_ret (pe_cmpR op_isN (pe_call GChain hr (by rfl) T.gChain T.fChain.kp T.bChain .nil pass0 (pa_cons (pv 0) pa_nil)) pe_non (nomark _)))), ?_⟩
    refine ⟨_, rfl, cs, rfl, pat, fun H1 Z s1 en => ⟨fun g => ?_, fun a k st hz na ha => ?_⟩⟩
    · have z := q H1 Z s1 en
      rw [decide_eq_true g] at z
      exact ⟨rfl, z⟩
    · have z := q H1 Z s1 en
      rw [decide_eq_false (fun h => h (List.mem_map.mpr ⟨_, List.mem_of_getElem? hz, rfl⟩))] at z
      exact ⟨rfl, z⟩
end
end Mo

namespace Mo
open PySem PySem.Spec PyProof.Rows L2
section
variable {P : Program} {w : World} {K : PySem.W.Frag} {mg : Str → Option Value} {base : Heap}
theorem ok_plainX {k : Nat} (T : Txt K mg) : FnOk P w K mg base CX0 (k + 1) T.aIsPlainInteger T.dIsPlainInteger ["value"] (spAsk plainD) := by
  refine T.fIsPlainInteger.ok scIsPlainInteger (fun vs H Q E h => ?_) (fun cdv A outer s H vs Q E hr h => ?_)
  · obtain ⟨_, _, _, rfl, _⟩ := h
    rfl
  · obtain ⟨N, x, d, rfl, hd, _, q⟩ := h
    refine ⟨_, (pss_one (ps_ret (pe_and (pe_callB call_isi (by rfl) T.m_isinstance (by decide +kernel) (pa_cons (pv 0) (pa_cons (pe_bltn (v := .ty "int") (by rfl) T.m_int (by decide +kernel) rfl) pa_nil))) (pe_one (pe_not (pe_callB call_isi (by rfl) T.m_isinstance (by decide +kernel) (pa_cons (pv 0) (pa_cons (pe_bltn (v := .ty "bool") (by rfl) T.m_bool (by decide +kernel) rfl) pa_nil)))))))), ?_⟩
    have ty := hd.ty (K := K)
    have q0 := q H (Same.refl H)
    unfold plainD at q0
    refine ⟨_, rfl, _, _, .type (tyD d), .type "int", isIntD d, rfl, .ty "int", ty, kit_ty (kit_int d), isIntD d, rfl, ?_⟩
    cases e : isIntD d with
    | false => rw [e] at q0; exact q0
    | true =>
      rw [e] at q0
      exact ⟨_, rfl, _, _, .type (tyD d), .type "bool", isBoolD d, rfl, .ty "bool", ty, kit_ty (kit_bool d), isBoolD d, rfl, q0⟩
theorem ok_initCount {k : Nat} (T : Txt K mg) : FnOk P w K mg base CX0 (k + 1) T.iInvalidCount T.dInvalidCount ["self", "value"] (spInit T.cInvalidCount "value") := by
  refine T.fInitInvalidCount.ok scInitInvalidCount (fun vs H Q E h => ?_) (fun cdv A outer s H vs Q E hr h => ?_)
  · obtain ⟨a, y, rfl, _⟩ := h
    rfl
  · obtain ⟨a, y, rfl, ha, q⟩ := h
    refine ⟨_, pss_one (ps_ost (pv 0) (pv 1)), ?_⟩
    exact ⟨_, rfl, _, rfl, a, T.cInvalidCount, rfl, T.xInvalidCount.oex, T.xInvalidCount.no, .inl ⟨ha, fun dx nd ne => q dx nd ne⟩⟩
theorem ok_cntX {k : Nat} (T : Txt K mg) : FnOk P w K mg base (L2.CX P w) (k + 3) T.aCheckCount T.dCheckCount ["value", "least", "most"] (spCnt T.cInvalidCount) := by
  have GIsPlainInteger : FnOk P w K mg base CX0 (k + 2) T.aIsPlainInteger T.dIsPlainInteger ["value"] (spAsk plainD) := ok_plainX T
  have GInitInvalidCount : FnOk P w K mg base CX0 (k + 1) T.iInvalidCount T.dInvalidCount ["self", "value"] (spInit T.cInvalidCount "value") := ok_initCount T
  refine T.fCheckCount.okX scCheckCount (fun vs H Q E h => ?_) (fun cdv A outer s H vs Q E hr h => ?_)
  · obtain ⟨_, _, _, _, _, rfl, _⟩ := h
    rfl
  · obtain ⟨N, x, d, a, b, rfl, hd, hb, q1, q2⟩ := h
    refine ⟨_, (pss_one (ps_if (PW.pt (pw_or (pt_not (pt_val (pe_call GIsPlainInteger hr (by rfl) T.gIsPlainInteger T.fIsPlainInteger.kp T.bIsPlainInteger .nil pass0 (pa_cons (pv 0) pa_nil)))) (pw_or (pt_cmpR op_lt (pv 0) (pv 1) (nomark _)) (pw_or1 (pt_cmpR op_gt (pv 0) (pv 2) (nomark _)))))) (pss_one (ps_raise rfl (takes_of rfl rfl rfl rfl) (pmk_oex T.xInvalidCount.oex T.xInvalidCount.iC T.xInvalidCount.tI GInitInvalidCount hr T.bInitInvalidCount .nil pass0 (by rfl) T.eInvalidCount (pa_cons (pv 0) pa_nil)))) pss_nil)), ?_⟩
    have fin : cntB a b d = false → ∀ H1, Same H H1 → ∀ dd H', H1 dd = none → Same H1 H' → H' dd = some (.xd [("value", x)]) → E (.ref T.cInvalidCount) (some dd) H' := fun e H1 s1 dd H' nd s2 hd => q2 e dd H' (s1.free nd) (s1.trans s2) hd
    refine ⟨_, rfl, N, x, d, rfl, hd, hb, fun H1 s1 => ⟨plainD d, rfl, ?_⟩⟩
    cases e : plainD d with
    | false => exact iteT ⟨_, rfl, err_read (fin (cnt_no e) H1 s1)⟩
    | true =>
      obtain ⟨i, rfl, rfl⟩ := plain_int hd e
      refine iteF ⟨_, rfl, _, rfl, i, a, rfl, rfl, decide (i < a), rfl, ?_⟩
      by_cases h1 : i < a
      · rw [decide_eq_true h1]
        refine iteT ⟨_, rfl, err_read (fin ?_ H1 s1)⟩
        show (decide (a ≤ i) && decide (i ≤ b)) = false
        rw [decide_eq_false (show ¬ a ≤ i by omega)]
        rfl
      · rw [decide_eq_false h1]
        refine iteF ⟨_, rfl, _, rfl, i, b, rfl, rfl, decide (i > b), rfl, ?_⟩
        by_cases h2 : i > b
        · rw [decide_eq_true h2]
          refine iteT ⟨_, rfl, err_read (fin ?_ H1 s1)⟩
          show (decide (a ≤ i) && decide (i ≤ b)) = false
          rw [decide_eq_false (show ¬ i ≤ b by omega), Bool.and_false]
        · rw [decide_eq_false h2]
          refine iteF (q1 ?_ H1 s1)
          show (decide (a ≤ i) && decide (i ≤ b)) = true
          rw [decide_eq_true (show a ≤ i by omega), decide_eq_true (show i ≤ b by omega)]
          rfl
end
end Mo

/-! ### what is met first has the fewest steps: the first step -/
namespace Mo
open PySem PySem.Spec PyProof.Rows L2
theorem grow_pre (here : List Nat) (way : List (List Nat)) (Z : Wz) (ls : List Nat) : ∃ Y, growZ here way Z ls = Z ++ Y := by
  unfold growZ
  split
  · exact ⟨[], (List.append_nil _).symm⟩
  · exact ⟨_, rfl⟩
theorem grows_pre (here : List Nat) (way : List (List Nat)) : ∀ (fs : List (List Nat)) (Z : Wz), ∃ Y, fs.foldl (growZ here way) Z = Z ++ Y
  | [], Z => ⟨[], (List.append_nil _).symm⟩
  | l :: fs, Z => by
    obtain ⟨Y1, h1⟩ := grow_pre here way Z l
    obtain ⟨Y2, h2⟩ := grows_pre here way fs (growZ here way Z l)
    exact ⟨Y1 ++ Y2, by rw [List.foldl_cons, h2, h1, List.append_assoc]⟩
theorem stepZ_pre (Z : Wz) (i : Nat) : ∃ Y, stepZ Z i = Z ++ Y := by
  unfold stepZ
  cases Z[i]? with
  | none => exact ⟨[], (List.append_nil _).symm⟩
  | some z => exact grows_pre _ _ _ _
theorem runZ_pre (c : List Nat) (n : Nat) : ∀ k, ∃ Y, runZ c (n + k) = runZ c n ++ Y
  | 0 => ⟨[], (List.append_nil _).symm⟩
  | k + 1 => by
    obtain ⟨Y1, h1⟩ := runZ_pre c n k
    obtain ⟨Y2, h2⟩ := stepZ_pre (runZ c (n + k)) (n + k)
    exact ⟨Y1 ++ Y2, by show stepZ (runZ c (n + k)) (n + k) = _; rw [h2, h1, List.append_assoc]⟩
theorem grows_one (here : List Nat) : ∀ (fs : List (List Nat)) (Z : Wz), (∀ z ∈ Z, z = (here, []) ∨ ∃ l, z.2 = [l]) → ∀ z ∈ fs.foldl (growZ here []) Z, z = (here, []) ∨ ∃ l, z.2 = [l]
  | [], Z, h => h
  | l :: fs, Z, h => by
    rw [List.foldl_cons]
    refine grows_one here fs _ fun z hz => ?_
    unfold growZ at hz
    split at hz
    · exact h z hz
    · rcases List.mem_append.mp hz with y | y
      · exact h z y
      · rw [List.mem_singleton.mp y]
        exact .inr ⟨l, rfl⟩
theorem grows_keys (here : List Nat) (way : List (List Nat)) : ∀ (fs : List (List Nat)) (Z : Wz), (∀ p ∈ keysZ Z, p ∈ keysZ (fs.foldl (growZ here way) Z)) ∧ ∀ l ∈ fs, wo here l ∈ keysZ (fs.foldl (growZ here way) Z)
  | [], Z => ⟨fun p h => h, fun l h => absurd h (by simp)⟩
  | l :: fs, Z => by
    obtain ⟨h1, h2⟩ := grows_keys here way fs (growZ here way Z l)
    rw [List.foldl_cons]
    refine ⟨fun p hp => h1 p (grow_keys p hp), fun m hm => ?_⟩
    rcases List.mem_cons.mp hm with rfl | hm
    · exact h1 _ grow_new
    · exact h2 m hm
theorem steps_one {c p : List Nat} {w : List (List Nat)} (h : Steps c w p) : ∀ ls, w = [ls] → Free (nbr c) ls := by
  cases h with
  | nil => exact fun ls e => by cases e
  | @snoc w' p' ms hw h1 h2 h3 h4 =>
    intro ls e
    cases w' with
    | nil =>
      have e1 : ms = ls := by simpa using e
      have e2 : p' = c := by
        have := hw.gone
        rw [List.flatten_nil, wo_nil] at this
        exact this
      rw [e1, e2] at h4
      exact h4
    | cons x r => simp at e
/-- one step is enough just if all variables together are free -/
theorem one_enough {c nl : List Nat} {Z : Wz} {n k : Nat} {st : List (List Nat)} (eZ : Z = runZ c n) (zn : Z.length ≤ n) (wy : Way c Z Z.length) (hz : Z[k]? = some ([], st)) (asc : nl.Pairwise (· < ·)) (mem : ∀ x, x ∈ nl ↔ x ∈ c) : st.length = 1 ↔ (c ≠ [] ∧ Free (nbr c) nl) := by
  have stp : Steps c st [] := wy.ok _ (List.mem_of_getElem? hz)
  have z0 := (List.getElem?_eq_some_iff.mp wy.st).1
  constructor
  · intro h
    obtain ⟨ls, rfl⟩ : ∃ ls, st = [ls] := by
      match st, h with
      | [l], _ => exact ⟨l, rfl⟩
    obtain ⟨s1, s2, s3⟩ := stp.sub ls (by simp)
    have g := stp.gone
    have e : nl = ls := asc_ext _ _ asc s2 fun x => by
      rw [mem]
      refine ⟨fun hx => Classical.byContradiction fun nx => ?_, s3 x⟩
      have : x ∈ wo c [ls].flatten := mem_wo.mpr ⟨hx, by simpa using nx⟩
      rw [← g] at this
      cases this
    refine ⟨fun z => ?_, by rw [e]; exact steps_one stp ls rfl⟩
    obtain ⟨x, hx⟩ := List.exists_mem_of_ne_nil ls s1
    have := s3 x hx
    rw [z] at this
    cases this
  · rintro ⟨ne, f⟩
    have nn : nl ≠ [] := fun z => by
      obtain ⟨x, hx⟩ := List.exists_mem_of_ne_nil c ne
      have := (mem x).mpr hx
      rw [z] at this
      cases this
    obtain ⟨fsets, _⟩ := wy.dn 0 _ z0 wy.st
    have inF : nl ∈ Fs c := (fsets.mem nl).mpr ⟨nn, asc, fun x hx => (mem x).mp hx, f⟩
    have e1 : runZ c 1 = (Fs c).foldl (growZ c []) [(c, [])] := rfl
    have k1 : [] ∈ keysZ (runZ c 1) := by
      have := (grows_keys c [] (Fs c) [(c, [])]).2 nl inF
      rw [e1]
      rw [show wo c nl = [] by
        unfold wo
        rw [List.filter_eq_nil_iff]
        intro x hx
        simp [(mem x).mpr hx]] at this
      exact this
    obtain ⟨z, hzm, hz1⟩ := List.mem_map.mp k1
    have one := grows_one c (Fs c) [(c, [])] (fun z hz => .inl (List.mem_singleton.mp hz)) z (by rw [← e1]; exact hzm)
    obtain ⟨Y, hY⟩ := runZ_pre c 1 (n - 1)
    rw [show 1 + (n - 1) = n by omega, ← eZ] at hY
    have inZ : z ∈ Z := by
      rw [hY]
      exact List.mem_append_left _ hzm
    obtain ⟨j, hj⟩ := List.getElem?_of_mem inZ
    have a1 : (keysZ Z)[k]? = some [] := by
      unfold keysZ
      rw [List.getElem?_map, hz]
      rfl
    have a2 : (keysZ Z)[j]? = some [] := by
      unfold keysZ
      rw [List.getElem?_map, hj]
      exact congrArg some hz1
    have ej := (List.getElem?_inj (List.getElem?_eq_some_iff.mp a1).1 wy.nd).mp (a1.trans a2.symm)
    rw [← ej, hz] at hj
    obtain rfl := Option.some.inj hj
    rcases one with e | ⟨l, e⟩
    · exact absurd (Prod.mk.inj e).1.symm ne
    · rw [show st = [l] from e]
      rfl
end Mo

/-! ### patterns without a free set; a new dict that is walked -/
namespace Mo
open PySem PySem.Spec PyProof.Rows L2
/-- no set can be deleted -/
theorem stuck_all {cs p : List Nat} {w : List (List Nat)} (h : Steps cs w p) (no : ∀ ls, ls ≠ [] → ls.Pairwise (· < ·) → (∀ x ∈ ls, x ∈ cs) → ¬ Free (nbr cs) ls) : p = cs := by
  induction h with
  | nil => rfl
  | snoc _ h1 h2 h3 h4 ih =>
    subst ih
    exact absurd h4 (no _ h1 h2 h3)
def NoFree (cs : List Nat) : Prop := ∀ ls, ls ≠ [] → ls.Pairwise (· < ·) → (∀ x ∈ ls, x ∈ cs) → ¬ Free (nbr cs) ls
theorem noFree_sets {cs : List Nat} {es : List (Nat × Nat)} {fs : List (List Nat)} (h : FSets es cs fs) (e : ∀ e, e ∈ es ↔ e ∈ nbr cs) : (tzs fs).isEmpty = true ↔ NoFree cs := by
  rw [List.isEmpty_iff]
  unfold tzs
  rw [List.map_eq_nil_iff]
  constructor
  · intro z ls h1 h2 h3 h4
    have := (h.mem ls).mpr ⟨h1, h2, h3, (Free.iff e).mpr h4⟩
    rw [z] at this
    cases this
  · intro no
    cases fs with
    | nil => rfl
    | cons l r =>
      obtain ⟨h1, h2, h3, h4⟩ := (h.mem l).mp List.mem_cons_self
      exact absurd ((Free.iff e).mp h4) (no l h1 h2 h3)
theorem noFree_one {cs : List Nat} : NoFree cs ↔ ∀ c ∈ cs, ¬ Free (nbr cs) [c] := by
  constructor
  · intro no c hc
    exact no [c] (by simp) (by simp) fun x hx => by rw [List.mem_singleton.mp hx]; exact hc
  · intro no ls h1 h2 h3 h4
    cases ls with
    | nil => exact h1 rfl
    | cons x r => exact no x (h3 x List.mem_cons_self) (h4.sub fun c hc => by rw [List.mem_singleton.mp hc]; exact List.mem_cons_self)
theorem ne_empty {p : List Nat} : (!decide (V.str (tx p) = V.str (Str.ofString ""))) = decide (p ≠ []) := by
  rw [show decide (V.str (tx p) = V.str (Str.ofString "")) = decide (p = []) from decide_eq_decide.mpr ⟨fun e => tx_inj ((V.str.inj e).trans tx_nil), fun e => by rw [e, tx_nil]⟩]
  exact decide_not.symm
/-- the search's end: every pattern that is reached, with the steps that lead to it -/
structure EndZ (cs : List Nat) (Z : Wz) : Prop where
  run : ∃ n, Z = runZ cs n ∧ Z.length ≤ n
  way : Way cs Z Z.length
theorem EndZ.eq {cs : List Nat} {Z Y : Wz} (h : EndZ cs Z) (k : EndZ cs Y) : Z = Y := by
  obtain ⟨n, e, l⟩ := h.run
  obtain ⟨m, f, j⟩ := k.run
  rw [e, f]
  exact runZ_eq (by rw [← e]; exact l) (by rw [← f]; exact j)
/-- the patterns that are reached, in order -/
structure Rch (cs : List Nat) (ds : List (List Nat)) : Prop where
  z : ∃ Z, EndZ cs Z ∧ ds.Perm (keysZ Z)
  ord : ds.Pairwise LeT
theorem Rch.eq {cs : List Nat} {ds es : List (List Nat)} (h : Rch cs ds) (k : Rch cs es) : ds = es := by
  obtain ⟨Z, e, p⟩ := h.z
  obtain ⟨Y, f, r⟩ := k.z
  rw [f.eq e] at r
  exact perm_le_eq (fun _ _ => LeT.anti) (p.trans r.symm) h.ord k.ord
theorem Rch.pat {cs : List Nat} {ds : List (List Nat)} (h : Rch cs ds) (pat : Pat cs) : ∀ p ∈ ds, Pat p := fun p hp => by
  obtain ⟨Z, e, pm⟩ := h.z
  obtain ⟨z, hz, rfl⟩ := List.mem_map.mp (pm.mem_iff.mp hp)
  rw [(e.way.ok z hz).gone]
  exact wo_pat pat
theorem Rch.len {cs : List Nat} {ds : List (List Nat)} (h : Rch cs ds) (pat : Pat cs) : ds.length ≤ 256 := by
  obtain ⟨Z, e, pm⟩ := h.z
  rw [pm.length_eq]
  unfold keysZ
  rw [List.length_map]
  exact e.way.few pat
section
variable {X : Cx}
/-- a value that is a dict: it stands still from here on -/
def tFrz (te : TE) : TE := fun σ H Q => te σ H fun v H1 => ∃ (d : Addr) (kvs : List (Key × V)), v = .ref d ∧ H1 d = some (.dK kvs) ∧ ∀ od, Q v (upd H1 d (.frz od (.dK kvs)))
theorem pe_freeze {e : Expr} {te : TE} (h : PE X e te) : PE X e (tFrz te) := by
  refine ⟨fun pins s σ H Q I hw => thn (h.run pins s σ H _ I hw) fun v s1 got => ?_⟩
  obtain ⟨x, H1, I1, r, d, kvs, _, hd, q⟩ := got
  obtain ⟨od, I2⟩ := I1.lock hd trivial
  exact ⟨x, _, I2, r, q od⟩
end
/-- the patterns without a free set, of a list -/
noncomputable def lockF (ls : List (List Nat)) : List (List Nat) := by
  classical exact ls.filter fun p => decide (p ≠ [] ∧ NoFree p)
theorem lockF_snoc (ls : List (List Nat)) (p : List Nat) : lockF (ls ++ [p]) = lockF ls ++ lockF [p] := by
  unfold lockF
  rw [List.filter_append]
theorem lockF_yes {p : List Nat} (h : p ≠ [] ∧ NoFree p) : lockF [p] = [p] := by
  unfold lockF
  rw [List.filter_cons_of_pos (by simpa using h), List.filter_nil]
theorem lockF_no {p : List Nat} (h : ¬ (p ≠ [] ∧ NoFree p)) : lockF [p] = [] := by
  unfold lockF
  rw [List.filter_cons_of_neg (by simpa using h), List.filter_nil]
theorem lockF_len (ls : List (List Nat)) : (lockF ls).length ≤ ls.length := List.length_filter_le ..
theorem lockF_sub (ls : List (List Nat)) : ∀ p ∈ lockF ls, p ∈ ls := fun p h => (List.mem_filter.mp h).1
end Mo

/-! ### unavoidable patterns: what stays so, and what does not -/
namespace Mo
open PySem PySem.Spec PyProof.Rows L2
/-- deletions of free sets lead to the empty pattern -/
inductive Una : List Nat → Prop
  | nil : Una []
  | step {p ls : List Nat} : (∃ x ∈ ls, x ∈ p) → Free (nbr p) ls → Una (wo p ls) → Una p
theorem asc_of : ∀ ns : List Nat, ∃ ms : List Nat, ms.Pairwise (· < ·) ∧ ∀ x, x ∈ ms ↔ x ∈ ns := fun ns => by
  induction ns with
  | nil => exact ⟨[], .nil, fun _ => Iff.rfl⟩
  | cons a ns ih =>
    obtain ⟨ms, h1, h2⟩ := ih
    refine ⟨(ms.filter fun x => decide (x < a)) ++ [a] ++ ms.filter fun x => decide (a < x), ?_, fun x => ?_⟩
    · refine List.pairwise_append.mpr ⟨List.pairwise_append.mpr ⟨h1.filter _, by simp, fun x hx y hy => ?_⟩, h1.filter _, fun x hx y hy => ?_⟩
      · rw [List.mem_singleton.mp hy]
        exact of_decide_eq_true (List.mem_filter.mp hx).2
      · have hy2 := of_decide_eq_true (List.mem_filter.mp hy).2
        rcases List.mem_append.mp hx with z | z
        · exact Nat.lt_trans (of_decide_eq_true (List.mem_filter.mp z).2) hy2
        · rw [List.mem_singleton.mp z]
          exact hy2
    · rw [List.mem_append, List.mem_append, List.mem_filter, List.mem_filter, List.mem_singleton, List.mem_cons, ← h2]
      simp only [decide_eq_true_eq]
      constructor
      · rintro ((⟨z, _⟩ | z) | ⟨z, _⟩)
        · exact .inr z
        · exact .inl z
        · exact .inr z
      · rintro (z | z)
        · exact .inl (.inr z)
        · rcases Nat.lt_trichotomy x a with l | l | l
          · exact .inl (.inl ⟨z, l⟩)
          · exact .inl (.inr l)
          · exact .inr ⟨z, l⟩
theorem wo_congr {p a b : List Nat} (h : ∀ x ∈ p, x ∈ a ↔ x ∈ b) : wo p a = wo p b := by
  unfold wo
  refine List.filter_congr fun x hx => ?_
  rw [Bool.eq_iff_iff]
  simp [h x hx]
theorem steps_cons {c ls : List Nat} (h1 : ls ≠ []) (h2 : ls.Pairwise (· < ·)) (h3 : ∀ x ∈ ls, x ∈ c) (h4 : Free (nbr c) ls) {w : List (List Nat)} {p : List Nat} (h : Steps (wo c ls) w p) : Steps c (ls :: w) p := by
  induction h with
  | nil => exact .snoc (w := []) .nil h1 h2 h3 h4
  | snoc _ a b d e ih => exact .snoc (w := ls :: _) ih a b d e
/-- the first of some steps -/
theorem steps_uncons {c p : List Nat} {w : List (List Nat)} (h : Steps c w p) : (w = [] ∧ p = c) ∨ ∃ ls v, w = ls :: v ∧ ls ≠ [] ∧ ls.Pairwise (· < ·) ∧ (∀ x ∈ ls, x ∈ c) ∧ Free (nbr c) ls ∧ Steps (wo c ls) v p := by
  induction h with
  | nil => exact .inl ⟨rfl, rfl⟩
  | @snoc w p ls hw a b d e ih =>
    rcases ih with ⟨rfl, rfl⟩ | ⟨l0, v, rfl, h1, h2, h3, h4, h5⟩
    · exact .inr ⟨ls, [], rfl, a, b, d, e, .nil⟩
    · exact .inr ⟨l0, v ++ [ls], rfl, h1, h2, h3, h4, .snoc h5 a b d e⟩
theorem una_steps {c : List Nat} (h : Una c) : ∃ w, Steps c w [] := by
  induction h with
  | nil => exact ⟨[], .nil⟩
  | @step p ls h1 h2 _ ih =>
    obtain ⟨w, hw⟩ := ih
    obtain ⟨ms, m1, m2⟩ := asc_of (ls.filter fun x => decide (x ∈ p))
    have mem : ∀ x, x ∈ ms ↔ x ∈ ls ∧ x ∈ p := fun x => by
      rw [m2, List.mem_filter, decide_eq_true_eq]
    obtain ⟨x, hx1, hx2⟩ := h1
    have e : wo p ls = wo p ms := wo_congr fun x hx => by
      rw [mem]
      exact ⟨fun z => ⟨z, hx⟩, fun z => z.1⟩
    rw [e] at hw
    exact ⟨_, steps_cons (fun z => by have := (mem x).mpr ⟨hx1, hx2⟩; rw [z] at this; cases this) m1 (fun x hx => ((mem x).mp hx).2) (h2.sub fun x hx => ((mem x).mp hx).1) hw⟩
theorem steps_una {c : List Nat} : ∀ {w : List (List Nat)}, Steps c w [] → Una c := by
  intro w
  induction w generalizing c with
  | nil =>
    intro h
    have := h.gone
    rw [List.flatten_nil, wo_nil] at this
    rw [← this]
    exact .nil
  | cons l w ih =>
    intro h
    rcases steps_uncons h with ⟨e, _⟩ | ⟨ls, v, e, h1, _, h3, h4, h5⟩
    · cases e
    · obtain ⟨rfl, rfl⟩ := List.cons.inj e
      obtain ⟨x, hx⟩ := List.exists_mem_of_ne_nil l h1
      exact .step ⟨x, hx, h3 x hx⟩ h4 (ih h5)
theorem reached_all {c p : List Nat} {w : List (List Nat)} {Z : Wz} (wy : Way c Z Z.length) (h : Steps c w p) : p ∈ keysZ Z := by
  induction h with
  | nil => exact List.mem_map.mpr ⟨_, List.mem_of_getElem? wy.st, rfl⟩
  | @snoc w p ls hw a b d e ih =>
    obtain ⟨z, hz, rfl⟩ := List.mem_map.mp ih
    obtain ⟨k, hk⟩ := List.getElem?_of_mem hz
    obtain ⟨f, cl⟩ := wy.dn k z (List.getElem?_eq_some_iff.mp hk).1 hk
    exact cl ls ((f.mem ls).mpr ⟨a, b, d, e⟩)
/-- the empty pattern is met just if the pattern is unavoidable -/
theorem una_met {c : List Nat} {Z : Wz} (wy : Way c Z Z.length) : [] ∈ keysZ Z ↔ Una c := by
  constructor
  · intro h
    obtain ⟨z, hz, e⟩ := List.mem_map.mp h
    have := wy.ok z hz
    rw [e] at this
    exact steps_una this
  · intro h
    obtain ⟨w, hw⟩ := una_steps h
    exact reached_all wy hw
/-! blocks, other letters, turned around -/
theorem nbr_block {a p b : List Nat} {e : Nat × Nat} (h : e ∈ nbr p) : e ∈ nbr (a ++ p ++ b) := by
  unfold nbr at *
  obtain ⟨i, hi⟩ := List.getElem?_of_mem h
  obtain ⟨h1, h2⟩ := List.getElem?_zip_eq_some.mp hi
  have lt := (List.getElem?_eq_some_iff.mp h1).1
  rw [List.getElem?_drop] at h2
  have lt2 := (List.getElem?_eq_some_iff.mp h2).1
  refine List.mem_of_getElem? (i := a.length + i) (List.getElem?_zip_eq_some.mpr ⟨?_, ?_⟩)
  · rw [List.append_assoc, List.getElem?_append_right (by omega), List.getElem?_append_left (by omega), Nat.add_sub_cancel_left]
    exact h1
  · rw [List.getElem?_drop, List.append_assoc, List.getElem?_append_right (by omega), List.getElem?_append_left (by omega), show 1 + (a.length + i) - a.length = 1 + i by omega]
    exact h2
theorem wo_app (a b ls : List Nat) : wo (a ++ b) ls = wo a ls ++ wo b ls := List.filter_append ..
theorem una_block {q : List Nat} (h : Una q) : ∀ a p b, q = a ++ p ++ b → Una p := by
  induction h with
  | nil =>
    intro a p b e
    have : p = [] := by
      cases p with
      | nil => rfl
      | cons x r => simp at e
    rw [this]
    exact .nil
  | @step q ls h1 h2 _ ih =>
    intro a p b e
    by_cases g : ∃ x ∈ ls, x ∈ p
    · refine .step g (fun x hx y hy c => h2 x hx y hy (c.mono fun e' he => ?_)) (ih (wo a ls) (wo p ls) (wo b ls) (by rw [e, wo_app, wo_app]))
      rw [e]
      exact nbr_block he
    · have e2 : wo p ls = p := by
        unfold wo
        rw [List.filter_eq_self]
        intro x hx
        have : x ∉ ls := fun z => g ⟨x, z, hx⟩
        simpa using this
      have := ih (wo a ls) (wo p ls) (wo b ls) (by rw [e, wo_app, wo_app])
      rw [e2] at this
      exact this
theorem nbr_map (f : Nat → Nat) (p : List Nat) : nbr (p.map f) = (nbr p).map fun e => (f e.1, f e.2) := by
  unfold nbr
  rw [← List.map_drop, List.zip_map]
  rfl
theorem cn_map {f : Nat → Nat} {es : List (Nat × Nat)} {u v : Nd} (inj : ∀ x y, (∃ e ∈ es, x = e.1 ∨ x = e.2) → (∃ e ∈ es, y = e.1 ∨ y = e.2) → f x = f y → x = y) (h : Cn (es.map fun e => (f e.1, f e.2)) u v) : ∀ s c, u = (s, f c) → (∃ e ∈ es, c = e.1 ∨ c = e.2) → ∃ d, v = (v.1, f d) ∧ (∃ e ∈ es, d = e.1 ∨ d = e.2) ∧ Cn es (s, c) (v.1, d) := by
  induction h with
  | refl => exact fun s c e hc => ⟨c, by rw [e], hc, by rw [e]; exact .refl _⟩
  | @l2r a b _ e ih =>
    intro s c eu hc
    obtain ⟨d, e1, hd, cn⟩ := ih s c eu hc
    obtain ⟨e0, he0, e2⟩ := List.mem_map.mp e
    obtain ⟨rfl, rfl⟩ := Prod.mk.inj e2
    have := (Prod.mk.inj e1).2
    have e3 := inj _ _ ⟨e0, he0, .inl rfl⟩ hd this
    subst e3
    exact ⟨e0.2, rfl, ⟨e0, he0, .inr rfl⟩, .l2r cn he0⟩
  | @r2l a b _ e ih =>
    intro s c eu hc
    obtain ⟨d, e1, hd, cn⟩ := ih s c eu hc
    obtain ⟨e0, he0, e2⟩ := List.mem_map.mp e
    obtain ⟨rfl, rfl⟩ := Prod.mk.inj e2
    have := (Prod.mk.inj e1).2
    have e3 := inj _ _ ⟨e0, he0, .inr rfl⟩ hd this
    subst e3
    exact ⟨e0.1, rfl, ⟨e0, he0, .inl rfl⟩, .r2l cn he0⟩
theorem cn_touch {es : List (Nat × Nat)} {a b : Nat} (h : Cn es (false, a) (true, b)) : (∃ e ∈ es, a = e.1 ∨ a = e.2) ∧ ∃ e ∈ es, b = e.1 ∨ b = e.2 := by
  constructor
  · cases h.symm with
    | r2l _ e => exact ⟨_, e, .inl rfl⟩
  · cases h with
    | l2r _ e => exact ⟨_, e, .inr rfl⟩
theorem una_map {p : List Nat} {f : Nat → Nat} (h : Una p) (inj : ∀ x y, x ∈ p → y ∈ p → f x = f y → x = y) : Una (p.map f) := by
  induction h with
  | nil => exact .nil
  | @step p ls h1 h2 _ ih =>
    obtain ⟨x, hx, hp⟩ := h1
    have touch : ∀ x, (∃ e ∈ nbr p, x = e.1 ∨ x = e.2) → x ∈ p := fun x ⟨e, he, z⟩ => by
      obtain ⟨a, b⟩ := nbr_in he
      rcases z with rfl | rfl
      · exact a
      · exact b
    have eq : wo (p.map f) ((ls.filter fun x => decide (x ∈ p)).map f) = (wo p ls).map f := by
      unfold wo
      rw [List.filter_map]
      congr 1
      refine List.filter_congr fun y hy => ?_
      rw [Bool.eq_iff_iff]
      simp only [Function.comp, Bool.not_eq_true', decide_eq_false_iff_not]
      refine not_congr ?_
      rw [List.mem_map]
      constructor
      · rintro ⟨z, hz, e⟩
        obtain ⟨z1, z2⟩ := List.mem_filter.mp hz
        rw [← inj z y (of_decide_eq_true z2) hy e]
        exact z1
      · exact fun z => ⟨y, List.mem_filter.mpr ⟨z, decide_eq_true hy⟩, rfl⟩
    refine .step (ls := (ls.filter fun x => decide (x ∈ p)).map f) ⟨f x, List.mem_map.mpr ⟨x, List.mem_filter.mpr ⟨hx, decide_eq_true hp⟩, rfl⟩, List.mem_map.mpr ⟨x, hp, rfl⟩⟩ ?_ ?_
    · intro a ha b hb c
      obtain ⟨a0, ha0, rfl⟩ := List.mem_map.mp ha
      obtain ⟨b0, hb0, rfl⟩ := List.mem_map.mp hb
      obtain ⟨a1, a2⟩ := List.mem_filter.mp ha0
      obtain ⟨b1, b2⟩ := List.mem_filter.mp hb0
      rw [nbr_map] at c
      have ij : ∀ x y, (∃ e ∈ nbr p, x = e.1 ∨ x = e.2) → (∃ e ∈ nbr p, y = e.1 ∨ y = e.2) → f x = f y → x = y := fun x y hx hy => inj x y (touch x hx) (touch y hy)
      obtain ⟨e0, he0, z⟩ := (cn_touch c).1
      obtain ⟨e1, he1, rfl⟩ := List.mem_map.mp he0
      have ta : ∃ e ∈ nbr p, a0 = e.1 ∨ a0 = e.2 := by
        obtain ⟨n1, n2⟩ := nbr_in he1
        rcases z with z | z
        · exact ⟨e1, he1, .inl (inj _ _ (of_decide_eq_true a2) n1 z)⟩
        · exact ⟨e1, he1, .inr (inj _ _ (of_decide_eq_true a2) n2 z)⟩
      obtain ⟨d, ed, hd, cn⟩ := cn_map ij c false a0 rfl ta
      have := inj _ _ (of_decide_eq_true b2) (touch d hd) (Prod.mk.inj ed).2
      rw [← this] at cn
      exact h2 a0 a1 b0 b1 cn
    · rw [eq]
      exact ih fun x y hx hy => inj x y (mem_wo.mp hx).1 (mem_wo.mp hy).1
theorem nbr_rev {p : List Nat} {a b : Nat} (h : (a, b) ∈ nbr p.reverse) : (b, a) ∈ nbr p := by
  unfold nbr at *
  obtain ⟨i, hi⟩ := List.getElem?_of_mem h
  obtain ⟨h1, h2⟩ := List.getElem?_zip_eq_some.mp hi
  rw [List.getElem?_drop] at h2
  have l1 := (List.getElem?_eq_some_iff.mp h1).1
  have l2 := (List.getElem?_eq_some_iff.mp h2).1
  rw [List.length_reverse] at l1 l2
  rw [List.getElem?_reverse (by omega)] at h1 h2
  refine List.mem_of_getElem? (i := p.length - 1 - (1 + i)) (List.getElem?_zip_eq_some.mpr ⟨h2, ?_⟩)
  rw [List.getElem?_drop, show 1 + (p.length - 1 - (1 + i)) = p.length - 1 - i by omega]
  exact h1
theorem cn_rev {p : List Nat} {u v : Nd} (h : Cn (nbr p.reverse) u v) : Cn (nbr p) (!u.1, u.2) (!v.1, v.2) := by
  induction h with
  | refl => exact .refl _
  | l2r _ e ih => exact .r2l ih (nbr_rev e)
  | r2l _ e ih => exact .l2r ih (nbr_rev e)
theorem una_rev {p : List Nat} (h : Una p) : Una p.reverse := by
  induction h with
  | nil => exact .nil
  | @step p ls h1 h2 _ ih =>
    obtain ⟨x, hx, hp⟩ := h1
    refine .step ⟨x, hx, List.mem_reverse.mpr hp⟩ (fun a ha b hb c => h2 b hb a ha (cn_rev c).symm) ?_
    rw [show wo p.reverse ls = (wo p ls).reverse from List.filter_reverse]
    exact ih
/-! a new letter between, ahead, behind -/
theorem nbr_app {a b : List Nat} {e : Nat × Nat} (h : e ∈ nbr (a ++ b)) : e ∈ nbr a ∨ e ∈ nbr b ∨ (a.getLast? = some e.1 ∧ b.head? = some e.2) := by
  unfold nbr at *
  obtain ⟨i, hi⟩ := List.getElem?_of_mem h
  obtain ⟨h1, h2⟩ := List.getElem?_zip_eq_some.mp hi
  rw [List.getElem?_drop] at h2
  by_cases c1 : 1 + i < a.length
  · rw [List.getElem?_append_left (by omega)] at h1 h2
    exact .inl (List.mem_of_getElem? (List.getElem?_zip_eq_some.mpr ⟨h1, by rw [List.getElem?_drop]; exact h2⟩))
  · by_cases c2 : a.length ≤ i
    · rw [List.getElem?_append_right (by omega)] at h1 h2
      exact .inr (.inl (List.mem_of_getElem? (List.getElem?_zip_eq_some.mpr ⟨h1, by rw [List.getElem?_drop, show 1 + (i - a.length) = 1 + i - a.length by omega]; exact h2⟩)))
    · rw [List.getElem?_append_left (by omega)] at h1
      rw [List.getElem?_append_right (by omega)] at h2
      refine .inr (.inr ⟨?_, ?_⟩)
      · rw [List.getLast?_eq_getElem?, show a.length - 1 = i by omega]
        exact h1
      · rw [List.head?_eq_getElem?, show 0 = 1 + i - a.length by omega]
        exact h2
/-- edges that hang at new nodes join nothing else -/
theorem cn_hang {es fs : List (Nat × Nat)} {x l r : Nat} (hx : ∀ e ∈ es, e.1 ≠ x ∧ e.2 ≠ x) (hf : ∀ e ∈ fs, e ∈ es ∨ (e = (l, x) ∧ l ≠ x) ∨ (e = (x, r) ∧ r ≠ x)) {u v : Nd} (h : Cn fs u v) (hu : u.2 ≠ x) : (v.2 ≠ x ∧ Cn es u v) ∨ (v = (true, x) ∧ Cn es u (false, l)) ∨ (v = (false, x) ∧ Cn es u (true, r)) := by
  induction h with
  | refl => exact .inl ⟨hu, .refl _⟩
  | @l2r a b _ e ih =>
    rcases hf _ e with he | ⟨he, n⟩ | ⟨he, n⟩
    · obtain ⟨n1, n2⟩ := hx _ he
      rcases ih with ⟨_, c⟩ | ⟨z, _⟩ | ⟨z, _⟩
      · exact .inl ⟨n2, .l2r c he⟩
      · cases z
      · exact absurd (Prod.mk.inj z).2 n1
    · obtain ⟨rfl, rfl⟩ := Prod.mk.inj he
      rcases ih with ⟨_, c⟩ | ⟨z, _⟩ | ⟨z, _⟩
      · exact .inr (.inl ⟨rfl, c⟩)
      · cases z
      · exact absurd (Prod.mk.inj z).2 n
    · obtain ⟨rfl, rfl⟩ := Prod.mk.inj he
      rcases ih with ⟨z, _⟩ | ⟨z, _⟩ | ⟨_, c⟩
      · exact absurd rfl z
      · cases z
      · exact .inl ⟨n, c⟩
  | @r2l a b _ e ih =>
    rcases hf _ e with he | ⟨he, n⟩ | ⟨he, n⟩
    · obtain ⟨n1, n2⟩ := hx _ he
      rcases ih with ⟨_, c⟩ | ⟨z, _⟩ | ⟨z, _⟩
      · exact .inl ⟨n1, .r2l c he⟩
      · exact absurd (Prod.mk.inj z).2 n2
      · cases z
    · obtain ⟨rfl, rfl⟩ := Prod.mk.inj he
      rcases ih with ⟨z, _⟩ | ⟨_, c⟩ | ⟨z, _⟩
      · exact absurd rfl z
      · exact .inl ⟨n, c⟩
      · cases z
    · obtain ⟨rfl, rfl⟩ := Prod.mk.inj he
      rcases ih with ⟨_, c⟩ | ⟨z, _⟩ | ⟨z, _⟩
      · exact .inr (.inr ⟨rfl, c⟩)
      · exact absurd (Prod.mk.inj z).2 n
      · cases z
theorem una_single (x : Nat) : Una [x] := by
  refine .step (ls := [x]) ⟨x, by simp, by simp⟩ (fun a _ b _ c => ?_) ?_
  · have : nbr [x] = [] := rfl
    rw [this, Cn.nil_iff] at c
    cases c
  · rw [show wo [x] [x] = [] by unfold wo; simp]
    exact .nil
/-- a pattern or nothing, a new letter, the pattern or nothing again -/
theorem una_between {p : List Nat} {x : Nat} (h : Una p) (hx : x ∉ p) : ∀ a b, (a = p ∨ a = []) → (b = p ∨ b = []) → Una (a ++ [x] ++ b) := by
  induction h with
  | nil =>
    intro a b ha hb
    have : a = [] := ha.elim id id
    have : b = [] := hb.elim id id
    subst a b
    exact una_single x
  | @step p ls h1 h2 _ ih =>
    intro a b ha hb
    by_cases g : a = [] ∧ b = []
    · obtain ⟨rfl, rfl⟩ := g
      exact una_single x
    obtain ⟨y, hy, hp⟩ := h1
    have ls2 : ∀ z, z ∈ (ls.filter fun z => decide (z ∈ p)) ↔ z ∈ ls ∧ z ∈ p := fun z => by
      rw [List.mem_filter, decide_eq_true_eq]
    have nx : ∀ e ∈ nbr p, e.1 ≠ x ∧ e.2 ≠ x := fun e he => by
      obtain ⟨n1, n2⟩ := nbr_in he
      exact ⟨fun z => hx (z ▸ n1), fun z => hx (z ▸ n2)⟩
    have nn : p ≠ [] := fun z => by rw [z] at hp; cases hp
    have ea : ∀ e ∈ nbr a, e ∈ nbr p := fun e he => by
      rcases ha with rfl | rfl
      · exact he
      · cases he
    have eb : ∀ e ∈ nbr b, e ∈ nbr p := fun e he => by
      rcases hb with rfl | rfl
      · exact he
      · cases he
    obtain ⟨l, hl⟩ : ∃ l, p.getLast? = some l := ⟨p.getLast nn, List.getLast?_eq_some_getLast nn⟩
    obtain ⟨r, hr⟩ : ∃ r, p.head? = some r := ⟨p.head nn, List.head?_eq_some_head nn⟩
    have lx : l ≠ x := fun z => hx (z ▸ List.mem_of_getLast? hl)
    have rx : r ≠ x := fun z => hx (z ▸ List.mem_of_head? hr)
    have edges : ∀ e ∈ nbr (a ++ [x] ++ b), e ∈ nbr p ∨ (e = (l, x) ∧ l ≠ x) ∨ (e = (x, r) ∧ r ≠ x) := fun e he => by
      rcases nbr_app he with z | z | ⟨z1, z2⟩
      · rcases nbr_app z with z | z | ⟨z1, z2⟩
        · exact .inl (ea e z)
        · cases z
        · refine .inr (.inl ⟨?_, lx⟩)
          rcases ha with rfl | rfl
          · rw [hl] at z1
            have e1 := Option.some.inj z1
            have e2 : x = e.2 := by simpa using z2
            exact Prod.ext e1.symm e2.symm
          · cases z1
      · exact .inl (eb e z)
      · refine .inr (.inr ⟨?_, rx⟩)
        have e1 : x = e.1 := by simpa using z1
        rcases hb with rfl | rfl
        · rw [hr] at z2
          exact Prod.ext e1.symm (Option.some.inj z2).symm
        · cases z2
    have inab : ∃ z ∈ (ls.filter fun z => decide (z ∈ p)), z ∈ a ++ [x] ++ b := by
      refine ⟨y, (ls2 y).mpr ⟨hy, hp⟩, ?_⟩
      rcases ha with rfl | rfl
      · simp [hp]
      · rcases hb with rfl | rfl
        · simp [hp]
        · exact absurd ⟨rfl, rfl⟩ g
    refine .step inab (fun s hs t ht c => ?_) ?_
    · obtain ⟨s1, s2⟩ := (ls2 s).mp hs
      obtain ⟨t1, t2⟩ := (ls2 t).mp ht
      rcases cn_hang nx edges c (fun z => hx (z ▸ s2)) with ⟨_, k⟩ | ⟨z, _⟩ | ⟨z, _⟩
      · exact h2 s s1 t t1 k
      · exact hx ((Prod.mk.inj z).2 ▸ t2)
      · cases z
    · have ex : wo [x] (ls.filter fun z => decide (z ∈ p)) = [x] := by
        have : x ∉ ls.filter fun z => decide (z ∈ p) := fun z => hx ((ls2 x).mp z).2
        unfold wo
        rw [List.filter_cons_of_pos (by rw [decide_eq_false this]; rfl), List.filter_nil]
      have ep : wo p (ls.filter fun z => decide (z ∈ p)) = wo p ls := wo_congr fun z hz => by
        rw [ls2]
        exact ⟨fun h => h.1, fun h => ⟨h, hz⟩⟩
      rw [wo_app, wo_app, ex]
      refine ih (fun z => hx (mem_wo.mp z).1) _ _ ?_ ?_
      · rcases ha with rfl | rfl
        · exact .inl ep
        · exact .inr rfl
      · rcases hb with rfl | rfl
        · exact .inl ep
        · exact .inr rfl
/-! each letter twice -/
theorem una_once {p : List Nat} (h : Una p) : p = [] ∨ ∃ x ∈ p, p.count x = 1 := by
  induction h with
  | nil => exact .inl rfl
  | @step p ls h1 h2 _ ih =>
    rcases ih with e | ⟨x, hx, hc⟩
    · match p, e with
      | [], _ => exact .inl rfl
      | [x], _ => exact .inr ⟨x, by simp, by simp⟩
      | x :: y :: r, e =>
        have all : ∀ z ∈ x :: y :: r, z ∈ ls := fun z hz => Classical.byContradiction fun n => by
          have : z ∈ wo (x :: y :: r) ls := mem_wo.mpr ⟨hz, n⟩
          rw [e] at this
          cases this
        exact absurd (.l2r (.refl _) (by simp [nbr])) (h2 x (all x (by simp)) y (all y (by simp)))
    · obtain ⟨hp, hn⟩ := mem_wo.mp hx
      refine .inr ⟨x, hp, ?_⟩
      unfold wo at hc
      rw [List.count_filter (by simpa using hn)] at hc
      exact hc
end Mo

/-! ### how long an unavoidable pattern is, and the words that nest -/
namespace Mo
open PySem PySem.Spec PyProof.Rows L2
theorem wo_mem {p ls : List Nat} {x : Nat} : x ∈ wo p ls ↔ x ∈ p ∧ x ∉ ls := by
  unfold wo
  rw [List.mem_filter]
  simp
theorem wo_in {p ls : List Nat} {x : Nat} (h : x ∈ ls) : wo (x :: p) ls = wo p ls := by
  unfold wo
  rw [List.filter_cons_of_neg (by simp [h])]
theorem wo_out {p ls : List Nat} {x : Nat} (h : x ∉ ls) : wo (x :: p) ls = x :: wo p ls := by
  unfold wo
  rw [List.filter_cons_of_pos (by simp [h])]
theorem sparse {ls : List Nat} : ∀ p : List Nat, (∀ e ∈ nbr p, ¬ (e.1 ∈ ls ∧ e.2 ∈ ls)) → p.length ≤ 2 * (wo p ls).length + 1 ∧ ((∀ x, p.head? = some x → x ∉ ls) → p.length ≤ 2 * (wo p ls).length) := by
  intro p
  induction p with
  | nil => exact fun _ => ⟨Nat.zero_le _, fun _ => Nat.zero_le _⟩
  | cons x r ih =>
    intro h
    cases r with
    | nil =>
      refine ⟨by rw [List.length_singleton]; omega, fun g => ?_⟩
      rw [wo_out (g x rfl)]
      show 1 ≤ 2 * (_ + 1)
      omega
    | cons y r =>
      obtain ⟨a, b⟩ := ih fun e he => h e (List.mem_cons_of_mem _ he)
      have hxy := h (x, y) List.mem_cons_self
      by_cases g : x ∈ ls
      · have hy : y ∉ ls := fun z => hxy ⟨g, z⟩
        have b2 := b fun z e => by
          obtain rfl := Option.some.inj e
          exact hy
        rw [wo_in g]
        rw [List.length_cons]
        exact ⟨by omega, fun k => absurd g (k x rfl)⟩
      · rw [wo_out g]
        have e1 : (x :: y :: r).length = (y :: r).length + 1 := rfl
        have e2 : (x :: wo (y :: r) ls).length = (wo (y :: r) ls).length + 1 := rfl
        exact ⟨by omega, fun _ => by omega⟩
theorem free_sparse {p ls : List Nat} (h : Free (nbr p) ls) : ∀ e ∈ nbr p, ¬ (e.1 ∈ ls ∧ e.2 ∈ ls) := fun e he z =>
  h e.1 z.1 e.2 z.2 (.l2r (.refl _) he)
theorem wo_less {ns ls : List Nat} {x : Nat} (h : x ∈ ns) (g : x ∈ ls) : (wo ns ls).length < ns.length := by
  unfold wo
  exact List.length_filter_lt_length_iff_exists.mpr ⟨x, h, by simp [g]⟩
theorem una_len {p : List Nat} (h : Una p) : ∀ ns : List Nat, (∀ x ∈ p, x ∈ ns) → p.length + 1 ≤ 2 ^ ns.length := by
  induction h with
  | nil => exact fun ns _ => Nat.one_le_two_pow
  | @step p ls h1 h2 _ ih =>
    intro ns hn
    obtain ⟨x, hx1, hx2⟩ := h1
    have a := (sparse p (free_sparse h2)).1
    have b := ih (wo ns ls) fun y hy => wo_mem.mpr ⟨hn y (wo_mem.mp hy).1, (wo_mem.mp hy).2⟩
    have e : 2 ^ ((wo ns ls).length + 1) ≤ 2 ^ ns.length := Nat.pow_le_pow_right (by decide) (wo_less (hn x hx2) hx1)
    rw [Nat.pow_succ] at e
    omega
def nestW (w ns : List Nat) : List Nat := ns.foldl (fun w x => w ++ [x] ++ w) w
theorem nestW_snoc (w ns : List Nat) (x : Nat) : nestW w (ns ++ [x]) = nestW w ns ++ [x] ++ nestW w ns := by
  unfold nestW
  rw [List.foldl_append]
  rfl
theorem nestW_len (ns : List Nat) : ∀ w, (nestW w ns).length + 1 = (w.length + 1) * 2 ^ ns.length := by
  induction ns with
  | nil =>
    intro w
    show w.length + 1 = _
    simp
  | cons x r ih =>
    intro w
    show (nestW (w ++ [x] ++ w) r).length + 1 = _
    rw [ih, List.length_append, List.length_append, List.length_singleton, List.length_cons, Nat.pow_succ, show w.length + 1 + w.length + 1 = (w.length + 1) * 2 by omega, Nat.mul_assoc, Nat.mul_comm 2]
theorem nestW_in (ns : List Nat) : ∀ w, ∀ x ∈ nestW w ns, x ∈ w ∨ x ∈ ns := by
  induction ns with
  | nil => exact fun w x hx => .inl hx
  | cons y r ih =>
    intro w x hx
    rcases ih _ x hx with h | h
    · simp only [List.mem_append, List.mem_cons, List.not_mem_nil, or_false] at h ⊢
      rcases h with (h | h) | h
      · exact .inl h
      · exact .inr (.inl h)
      · exact .inl h
    · exact .inr (List.mem_cons_of_mem _ h)
theorem nestW_wo (y : Nat) (ns : List Nat) (hy : y ∉ ns) : ∀ w, wo (nestW w ns) [y] = nestW (wo w [y]) ns := by
  induction ns with
  | nil => exact fun w => rfl
  | cons x r ih =>
    intro w
    show wo (nestW (w ++ [x] ++ w) r) [y] = nestW (wo w [y] ++ [x] ++ wo w [y]) r
    rw [ih fun z => hy (List.mem_cons_of_mem _ z), wo_app, wo_app]
    have : wo [x] [y] = [x] := by
      rw [wo_out]
      · rfl
      · intro z
        rw [List.mem_singleton.mp z] at hy
        exact hy List.mem_cons_self
    rw [this]
theorem nestW_head (ns : List Nat) : ∀ (x : Nat) (w : List Nat), (nestW (x :: w) ns).head? = some x := by
  induction ns with
  | nil => exact fun _ _ => rfl
  | cons y r ih => exact fun x w => ih x (w ++ [y] ++ x :: w)
theorem nestW_una (ns : List Nat) : ∀ w, Una w → ns.Nodup → (∀ y ∈ ns, y ∉ w) → Una (nestW w ns) := by
  induction ns with
  | nil => exact fun w h _ _ => h
  | cons x r ih =>
    intro w h nd no
    obtain ⟨n1, n2⟩ := List.nodup_cons.mp nd
    refine ih _ (una_between h (no x List.mem_cons_self) w w (.inl rfl) (.inl rfl)) n2 fun y hy z => ?_
    have ny := no y (List.mem_cons_of_mem _ hy)
    simp only [List.mem_append, List.mem_cons, List.not_mem_nil, or_false] at z
    rcases z with (z | z) | z
    · exact ny z
    · rw [z] at hy
      exact n1 hy
    · exact ny z
theorem one_asc {ls : List Nat} {x : Nat} (h : ls ≠ []) (o : ls.Pairwise (· < ·)) (a : ∀ y ∈ ls, y = x) : ls = [x] := by
  match ls, h with
  | [u], _ => rw [a u (by simp)]
  | u :: v :: r, _ =>
    have h1 := a u (by simp)
    have h2 := a v (by simp)
    have := (List.pairwise_cons.mp o).1 v (by simp)
    omega
/-- the only chain of a word that nests: its letters in order -/
theorem nest_only : ∀ ns : List Nat, ns.Nodup → ∀ {w : List (List Nat)}, Steps (nestW [] ns) w [] → w = ns.map fun x => [x] := by
  intro ns
  induction ns with
  | nil =>
    intro _ w h
    rcases steps_uncons h with ⟨e, _⟩ | ⟨ls, v, _, h1, _, h3, _⟩
    · exact e
    · obtain ⟨x, hx⟩ := List.exists_mem_of_ne_nil ls h1
      exact absurd (h3 x hx) (by show x ∉ []; simp)
  | cons x ns ih =>
    intro nd w h
    obtain ⟨n1, n2⟩ := List.nodup_cons.mp nd
    have h : Steps (nestW [x] ns) w [] := h
    have len := nestW_len ns [x]
    rw [List.length_singleton] at len
    have pos : 1 ≤ 2 ^ ns.length := Nat.one_le_two_pow
    rcases steps_uncons h with ⟨_, e⟩ | ⟨ls, v, rfl, h1, h2, h3, h4, h5⟩
    · rw [← e, List.length_nil] at len
      omega
    have sub : ∀ y ∈ ls, y ∈ x :: ns := fun y hy => by
      rcases nestW_in ns _ y (h3 y hy) with z | z
      · rw [List.mem_singleton.mp z]
        exact List.mem_cons_self
      · exact List.mem_cons_of_mem _ z
    obtain ⟨s1, s2⟩ := sparse _ (free_sparse h4)
    have u := una_len (steps_una h5) (wo (x :: ns) ls) fun y hy => by
      obtain ⟨y1, y2⟩ := wo_mem.mp hy
      refine wo_mem.mpr ⟨?_, y2⟩
      rcases nestW_in ns _ y y1 with z | z
      · rw [List.mem_singleton.mp z]
        exact List.mem_cons_self
      · exact List.mem_cons_of_mem _ z
    obtain ⟨y0, hy0⟩ := List.exists_mem_of_ne_nil ls h1
    have less := wo_less (sub y0 hy0) hy0
    rw [List.length_cons] at less
    have up : 2 ^ (wo (x :: ns) ls).length ≤ 2 ^ ns.length := Nat.pow_le_pow_right (by decide) (by omega)
    have hx : x ∈ ls := by
      by_cases g : x ∈ ls
      · exact g
      · have := s2 fun z e => by
          rw [nestW_head] at e
          obtain rfl := Option.some.inj e
          exact g
        omega
    have more : ns.length ≤ (wo (x :: ns) ls).length := by
      refine (Nat.pow_le_pow_iff_right (a := 2) (by decide)).mp ?_
      omega
    rw [wo_in hx] at more
    have no : ∀ y ∈ ns, y ∉ ls := fun y hy z => by
      have := wo_less hy z
      omega
    have el : ls = [x] := one_asc h1 h2 fun y hy => by
      rcases List.mem_cons.mp (sub y hy) with z | z
      · exact z
      · exact absurd hy (no y z)
    rw [el, nestW_wo x ns n1, wo_in List.mem_cons_self] at h5
    rw [el, List.map_cons, ih n2 h5]
theorem nest_steps {ns : List Nat} (h : ns.Nodup) : Steps (nestW [] ns) (ns.map fun x => [x]) [] := by
  obtain ⟨w, hw⟩ := una_steps (nestW_una ns [] .nil h fun _ _ z => by cases z)
  have := nest_only ns h hw
  rwa [this] at hw
theorem take_nx {α : Type} {l : List α} {i : Nat} {q : α} (h : l[i]? = some q) : l.take (i + 1) = l.take i ++ [q] := by
  rw [List.take_add_one, h]
  rfl
/-- the step at i -/
theorem Steps.nth {c p : List Nat} {w : List (List Nat)} (h : Steps c w p) : ∀ (i : Nat) (ls : List Nat), w[i]? = some ls → ls ≠ [] ∧ ls.Pairwise (· < ·) ∧ (∀ x ∈ ls, x ∈ wo c (w.take i).flatten) ∧ Free (nbr (wo c (w.take i).flatten)) ls ∧ wo c (w.take (i + 1)).flatten = wo (wo c (w.take i).flatten) ls := by
  induction h with
  | nil => exact fun i ls h => by simp at h
  | @snoc w p l0 hw a b d e ih =>
    intro i ls hi
    have last : wo c ((w ++ [l0]).take (i + 1)).flatten = wo (wo c ((w ++ [l0]).take i).flatten) ls := by
      rw [take_nx hi, List.flatten_append, List.flatten_cons, List.flatten_nil, List.append_nil, wo_wo]
    by_cases g : i < w.length
    · rw [List.getElem?_append_left g] at hi
      obtain ⟨h1, h2, h3, h4, _⟩ := ih i ls hi
      rw [List.take_append_of_le_length (by omega), List.take_append_of_le_length (by omega)] at last
      rw [List.take_append_of_le_length (by omega), List.take_append_of_le_length (by omega)]
      exact ⟨h1, h2, h3, h4, last⟩
    · have lt := (List.getElem?_eq_some_iff.mp hi).1
      rw [List.length_append, List.length_singleton] at lt
      have ei : i = w.length := by omega
      subst ei
      rw [List.getElem?_append_right (Nat.le_refl _), Nat.sub_self] at hi
      obtain rfl := Option.some.inj hi
      have tl : (w ++ [l0]).take w.length = w := List.take_left
      rw [tl, ← hw.gone] at last
      rw [tl, ← hw.gone]
      exact ⟨a, b, d, e, last⟩
end Mo

/-! ### all unavoidable patterns in normal form, letter by letter -/
namespace Mo
open PySem PySem.Spec PyProof.Rows L2
def abc (n : Nat) : List Nat := (List.range n).map (97 + ·)
theorem mem_abc {n c : Nat} : c ∈ abc n ↔ 97 ≤ c ∧ c < 97 + n := by
  unfold abc
  rw [List.mem_map]
  constructor
  · rintro ⟨i, hi, rfl⟩
    have := List.mem_range.mp hi
    omega
  · rintro ⟨h1, h2⟩
    exact ⟨c - 97, List.mem_range.mpr (by omega), by omega⟩
theorem abc_len (n : Nat) : (abc n).length = n := by unfold abc; rw [List.length_map, List.length_range]
theorem abc_succ (n : Nat) : abc (n + 1) = abc n ++ [97 + n] := by
  unfold abc
  rw [List.range_succ, List.map_append]
  rfl
theorem abc_nodup (n : Nat) : (abc n).Nodup := List.Pairwise.map _ (fun a b h => by omega) List.nodup_range
theorem abc_get {n i : Nat} (h : i < n) : (abc n)[i]? = some (97 + i) := by
  unfold abc
  rw [List.getElem?_map, List.getElem?_range h]
  rfl
theorem abc_take (n k : Nat) : (abc n).take k = abc (min k n) := by
  unfold abc
  rw [← List.map_take, List.take_range]
/-- a pattern in normal form meets a, b, c, .. in this order -/
theorem nf_abc {p : List Nat} : nf p = p ↔ met p = abc (met p).length := by
  constructor
  · intro h
    refine List.ext_getElem? fun i => ?_
    by_cases hi : i < (met p).length
    · rw [abc_get hi, List.getElem?_eq_getElem hi]
      have hm : (met p)[i] ∈ p := mem_met.mp (List.getElem_mem hi)
      obtain ⟨k, hk⟩ := List.getElem?_of_mem hm
      have e : (nf p)[k]? = some (nfc p (met p)[i]) := by
        unfold nf
        rw [List.getElem?_map, hk]
        rfl
      rw [h, hk] at e
      have e2 := Option.some.inj e
      unfold nfc at e2
      rw [nodup_idx (met p) i _ (met_nodup p) (List.getElem?_eq_getElem hi)] at e2
      rw [e2]
    · rw [List.getElem?_eq_none (by omega), List.getElem?_eq_none (by rw [abc_len]; omega)]
  · intro h
    unfold nf
    have e : ∀ c ∈ p, nfc p c = id c := fun c hc => by
      have h1 := idx_at (mem_met.mpr hc)
      have h2 := nfc_lt hc
      have h3 : (met p)[(met p).idxOf c]? = (abc (met p).length)[(met p).idxOf c]? := congrArg (fun l : List Nat => l[(met p).idxOf c]?) h
      rw [h1, abc_get h2] at h3
      exact (Option.some.inj h3).symm
    rw [List.map_congr_left e, List.map_id]
/-- one letter more -/
theorem nf_snoc {p : List Nat} {c : Nat} (h : nf p = p) : nf (p ++ [c]) = p ++ [c] ↔ c ∈ abc ((met p).length + 1) := by
  have h1 := nf_abc.mp h
  rw [nf_abc, met_snoc]
  unfold metStep
  by_cases z : c ∈ met p
  · rw [if_pos z]
    refine ⟨fun _ => ?_, fun _ => h1⟩
    rw [h1] at z
    have := mem_abc.mp z
    exact mem_abc.mpr ⟨this.1, by omega⟩
  · rw [if_neg z, List.length_append, List.length_singleton, abc_succ]
    constructor
    · intro e
      have e2 := (List.append_inj' e rfl).2
      rw [(List.cons.inj e2).1]
      exact List.mem_append_right _ (List.mem_singleton.mpr rfl)
    · intro e
      rcases List.mem_append.mp e with y | y
      · rw [← h1] at y
        exact absurd y z
      · rw [List.mem_singleton.mp y, ← h1]
theorem nf_pre {p : List Nat} {c : Nat} (h : nf (p ++ [c]) = p ++ [c]) : nf p = p := by
  rw [nf_abc] at h ⊢
  rw [met_snoc] at h
  unfold metStep at h
  by_cases z : c ∈ met p
  · rw [if_pos z] at h
    exact h
  · rw [if_neg z, List.length_append, List.length_singleton, abc_succ] at h
    exact (List.append_inj' h rfl).1
open Classical in
noncomputable def upB (e : List Nat) : Bool := decide (nf e = e) && decide (Una e)
open Classical in
theorem upB_iff {e : List Nat} : upB e = true ↔ nf e = e ∧ Una e := by
  unfold upB
  rw [Bool.and_eq_true, decide_eq_true_iff, decide_eq_true_iff]
/-- the patterns of k letters, of the first n variables -/
noncomputable def lvN (n : Nat) : Nat → List (List Nat)
  | 0 => [[]]
  | k + 1 => (lvN n k).flatMap fun p => ((abc n).map fun c => p ++ [c]).filter upB
theorem lv_mem {n : Nat} : ∀ {k : Nat} {p : List Nat}, p ∈ lvN n k ↔ p.length = k ∧ (∀ c ∈ p, c ∈ abc n) ∧ nf p = p ∧ Una p
  | 0, p => by
    show p ∈ [[]] ↔ _
    rw [List.mem_singleton]
    constructor
    · rintro rfl
      exact ⟨rfl, fun c hc => absurd hc (by simp), rfl, steps_una .nil⟩
    · exact fun h => List.eq_nil_of_length_eq_zero h.1
  | k + 1, p => by
    show p ∈ (lvN n k).flatMap _ ↔ _
    rw [List.mem_flatMap]
    constructor
    · rintro ⟨q, hq, hp⟩
      obtain ⟨h1, h2⟩ := List.mem_filter.mp hp
      obtain ⟨c, hc, rfl⟩ := List.mem_map.mp h1
      obtain ⟨l, a, _, _⟩ := lv_mem.mp hq
      obtain ⟨h3, h4⟩ := upB_iff.mp h2
      refine ⟨by rw [List.length_append, l]; rfl, fun x hx => ?_, h3, h4⟩
      rcases List.mem_append.mp hx with z | z
      · exact a x z
      · rw [List.mem_singleton.mp z]
        exact hc
    · rintro ⟨l, a, h3, h4⟩
      have ne : p ≠ [] := fun z => by rw [z] at l; cases l
      obtain ⟨q, c, rfl⟩ : ∃ q c, p = q ++ [c] := ⟨p.dropLast, p.getLast ne, (List.dropLast_concat_getLast ne).symm⟩
      refine ⟨q, lv_mem.mpr ⟨?_, fun x hx => a x (List.mem_append_left _ hx), nf_pre h3, una_block h4 [] q [c] rfl⟩, List.mem_filter.mpr ⟨List.mem_map.mpr ⟨c, a c (by simp), rfl⟩, upB_iff.mpr ⟨h3, h4⟩⟩⟩
      rw [List.length_append, List.length_singleton] at l
      omega
theorem met_le {p : List Nat} {n : Nat} (h : ∀ c ∈ p, c ∈ abc n) : (met p).length ≤ n := by
  have := nd_sub (met p) (abc n) (met_nodup p) fun c hc => h c (mem_met.mp hc)
  rwa [abc_len] at this
theorem lv_short {n k : Nat} {p : List Nat} (h : p ∈ lvN n k) : k + 1 ≤ 2 ^ n := by
  obtain ⟨l, a, _, u⟩ := lv_mem.mp h
  have := una_len u (abc n) a
  rw [abc_len, l] at this
  exact this
theorem lv_end {n k : Nat} (h : 2 ^ n ≤ k) : lvN n k = [] := List.eq_nil_iff_forall_not_mem.mpr fun p hp => by
  have := lv_short hp
  omega
theorem lv_stop {n k : Nat} (h : lvN n k = []) : ∀ j, k ≤ j → lvN n j = [] := fun j hj => by
  induction j with
  | zero =>
    obtain rfl : k = 0 := by omega
    exact h
  | succ j ih =>
    rcases Nat.lt_or_ge j k with z | z
    · obtain rfl : k = j + 1 := by omega
      exact h
    · show (lvN n j).flatMap _ = []
      rw [ih z]
      rfl
theorem lv_len (n : Nat) : ∀ k, (lvN n k).length ≤ n ^ k
  | 0 => Nat.le_refl _
  | k + 1 => by
    have ih := lv_len n k
    have key : ∀ L : List (List Nat), (L.flatMap fun p => ((abc n).map fun c => p ++ [c]).filter upB).length ≤ L.length * n := by
      intro L
      induction L with
      | nil => simp
      | cons p r ih =>
        rw [List.flatMap_cons, List.length_append, List.length_cons, Nat.succ_mul]
        have h := List.length_filter_le upB ((abc n).map fun c => p ++ [c])
        rw [List.length_map, abc_len] at h
        omega
    have h := key (lvN n k)
    show ((lvN n k).flatMap _).length ≤ n ^ k * n
    exact Nat.le_trans h (Nat.mul_le_mul_right _ ih)
theorem lv_few {n k : Nat} (h : n ≤ 3) : (lvN n k).length ≤ 2187 := by
  by_cases z : 2 ^ n ≤ k
  · rw [lv_end z]
    exact Nat.zero_le _
  · have h1 := lv_len n k
    have h2 : k ≤ 7 := by
      have : 2 ^ n ≤ 2 ^ 3 := Nat.pow_le_pow_right (by decide) h
      omega
    have h3 : n ^ k ≤ 3 ^ k := Nat.pow_le_pow_left h k
    have h4 : 3 ^ k ≤ 3 ^ 7 := Nat.pow_le_pow_right (by decide) h2
    omega
/-- those of just n variables, of less than k letters -/
noncomputable def fdN (n k : Nat) : List (List Nat) := (List.range k).flatMap fun i => (lvN n i).filter fun p => decide ((met p).length = n)
theorem fdN_succ (n k : Nat) : fdN n (k + 1) = fdN n k ++ (lvN n k).filter fun p => decide ((met p).length = n) := by
  unfold fdN
  rw [List.range_succ, List.flatMap_append]
  simp
theorem fd_len {n : Nat} (h : n ≤ 3) : ∀ k, (fdN n k).length ≤ 2187 * k
  | 0 => Nat.le_refl _
  | k + 1 => by
    have ih := fd_len h k
    have h1 := List.length_filter_le (fun p => decide ((met p).length = n)) (lvN n k)
    have h2 := lv_few (k := k) h
    rw [fdN_succ, List.length_append]
    omega
/-- when a level is empty, all is found -/
theorem fd_stop {n k : Nat} (h : lvN n k = []) : ∀ j, k ≤ j → fdN n j = fdN n k := fun j hj => by
  induction j with
  | zero =>
    obtain rfl : k = 0 := by omega
    rfl
  | succ j ih =>
    rcases Nat.lt_or_ge j k with z | z
    · obtain rfl : k = j + 1 := by omega
      rfl
    · rw [fdN_succ, lv_stop h j z, ih z]
      simp
theorem fd_mem {n : Nat} (hn : n ≤ 3) {p : List Nat} : p ∈ fdN n 8 ↔ nf p = p ∧ Una p ∧ (met p).length = n := by
  unfold fdN
  rw [List.mem_flatMap]
  constructor
  · rintro ⟨i, _, hp⟩
    obtain ⟨h1, h2⟩ := List.mem_filter.mp hp
    obtain ⟨_, _, h3, h4⟩ := lv_mem.mp h1
    exact ⟨h3, h4, of_decide_eq_true h2⟩
  · rintro ⟨h3, h4, h5⟩
    have a : ∀ c ∈ p, c ∈ abc n := fun c hc => by
      have := mem_met.mpr hc
      rw [nf_abc.mp h3, h5] at this
      exact this
    have m : p ∈ lvN n p.length := lv_mem.mpr ⟨rfl, a, h3, h4⟩
    have h6 := lv_short m
    have h7 : 2 ^ n ≤ 2 ^ 3 := Nat.pow_le_pow_right (by decide) hn
    exact ⟨p.length, List.mem_range.mpr (by omega), List.mem_filter.mpr ⟨m, decide_eq_true h5⟩⟩
end Mo

/-! ### l += m of lists; a dict != {} -/
namespace Mo
open PySem PySem.Spec PyProof.Rows L2
section
variable {X : Cx}
theorem ip_cat : PIp X .Add rExt2 := fun pins s σ H x y u v Q I rx ry h => iop_ext pins s σ H x y u v Q I rx ry h
/-- a dict of anything != {} -/
def rNeNilD : R2 := fun x y H Q => ∃ a b ks, x = .ref a ∧ y = .ref b ∧ H a = some (.dK ks) ∧ H b = some (.dK []) ∧ Q (.bl (!ks.isEmpty)) H
theorem op_neNilD (hu : X.A.units + 64 < cLine) : OpR X (compareOp .NotEq) rNeNilD := by
  intro pins s σ H x y v u Q I rx ry h
  obtain ⟨a, b, ks, rfl, rfl, ea, eb, q⟩ := h
  obtain rfl : v = Value.ref a := rx
  obtain rfl : u = Value.ref b := ry
  obtain ⟨_, ya, va, ra, da⟩ := (show ObjOk X.prog X.w H s.heap a (.dK ks) from I.hok a _ ea)
  obtain ⟨_, yb, vb, rb, db⟩ := (show ObjOk X.prog X.w H s.heap b (.dK []) from I.hok b _ eb)
  cases rb
  have ml := ra.length
  refine PySem.W.keq_ne (knd := mixKind X.prog X.w) (r := true) ya yb da db (by omega) (fun hl => ?_) (fin_bl I q ?_)
  · have e : va = [] := List.eq_nil_of_length_eq_zero hl
    subst e
    exact .nil
  · cases ks with
    | nil => simp at ml; simp [← ml]
    | cons k r => simp at ml; simp [← ml]
end
end Mo

/-! ### a walk whose turn is anything: for comprehensions of two sources -/
namespace Mo
open PySem PySem.Spec PyProof.Rows L2
theorem loop_it {J : It} {n : Nat} {G : Hp → Prop} {Y : Nat → Hp → V → Hp → Prop} {R : V → Hp → (Hp → Prop) → Prop} {H0 : Hp} {Qd : Hp → Prop} (w : Walk J n G Y) (Pv : Nat → Hp → Prop) (h0 : Pv 0 H0) (hG : ∀ i H, i ≤ n → Pv i H → G H)
    (hs : ∀ i x H H', i < n → Pv i H → Y i H x H' → R x H' (Pv (i + 1))) (hd : ∀ H, Pv n H → Qd H) :
    ∃ W : Nat → Nat → Hp → Prop, (∃ m, W 0 m H0) ∧ ∀ i m H, W i m H →
      (J.stop i H ∧ Qd H) ∨ (J.go i H ∧ ∃ Nx : Hp → Prop, (∀ H', Nx H' → ∃ m', m' < m ∧ W (i + 1) m' H') ∧ ∀ x H', J.yld i H x H' → R x H' Nx) := by
  refine ⟨fun i m H => Pv i H ∧ i + m = n, ⟨n, h0, Nat.zero_add n⟩, fun i m H h => ?_⟩
  obtain ⟨p, e⟩ := h
  have g := hG i H (by omega) p
  rcases Nat.eq_zero_or_pos m with z | z
  · have ei : i = n := by omega
    subst ei
    exact .inl ⟨w.stops H g, hd H p⟩
  · have lt : i < n := by omega
    exact .inr ⟨w.goes i H lt g, Pv (i + 1), fun H' q => ⟨m - 1, by omega, q, by omega⟩, fun x H' y => hs i x H H' lt p (w.yields i H x H' lt g y)⟩
theorem pe_fldK {X : Cx} {e : Expr} {f : Str} {pos : Pos} {ta : TE} {K : PySem.W.Frag} (h : X.K = K) (he : PE X e ta) (hb : attributeBase e f X.env (eval e X.env) = eval e X.env) : PE X (.Attribute e f pos) (tFld K ta f) := by
  subst h
  exact pe_fld he hb
theorem op_repNK {X : Cx} {K : PySem.W.Frag} (h : X.K = K) : OpR X (binaryOp .Mult) (rRepN K) := by
  subst h
  exact op_repN
end Mo

/-! ### the search meets each pattern by the fewest steps -/
namespace Mo
open PySem PySem.Spec PyProof.Rows L2
structure Lv (Z : Wz) (i : Nat) : Prop where
  up : ∀ (j k : Nat) (a b : List Nat × List (List Nat)), j ≤ k → Z[j]? = some a → Z[k]? = some b → a.2.length ≤ b.2.length
  top : ∀ zi, Z[i]? = some zi → ∀ z ∈ Z, z.2.length ≤ zi.2.length + 1
theorem grow_lv {here : List Nat} {way : List (List Nat)} {Z : Wz} {ls : List Nat} (h1 : ∀ (j k : Nat) (a b : List Nat × List (List Nat)), j ≤ k → Z[j]? = some a → Z[k]? = some b → a.2.length ≤ b.2.length) (h2 : ∀ z ∈ Z, z.2.length ≤ way.length + 1) :
    (∀ (j k : Nat) (a b : List Nat × List (List Nat)), j ≤ k → (growZ here way Z ls)[j]? = some a → (growZ here way Z ls)[k]? = some b → a.2.length ≤ b.2.length) ∧ ∀ z ∈ growZ here way Z ls, z.2.length ≤ way.length + 1 := by
  unfold growZ
  split
  · exact ⟨h1, h2⟩
  · have hb : ∀ z ∈ Z ++ [(wo here ls, way ++ [ls])], z.2.length ≤ way.length + 1 := fun z hz => by
      rcases List.mem_append.mp hz with y | y
      · exact h2 z y
      · rw [List.mem_singleton.mp y]
        show (way ++ [ls]).length ≤ _
        rw [List.length_append]
        exact Nat.le_refl _
    refine ⟨fun j k a b hjk ha hb2 => ?_, hb⟩
    by_cases g : k < Z.length
    · rw [List.getElem?_append_left g] at hb2
      rw [List.getElem?_append_left (by omega)] at ha
      exact h1 j k a b hjk ha hb2
    · rw [List.getElem?_append_right (by omega)] at hb2
      have e := List.mem_singleton.mp (List.mem_of_getElem? hb2)
      have := hb a (List.mem_of_getElem? ha)
      rw [e]
      show _ ≤ (way ++ [ls]).length
      rw [List.length_append]
      exact this
theorem grows_lv {here : List Nat} {way : List (List Nat)} : ∀ (fs : List (List Nat)) (Z : Wz), (∀ (j k : Nat) (a b : List Nat × List (List Nat)), j ≤ k → Z[j]? = some a → Z[k]? = some b → a.2.length ≤ b.2.length) → (∀ z ∈ Z, z.2.length ≤ way.length + 1) →
    (∀ (j k : Nat) (a b : List Nat × List (List Nat)), j ≤ k → (fs.foldl (growZ here way) Z)[j]? = some a → (fs.foldl (growZ here way) Z)[k]? = some b → a.2.length ≤ b.2.length) ∧ ∀ z ∈ fs.foldl (growZ here way) Z, z.2.length ≤ way.length + 1
  | [], Z, h1, h2 => ⟨h1, h2⟩
  | l :: fs, Z, h1, h2 => by
    obtain ⟨a, b⟩ := grow_lv (here := here) (ls := l) h1 h2
    rw [List.foldl_cons]
    exact grows_lv fs _ a b
theorem runZ_lv (c : List Nat) : ∀ n, Lv (runZ c n) n
  | 0 => by
    refine ⟨fun j k a b _ ha hb => ?_, fun zi _ z hz => ?_⟩
    · rw [List.mem_singleton.mp (List.mem_of_getElem? ha)]
      exact Nat.zero_le _
    · rw [List.mem_singleton.mp hz]
      exact Nat.zero_le _
  | n + 1 => by
    have ih := runZ_lv c n
    show Lv (stepZ (runZ c n) n) (n + 1)
    cases e : (runZ c n)[n]? with
    | none =>
      have es : stepZ (runZ c n) n = runZ c n := by
        unfold stepZ
        rw [e]
      rw [es]
      refine ⟨ih.up, fun zi h => ?_⟩
      have := (List.getElem?_eq_some_iff.mp h).1
      have := List.getElem?_eq_none_iff.mp e
      omega
    | some z =>
      have es : stepZ (runZ c n) n = (Fs z.1).foldl (growZ z.1 z.2) (runZ c n) := by
        unfold stepZ
        rw [e]
      obtain ⟨Y, hY⟩ := grows_pre z.1 z.2 (Fs z.1) (runZ c n)
      obtain ⟨a, b⟩ := grows_lv (here := z.1) (Fs z.1) _ ih.up (ih.top z e)
      rw [es]
      refine ⟨a, fun zi h y hy => ?_⟩
      have hz : ((Fs z.1).foldl (growZ z.1 z.2) (runZ c n))[n]? = some z := by
        rw [hY, List.getElem?_append_left (List.getElem?_eq_some_iff.mp e).1]
        exact e
      have h1 := a n (n + 1) z zi (by omega) hz h
      have h2 := b y hy
      omega
/-- what some steps lead to is met by no more steps -/
theorem met_by {c : List Nat} {Z : Wz} {n : Nat} (eZ : Z = runZ c n) (zn : Z.length ≤ n) (wy : Way c Z Z.length) {w : List (List Nat)} {p : List Nat} (h : Steps c w p) : ∃ z ∈ Z, z.1 = p ∧ z.2.length ≤ w.length := by
  induction h with
  | nil => exact ⟨_, List.mem_of_getElem? wy.st, rfl, Nat.zero_le _⟩
  | @snoc w p ls hw a b d e ih =>
    obtain ⟨z, hz, rfl, hlen⟩ := ih
    obtain ⟨k, hk⟩ := List.getElem?_of_mem hz
    have kl := (List.getElem?_eq_some_iff.mp hk).1
    obtain ⟨fsets, _⟩ := wy.dn k z kl hk
    have inF : ls ∈ Fs z.1 := (fsets.mem ls).mpr ⟨a, b, d, e⟩
    -- the pattern at k stands there when its turn comes
    have kk : k < (runZ c k).length := Classical.byContradiction fun g => by
      have := runZ_stop (c := c) (n := k) (by omega) (n - k)
      rw [show k + (n - k) = n by omega, ← eZ] at this
      rw [this] at kl
      exact g kl
    obtain ⟨Y, hY⟩ := runZ_pre c k (n - k)
    rw [show k + (n - k) = n by omega, ← eZ] at hY
    have hk2 : (runZ c k)[k]? = some z := by
      rw [hY, List.getElem?_append_left kk] at hk
      exact hk
    have es : runZ c (k + 1) = (Fs z.1).foldl (growZ z.1 z.2) (runZ c k) := by
      show stepZ (runZ c k) k = _
      unfold stepZ
      rw [hk2]
    have lv := runZ_lv c k
    obtain ⟨_, top⟩ := grows_lv (here := z.1) (Fs z.1) _ lv.up (lv.top z hk2)
    have inK := (grows_keys z.1 z.2 (Fs z.1) (runZ c k)).2 ls inF
    obtain ⟨y, hy, ey⟩ := List.mem_map.mp inK
    have ylen := top y hy
    obtain ⟨Y2, hY2⟩ := runZ_pre c (k + 1) (n - (k + 1))
    rw [show k + 1 + (n - (k + 1)) = n by omega, ← eZ] at hY2
    refine ⟨y, ?_, ey, by rw [List.length_append, List.length_singleton]; omega⟩
    rw [hY2, es]
    exact List.mem_append_left _ hy
theorem one_way {c : List Nat} {Z : Wz} (wy : Way c Z Z.length) {k : Nat} {p : List Nat} {st : List (List Nat)} (hz : Z[k]? = some (p, st)) {z : List Nat × List (List Nat)} (h : z ∈ Z) (e : z.1 = p) : z.2 = st := by
  obtain ⟨j, hj⟩ := List.getElem?_of_mem h
  have a1 : (keysZ Z)[k]? = some p := by
    unfold keysZ
    rw [List.getElem?_map, hz]
    rfl
  have a2 : (keysZ Z)[j]? = some p := by
    unfold keysZ
    rw [List.getElem?_map, hj]
    exact congrArg some e
  have ej := (List.getElem?_inj (List.getElem?_eq_some_iff.mp a1).1 wy.nd).mp (a1.trans a2.symm)
  rw [← ej, hz] at hj
  rw [← Option.some.inj hj]
theorem fewest {c : List Nat} {Z : Wz} {n k : Nat} {p : List Nat} {st : List (List Nat)} (eZ : Z = runZ c n) (zn : Z.length ≤ n) (wy : Way c Z Z.length) (hz : Z[k]? = some (p, st)) {w : List (List Nat)} (h : Steps c w p) : st.length ≤ w.length := by
  obtain ⟨z, hz2, e, l⟩ := met_by eZ zn wy h
  rw [one_way wy hz hz2 e] at l
  exact l
/-- steps after steps -/
theorem Steps.then {c p q : List Nat} {w v : List (List Nat)} (h : Steps c w p) (k : Steps p v q) : Steps c (w ++ v) q := by
  induction k with
  | nil => rw [List.append_nil]; exact h
  | snoc _ a b d e ih => rw [← List.append_assoc]; exact .snoc ih a b d e
theorem una_from {c p : List Nat} {w : List (List Nat)} (h : Steps c w p) (u : Una p) : Una c := by
  obtain ⟨v, hv⟩ := una_steps u
  exact steps_una (h.then hv)
end Mo

/-! ### components as groups, joined one edge after the other -/
namespace Mo
open PySem PySem.Spec PyProof.Rows L2
section
variable {X : Cx}
def rNotInT (K : PySem.W.Frag) : R2 := fun x y H Q => ∃ d ds, Dp K H x d ∧ Dp K H y (.tuple ds) ∧ SeqAt.shaped d = true ∧ SeqAt.shaped (.tuple ds) = true ∧ Q (.bl (!ds.any fun z => PyData.eqv z d)) H
theorem op_notInT (hu : X.A.units + 65 < cLine) : OpR X (compareOp .NotIn) (rNotInT X.K) := by
  intro pins s σ H x y v u Q I rx ry h
  obtain ⟨d, ds, hd, he, sd, se, q⟩ := h
  obtain ⟨as, r1⟩ := Dp.reads I d x v hd rx
  obtain ⟨bs, r2⟩ := Dp.reads I (.tuple ds) y u he ry
  exact SeqAt.notIn_tuple_reads r2 r1 (SeqAt.canLay_of_shaped se) (SeqAt.canLay_of_shaped sd) (room_in_shaped sd hu) ⟨.bl _, H, I, rfl, q⟩
theorem op_notInTK {K : PySem.W.Frag} (h : X.K = K) (hu : X.A.units + 65 < cLine) : OpR X (compareOp .NotIn) (rNotInT K) := by
  subst h
  exact op_notInT hu
end
theorem At.iff {p : Pt} {u : Nd} : At p u ↔ if u.1 then u.2 ∈ p.2 else u.2 ∈ p.1 := by
  unfold At
  cases u.1 <;> exact Iff.rfl
structure Grp (es : List (Nat × Nat)) (ns : List Nat) (qs : List Pt) : Prop where
  cmp : ∀ q ∈ qs, ∃ v : Nd, v.2 ∈ ns ∧ ∀ u, At q u ↔ Cn es v u
  cov : ∀ v : Nd, v.2 ∈ ns → ∃ q ∈ qs, At q v
  dis : qs.Pairwise fun q r => ∀ u, At q u → ¬ At r u
  nd : ∀ q ∈ qs, q.1.Nodup ∧ q.2.Nodup
  sub : ∀ q ∈ qs, ∀ u, At q u → u.2 ∈ ns
def startG (ns : List Nat) : List Pt := ns.flatMap fun c => [([c], []), ([], [c])]
theorem startG_snoc (ns : List Nat) (c : Nat) : startG (ns ++ [c]) = startG ns ++ [([c], []), ([], [c])] := by
  unfold startG
  rw [List.flatMap_append]
  simp
theorem startG_len : ∀ ns : List Nat, (startG ns).length = 2 * ns.length
  | [] => rfl
  | c :: ns => by
    have := startG_len ns
    unfold startG at this ⊢
    rw [List.flatMap_cons, List.length_append, this, List.length_cons (a := c)]
    show 2 + 2 * ns.length = _
    omega
theorem startG_mem {ns : List Nat} {q : Pt} : q ∈ startG ns ↔ ∃ c ∈ ns, q = ([c], []) ∨ q = ([], [c]) := by
  unfold startG
  rw [List.mem_flatMap]
  simp
theorem at_one {c : Nat} {u : Nd} : At ([c], []) u ↔ u = (false, c) := by
  obtain ⟨s, d⟩ := u
  rw [At.iff]
  cases s <;> simp
theorem at_two {c : Nat} {u : Nd} : At ([], [c]) u ↔ u = (true, c) := by
  obtain ⟨s, d⟩ := u
  rw [At.iff]
  cases s <;> simp
theorem Grp.start : ∀ {ns : List Nat}, ns.Nodup → Grp [] ns (startG ns) := by
  intro ns nd
  refine ⟨fun q hq => ?_, fun v hv => ?_, ?_, fun q hq => ?_, fun q hq u hu => ?_⟩
  · obtain ⟨c, hc, rfl | rfl⟩ := startG_mem.mp hq
    · exact ⟨(false, c), hc, fun u => by rw [at_one, Cn.nil_iff]⟩
    · exact ⟨(true, c), hc, fun u => by rw [at_two, Cn.nil_iff]⟩
  · obtain ⟨s, c⟩ := v
    cases s
    · exact ⟨([c], []), startG_mem.mpr ⟨c, hv, .inl rfl⟩, at_one.mpr rfl⟩
    · exact ⟨([], [c]), startG_mem.mpr ⟨c, hv, .inr rfl⟩, at_two.mpr rfl⟩
  · induction ns with
    | nil => exact .nil
    | cons c ns ih =>
      have nd2 := List.nodup_cons.mp nd
      have e : startG (c :: ns) = ([c], []) :: ([], [c]) :: startG ns := rfl
      rw [e]
      have other : ∀ q ∈ startG ns, ∀ u : Nd, u.2 = c → ¬ At q u := fun q hq u hu ha => by
        obtain ⟨d, hd, rfl | rfl⟩ := startG_mem.mp hq
        · rw [at_one.mp ha] at hu
          exact nd2.1 (by have : d = c := hu; exact this ▸ hd)
        · rw [at_two.mp ha] at hu
          exact nd2.1 (by have : d = c := hu; exact this ▸ hd)
      refine List.pairwise_cons.mpr ⟨fun q hq u hu => ?_, List.pairwise_cons.mpr ⟨fun q hq u hu => ?_, ih nd2.2⟩⟩
      · rw [at_one.mp hu]
        rcases List.mem_cons.mp hq with rfl | hq
        · rw [at_two]
          simp
        · exact other q hq _ rfl
      · rw [at_two.mp hu]
        exact other q hq _ rfl
  · obtain ⟨c, hc, rfl | rfl⟩ := startG_mem.mp hq <;> simp
  · obtain ⟨c, hc, rfl | rfl⟩ := startG_mem.mp hq
    · rw [at_one.mp hu]
      exact hc
    · rw [at_two.mp hu]
      exact hc
theorem Grp.far {es : List (Nat × Nat)} {ns : List Nat} {qs : List Pt} (h : Grp es ns qs) {q r : Pt} (hq : q ∈ qs) (hr : r ∈ qs) (ne : q ≠ r) : ∀ u, At q u → ¬ At r u := by
  obtain ⟨i, hi⟩ := List.getElem?_of_mem hq
  obtain ⟨j, hj⟩ := List.getElem?_of_mem hr
  obtain ⟨li, ei⟩ := List.getElem?_eq_some_iff.mp hi
  obtain ⟨lj, ej⟩ := List.getElem?_eq_some_iff.mp hj
  have p := List.pairwise_iff_getElem.mp h.dis
  rcases Nat.lt_trichotomy i j with lt | rfl | gt
  · have := p i j li lj lt
    rw [ei, ej] at this
    exact this
  · rw [hi] at hj
    exact absurd (Option.some.inj hj) ne
  · have := p j i lj li gt
    rw [ei, ej] at this
    exact fun u a b => this u b a
theorem Grp.same {es : List (Nat × Nat)} {ns : List Nat} {qs : List Pt} {a b : Nat} (h : Grp es ns qs) {q : Pt} (hq : q ∈ qs) (ha : At q (false, a)) (hb : At q (true, b)) : Grp (es ++ [(a, b)]) ns qs := by
  obtain ⟨v, hv, hc⟩ := h.cmp q hq
  have ab : Cn es (false, a) (true, b) := ((hc _).mp ha).symm.trans ((hc _).mp hb)
  have key : ∀ {u w : Nd}, Cn (es ++ [(a, b)]) u w ↔ Cn es u w := by
    intro u w
    rw [Cn.add]
    constructor
    · rintro (k | ⟨h1, h2⟩)
      · exact k
      · have one : ∀ {x : Nd}, Tch es a b x → Cn es x (false, a) := fun t => t.elim id fun t => t.trans ab.symm
        exact (one h1).trans (one h2).symm
    · exact .inl
  exact ⟨fun q hq => by
    obtain ⟨v, hv, hc⟩ := h.cmp q hq
    exact ⟨v, hv, fun u => (hc u).trans key.symm⟩, h.cov, h.dis, h.nd, h.sub⟩
def joinP (q r : Pt) : Pt := (q.1 ++ r.1, q.2 ++ r.2)
theorem at_join {q r : Pt} {u : Nd} : At (joinP q r) u ↔ At q u ∨ At r u := by
  rw [At.iff, At.iff, At.iff]
  unfold joinP
  cases u.1 <;> simp
def otherG (q1 q2 : Pt) (q : Pt) : Bool := !(decide (q1 = q) || decide (q2 = q))
theorem other_iff {q1 q2 q : Pt} : otherG q1 q2 q = true ↔ q ≠ q1 ∧ q ≠ q2 := by
  unfold otherG
  rw [Bool.not_eq_true', Bool.or_eq_false_iff, decide_eq_false_iff_not, decide_eq_false_iff_not]
  exact ⟨fun h => ⟨fun e => h.1 e.symm, fun e => h.2 e.symm⟩, fun h => ⟨fun e => h.1 e.symm, fun e => h.2 e.symm⟩⟩
theorem Grp.join {es : List (Nat × Nat)} {ns : List Nat} {qs : List Pt} {a b : Nat} (h : Grp es ns qs) {q1 q2 : Pt} (h1 : q1 ∈ qs) (h2 : q2 ∈ qs) (ne : q1 ≠ q2) (ha : At q1 (false, a)) (hb : At q2 (true, b)) (hn : a ∈ ns) :
    Grp (es ++ [(a, b)]) ns (qs.filter (otherG q1 q2) ++ [joinP q1 q2]) := by
  obtain ⟨v1, _, c1⟩ := h.cmp q1 h1
  obtain ⟨v2, _, c2⟩ := h.cmp q2 h2
  have e1 : ∀ u, At q1 u ↔ Cn es (false, a) u := fun u => by
    have z := (c1 _).mp ha
    exact ⟨fun k => z.symm.trans ((c1 u).mp k), fun k => (c1 u).mpr (z.trans k)⟩
  have e2 : ∀ u, At q2 u ↔ Cn es (true, b) u := fun u => by
    have z := (c2 _).mp hb
    exact ⟨fun k => z.symm.trans ((c2 u).mp k), fun k => (c2 u).mpr (z.trans k)⟩
  refine ⟨fun q hq => ?_, fun v hv => ?_, ?_, fun q hq => ?_, fun q hq u hu => ?_⟩
  · rcases List.mem_append.mp hq with z | z
    · obtain ⟨hq1, z2⟩ := List.mem_filter.mp z
      obtain ⟨n1, n2⟩ := other_iff.mp z2
      obtain ⟨v, hv, hc⟩ := h.cmp q hq1
      have no : ¬ Tch es a b v := fun t => by
        rcases t with t | t
        · exact h.far hq1 h1 n1 _ ((hc _).mpr t) ha
        · exact h.far hq1 h2 n2 _ ((hc _).mpr t) hb
      refine ⟨v, hv, fun u => ?_⟩
      rw [hc, Cn.add]
      exact ⟨.inl, fun k => k.elim id fun k => absurd k.1 no⟩
    · rw [List.mem_singleton.mp z]
      refine ⟨(false, a), hn, fun u => ?_⟩
      rw [at_join, e1, e2, Cn.add]
      constructor
      · rintro (k | k)
        · exact .inl k
        · exact .inr ⟨.inl (.refl _), .inr k.symm⟩
      · rintro (k | ⟨_, k | k⟩)
        · exact .inl k
        · exact .inl k.symm
        · exact .inr k.symm
  · obtain ⟨q, hq, hv2⟩ := h.cov v hv
    by_cases g : otherG q1 q2 q = true
    · exact ⟨q, List.mem_append_left _ (List.mem_filter.mpr ⟨hq, g⟩), hv2⟩
    · refine ⟨joinP q1 q2, List.mem_append_right _ (List.mem_singleton.mpr rfl), at_join.mpr ?_⟩
      rw [other_iff] at g
      by_cases g1 : q = q1
      · exact .inl (g1 ▸ hv2)
      · by_cases g2 : q = q2
        · exact .inr (g2 ▸ hv2)
        · exact absurd ⟨g1, g2⟩ g
  · refine List.pairwise_append.mpr ⟨h.dis.filter _, by simp, fun q hq r hr u hu => ?_⟩
    rw [List.mem_singleton.mp hr, at_join]
    obtain ⟨hq1, z2⟩ := List.mem_filter.mp hq
    obtain ⟨n1, n2⟩ := other_iff.mp z2
    rintro (k | k)
    · exact h.far hq1 h1 n1 u hu k
    · exact h.far hq1 h2 n2 u hu k
  · rcases List.mem_append.mp hq with z | z
    · exact h.nd q (List.mem_filter.mp z).1
    · rw [List.mem_singleton.mp z]
      have n1 := h.nd q1 h1
      have n2 := h.nd q2 h2
      have f := h.far h1 h2 ne
      exact ⟨List.nodup_append.mpr ⟨n1.1, n2.1, fun x hx y hy e => f (false, x) hx (e ▸ hy)⟩, List.nodup_append.mpr ⟨n1.2, n2.2, fun x hx y hy e => f (true, x) hx (e ▸ hy)⟩⟩
  · rcases List.mem_append.mp hq with z | z
    · exact h.sub q (List.mem_filter.mp z).1 u hu
    · rw [List.mem_singleton.mp z] at hu
      rcases at_join.mp hu with k | k
      · exact h.sub q1 h1 u k
      · exact h.sub q2 h2 u k
theorem filter_less {α : Type} {p : α → Bool} : ∀ {l : List α} {x : α}, x ∈ l → p x = false → (l.filter p).length + 1 ≤ l.length
  | y :: l, x, hx, hp => by
    rcases List.mem_cons.mp hx with rfl | hx
    · rw [List.filter_cons_of_neg (by simp [hp]), List.length_cons]
      have := List.length_filter_le p l
      omega
    · have ih := filter_less (p := p) hx hp
      by_cases g : p y = true
      · rw [List.filter_cons_of_pos g, List.length_cons, List.length_cons]
        omega
      · rw [List.filter_cons_of_neg g, List.length_cons]
        omega
theorem Grp.lens {es : List (Nat × Nat)} {ns : List Nat} {qs : List Pt} (h : Grp es ns qs) {q : Pt} (hq : q ∈ qs) : q.1.length ≤ ns.length ∧ q.2.length ≤ ns.length :=
  ⟨nd_sub _ _ (h.nd q hq).1 fun c hc => h.sub q hq (false, c) hc, nd_sub _ _ (h.nd q hq).2 fun c hc => h.sub q hq (true, c) hc⟩
def meetG (ls os : List Nat) : Bool := ls.any fun c => decide (c ∈ os)
theorem meetG_iff {ls os : List Nat} : meetG ls os = true ↔ ∃ c ∈ ls, c ∈ os := by
  unfold meetG
  rw [List.any_eq_true]
  exact exists_congr fun c => and_congr_right fun _ => decide_eq_true_iff
theorem Grp.free {es : List (Nat × Nat)} {ns ls : List Nat} {qs : List Pt} (h : Grp es ns qs) (hs : ∀ c ∈ ls, c ∈ ns) : (∀ q ∈ qs, (meetG ls q.1 && meetG ls q.2) = false) ↔ Free es ls := by
  constructor
  · intro z a ha b hb c
    obtain ⟨q, hq, haq⟩ := h.cov (false, a) (hs a ha)
    obtain ⟨v, _, hc⟩ := h.cmp q hq
    have h1 : meetG ls q.1 = true := meetG_iff.mpr ⟨a, ha, haq⟩
    have h2 : meetG ls q.2 = true := meetG_iff.mpr ⟨b, hb, (hc (true, b)).mpr (((hc _).mp haq).trans c)⟩
    have := z q hq
    rw [h1, h2] at this
    exact Bool.noConfusion this
  · intro fr q hq
    obtain ⟨v, _, hc⟩ := h.cmp q hq
    cases e : (meetG ls q.1 && meetG ls q.2) with
    | false => rfl
    | true =>
      obtain ⟨e1, e2⟩ := Bool.and_eq_true_iff.mp e
      obtain ⟨a, ha, haq⟩ := meetG_iff.mp e1
      obtain ⟨b, hb, hbq⟩ := meetG_iff.mp e2
      exact absurd ((((hc (false, a)).mp haq).symm).trans ((hc (true, b)).mp hbq)) (fr a ha b hb)
/-! ### a group as data -/
def grD (q : Pt) : PyData := .tuple [.list (q.1.map fun c => .str (ch1 c)), .list (q.2.map fun c => .str (ch1 c))]
theorem strsG_lay : ∀ {cs : List Nat}, (∀ c ∈ cs, c < 128) → PyData.canLayAll0 (cs.map fun c => .str (ch1 c)) = true
  | [], _ => by simp [PyData.canLayAll0]
  | c :: cs, h => by
    rw [List.map_cons]
    simp only [PyData.canLayAll0]
    rw [ch1_lay (h c List.mem_cons_self), strsG_lay fun d hd => h d (List.mem_cons_of_mem _ hd)]
    rfl
theorem strsG_depth : ∀ cs : List Nat, PyData.depthAll (cs.map fun c => .str (ch1 c)) = 0
  | [] => by simp [PyData.depthAll]
  | c :: cs => by
    rw [List.map_cons]
    simp only [PyData.depthAll, PyData.depth, strsG_depth cs]
    rfl
theorem strsG_eqv : ∀ {cs ds : List Nat}, PyData.eqvAll (cs.map fun c => .str (ch1 c)) (ds.map fun c => .str (ch1 c)) = decide (cs = ds)
  | [], [] => by simp [PyData.eqvAll]
  | [], d :: ds => by simp [PyData.eqvAll]
  | c :: cs, [] => by simp [PyData.eqvAll]
  | c :: cs, d :: ds => by
    rw [List.map_cons, List.map_cons]
    simp only [PyData.eqvAll, PyData.eqv]
    rw [strsG_eqv, Bool.eq_iff_iff]
    simp only [Bool.and_eq_true, beq_iff_eq, decide_eq_true_eq, List.cons.injEq]
    exact and_congr_left fun _ => ⟨fun h => ch1_inj h, fun h => by rw [h]⟩
theorem grD_eqv (q r : Pt) : PyData.eqv (grD q) (grD r) = decide (q = r) := by
  have e : PyData.eqv (grD q) (grD r) = (decide (q.1 = r.1) && (decide (q.2 = r.2) && true)) := by
    unfold grD
    simp only [PyData.eqv, PyData.eqvAll, strsG_eqv]
  rw [e, Bool.eq_iff_iff]
  simp only [Bool.and_true, Bool.and_eq_true, decide_eq_true_eq]
  exact ⟨fun h => Prod.ext h.1 h.2, fun h => by rw [h]; exact ⟨rfl, rfl⟩⟩
theorem grD_depth (q : Pt) : (grD q).depth = 2 := by
  unfold grD
  simp [PyData.depth, PyData.depthAll, strsG_depth]
theorem grD_lay {q : Pt} (h : ∀ c, c ∈ q.1 ∨ c ∈ q.2 → c < 128) : (grD q).canLay0 = true := by
  unfold grD
  simp only [PyData.canLay0, PyData.canLayAll0]
  rw [strsG_lay fun c hc => h c (.inl hc), strsG_lay fun c hc => h c (.inr hc)]
  rfl
theorem grD_shaped {q : Pt} (h : ∀ c, c ∈ q.1 ∨ c ∈ q.2 → c < 128) : SeqAt.shaped (grD q) = true := by
  show ((grD q).canLay0 && decide ((grD q).depth ≤ 64)) = true
  rw [grD_lay h, grD_depth]
  rfl
theorem grTwo_shaped {q r : Pt} (h : ∀ c, c ∈ q.1 ∨ c ∈ q.2 → c < 128) (g : ∀ c, c ∈ r.1 ∨ c ∈ r.2 → c < 128) : SeqAt.shaped (.tuple [grD q, grD r]) = true := by
  have e : PyData.canLay0 (.tuple [grD q, grD r]) = true := by
    simp only [PyData.canLay0, PyData.canLayAll0]
    rw [grD_lay h, grD_lay g]
    rfl
  show (PyData.canLay0 (.tuple [grD q, grD r]) && decide (PyData.depth (.tuple [grD q, grD r]) ≤ 64)) = true
  rw [e]
  simp [PyData.depth, PyData.depthAll, grD_depth]
theorem sgs_dp {K : PySem.W.Frag} {H : Hp} : ∀ cs : List Nat, DpAll K H (cs.map sg) (cs.map fun c => .str (ch1 c))
  | [] => .nil
  | c :: cs => .cons (.str _) (sgs_dp cs)
/-- a group: its tuple, its two lists, what they hold -/
structure Gp where
  p : Addr
  a : Addr
  b : Addr
  q : Pt
structure GOk (H : Hp) (G : Addr) (g : Gp) : Prop where
  hp : H g.p = some (.tup [.ref g.a, .ref g.b])
  ha : H g.a = some (.lst (g.q.1.map sg))
  hb : H g.b = some (.lst (g.q.2.map sg))
  na : g.a ≠ G
  nb : g.b ≠ G
theorem GOk.same {H H' : Hp} {G : Addr} {g : Gp} (h : GOk H G g) (s : Same H H') : GOk H' G g := ⟨s _ _ h.hp, s _ _ h.ha, s _ _ h.hb, h.na, h.nb⟩
theorem GOk.new {H : Hp} {G G' : Addr} {g : Gp} (h : GOk H G g) (n : H G' = none) : GOk H G' g := ⟨h.hp, h.ha, h.hb, (fun e => by have := h.ha; rw [e, n] at this; cases this), (fun e => by have := h.hb; rw [e, n] at this; cases this)⟩
theorem GOk.set {H : Hp} {G : Addr} {g : Gp} {xs : List V} {o : HO} (h : GOk H G g) (hG : H G = some (.lst xs)) : GOk (upd H G o) G g :=
  ⟨by rw [upd_ne (fun e => by have := h.hp; rw [e, hG] at this; cases this)]; exact h.hp, by rw [upd_ne h.na]; exact h.ha, by rw [upd_ne h.nb]; exact h.hb, h.na, h.nb⟩
theorem GOk.dp {K : PySem.W.Frag} {H : Hp} {G : Addr} {g : Gp} (h : GOk H G g) : Dp K H (.ref g.p) (grD g.q) := .tup (SqT.of h.hp) (.cons (.lst (SqL.of h.ha) (sgs_dp _)) (.cons (.lst (SqL.of h.hb) (sgs_dp _)) .nil))
theorem filter_one {α : Type} {p : α → Bool} {l : List α} {i : Nat} {x : α} (h : l[i]? = some x) : (l.take (i + 1)).filter p = (l.take i).filter p ++ if p x then [x] else [] := by
  rw [List.take_add_one, h, List.filter_append]
  congr 1
  cases e : p x <;> simp [e]
end Mo

/-! ### a for over zip of two texts -/
namespace Mo
open PySem PySem.Spec PyProof.Rows L2
def ItS (x y : Str) : It := ⟨fun i H => i < x.cps.size ∧ i < y.cps.size, fun i H v H' => ∃ (T : Addr) (a b : Nat), v = .ref T ∧ H T = none ∧ x.cps[i]? = some a ∧ y.cps[i]? = some b ∧ H' = upd H T (.tup [.str ⟨#[a]⟩, .str ⟨#[b]⟩]),
  fun i H => x.cps.size ≤ i ∨ y.cps.size ≤ i⟩
theorem sepS {z TI TO i1 i2 : Addr} (nd : [z, TI, TO, i1, i2].Nodup) : ZipSep2 z TI TO i1 i2 [i1] [i2] := by
  simp only [List.nodup_cons, List.mem_cons, List.not_mem_nil, or_false, not_or] at nd
  obtain ⟨⟨z1, z2, z3, z4⟩, ⟨t1, t2, t3⟩, ⟨o1, o2⟩, j, _⟩ := nd
  exact ⟨Ne.symm z1, Ne.symm z2, t1, t2, by simp, by simpa using z3, by simpa using o1, t3, by simp, by simpa using z4, by simpa using o2, by simpa using j, by simpa using Ne.symm j⟩
theorem turn_zipS {P : Program} {w : World} {K : PySem.W.Frag} {elts : List Expr} {kk : Nat} {tpos : Pos} {x y : Str} {t u : Tok} {z TI TO i1 i2 : Addr} (nd : [z, TI, TO, i1, i2].Nodup) :
    Turn P w K (.Tuple elts kk tpos) (ItS x y) [z, TI, TO, i1, i2] z (fun i h => (IsZip h z TI TO .none ∧ IsTupOf2 h TI (.ref i1) (.ref i2) ∧ (∃ x y, IsTupOf2 h TO x y) ∧ h.IsStrIter i1 (strIterType x) x t i ∧ h.IsStrIter i2 (strIterType y) y u i) ∧ i ≤ x.cps.size ∧ i ≤ y.cps.size) where
  mem := List.mem_cons_self ..
  obj := fun i h st c hc => by
    obtain ⟨⟨hz, hTI, ⟨x, y, hTO⟩, ⟨o1, e1, _, d1⟩, ⟨o2, e2, _, d2⟩⟩, _⟩ := st
    simp only [List.mem_cons, List.not_mem_nil, or_false] at hc
    rcases hc with q | q | q | q | q <;> rw [q]
    · exact ⟨_, hz, fun v q => nomatch q⟩
    · exact ⟨_, hTI, fun v q => nomatch q⟩
    · exact ⟨_, hTO, fun v q => nomatch q⟩
    · exact ⟨o1, e1, fun v q => by rw [d1] at q; cases q⟩
    · exact ⟨o2, e2, fun v q => by rw [d2] at q; cases q⟩
  keep := fun i h h' st k => by
    obtain ⟨⟨hz, hTI, ⟨x, y, hTO⟩, ⟨o1, e1, r1⟩, ⟨o2, e2, r2⟩⟩, hle⟩ := st
    exact ⟨⟨k z (by simp) _ hz, k TI (by simp) _ hTI, ⟨x, y, k TO (by simp) _ hTO⟩, ⟨o1, k i1 (by simp) _ e1, r1⟩, ⟨o2, k i2 (by simp) _ e2, r2⟩⟩, hle⟩
  item := by
    intro X hP hw hK hc i pins s σ H E I hf st hg
    subst hP hw hK
    obtain ⟨⟨hz, hTI, ⟨x0, y0, hTO⟩, h1, h2⟩, _⟩ := st
    obtain ⟨ix, iy⟩ := hg
    have hzl : z < s.heap.objs.size := Heap.lt_size hz
    have nh : X.A.in1.handled = none := by simpa using I.ok.hd hc
    have S := sepS nd
    refine wpAny_pyNext_zipD2_item S (Draws.text nh i1 x t) (Draws.text nh i2 y u) hz hTI hTO h1 h2 ix iy fun v1 v2 h' tk g1 g2 z' TO' st1 st2 hT hsz hk => ?_
    refine ⟨_, rfl, wpAny_letOwnedTupleGo_zip (s := { s with heap := h', toks := tk }) z' fun h'' z'' sb => ?_⟩
    obtain ⟨c1, u1, hc1, rfl⟩ := g1
    obtain ⟨c2, u2, hc2, rfl⟩ := g2
    have hT2 : h''.get? s.heap.objs.size = some { cls := .type "tuple", data := .seq #[.str ⟨#[c1]⟩ u1, .str ⟨#[c2]⟩ u2] } := (sb.2 _ (Nat.ne_of_gt hzl)).trans hT
    have r1 : RelV (.str ⟨#[c1]⟩) (.str ⟨#[c1]⟩ u1) := ⟨_, rfl⟩
    have r2 : RelV (.str ⟨#[c2]⟩) (.str ⟨#[c2]⟩ u2) := ⟨_, rfl⟩
    have I1 : Inv X pins σ (upd H s.heap.objs.size (.tup [.str ⟨#[c1]⟩, .str ⟨#[c2]⟩])) { s with heap := h'', toks := tk } := by
      refine I.turnedNew (ch := [z, TI, TO, i1, i2]) (fun c o hb q => ?_) hf (Nat.le_refl _) ⟨by show 2 ≤ sizeLine; decide, [.str ⟨#[c1]⟩ u1, .str ⟨#[c2]⟩ u2], .cons r1 (.cons r2 .nil), ⟨_, hT2, rfl, _, rfl⟩⟩
      simp only [List.mem_cons, List.not_mem_nil, or_false, not_or] at hb
      exact (sb.2 c hb.1).trans (hk c o hb.1 hb.2.2.1 hb.2.2.2.1 hb.2.2.2.2 q)
    refine ⟨.ref s.heap.objs.size, _, I1, rfl, ⟨_, c1, c2, rfl, I.hok.fresh (Nat.le_refl _), hc1, hc2, rfl⟩, ⟨⟨z'', ?_, ⟨.str ⟨#[c1]⟩ u1, .str ⟨#[c2]⟩ u2, ?_⟩, ?_, ?_⟩, ix, iy⟩, fun c hcm => ?_⟩
    · refine (sb.2 _ S.TIz).trans (hk _ _ S.TIz S.TITO S.TIi1 S.TIi2 hTI)
    · exact (sb.2 _ S.TOz).trans TO'
    · obtain ⟨o, e, r⟩ := st1
      exact ⟨o, (sb.2 _ (Ne.symm S.zi1)).trans e, r⟩
    · obtain ⟨o, e, r⟩ := st2
      exact ⟨o, (sb.2 _ (Ne.symm S.zi2)).trans e, r⟩
    · have hlt : c < s.heap.objs.size := by
        simp only [List.mem_cons, List.not_mem_nil, or_false] at hcm
        rcases hcm with q | q | q | q | q <;> rw [q]
        · exact hzl
        · exact Heap.lt_size hTI
        · exact Heap.lt_size hTO
        · obtain ⟨_, e1, _⟩ := h1
          exact Heap.lt_size e1
        · obtain ⟨_, e2, _⟩ := h2
          exact Heap.lt_size e2
      rw [upd_ne (Nat.ne_of_lt hlt)]
      exact (hf c hcm).1
  done := by
    intro X hP hw hK hc i pins s σ H E I hf st hg
    subst hP hw hK
    obtain ⟨⟨hz, hTI, ⟨x0, y0, hTO⟩, h1, h2⟩, le1, le2⟩ := st
    have hg : x.cps.size ≤ i ∨ y.cps.size ≤ i := hg
    have nh : X.A.in1.handled = none := by simpa using I.ok.hd hc
    refine wpAny_pyNext_zipD2_end (sepS nd) (Draws.text nh i1 x t) (Draws.text nh i2 y u) hz hTI hTO h1 h2 (by omega) (by omega) (by omega) fun h' tk hk => ⟨rfl, I.turnedL (t' := tk) (ch := [z, TI, TO, i1, i2]) (fun c o hb q => ?_) hf⟩
    simp only [List.mem_cons, List.not_mem_nil, or_false, not_or] at hb
    exact hk c o hb.1 hb.2.2.1 hb.2.2.2.1 hb.2.2.2.2 q
  self := fun A i s Q E st h => wpAny_pyIter_zip st.1.1 h
def iZipS (ta : TA) : TI := fun σ H R => ta σ H fun vs H1 => ∃ x y : Str, vs = [.str x, .str y] ∧ R (ItS x y) H1
section
variable {X : Cx} {K : PySem.W.Frag}
theorem pi_zipS {e e2 : Expr} {ta : TA} {p pos tpos : Pos} {elts : List Expr} {kk : Nat} (hK : X.K = K) (hg : Gl X "zip") (hm : X.mg "zip" = none) (ha : PA X [e, e2] ta)
    (hs : starEach [e, e2] X.env = (false, eval e X.env) :: starEach [e2] X.env := by rfl) (hpl : (backTo pos (starEach [e2] X.env)).any (·.1) = false := by rfl) :
    PI X (.Tuple elts kk tpos) (.Call (.Name "zip" p) [e, e2] [] pos) (iZipS ta) := by
  subst hK
  refine ⟨fun pins s σ H R I h => ?_⟩
  refine Call_ (ld_blt I hg hm PyProof.Rows.boot_zip (PyProof.Rows.callWith_type1 (thn (ha.run pos pins s σ H _ I h) fun us s1 ⟨vs, H1, I1, r1, q1⟩ => ?_) hs hpl))
  obtain ⟨x, y, rfl, q⟩ := q1
  obtain ⟨t, u, rfl⟩ : ∃ t u, us = [.str x t, .str y u] := by
    cases r1 with
    | cons a r =>
      cases r with
      | cons b r =>
        cases r
        obtain ⟨t, rfl⟩ := a
        obtain ⟨u, rfl⟩ := b
        exact ⟨t, u, rfl⟩
  have far : ∀ c ∈ [s1.heap.objs.size + 4, s1.heap.objs.size + 2, s1.heap.objs.size + 3, s1.heap.objs.size, s1.heap.objs.size + 1], s1.heap.objs.size ≤ c := fun c hc => by
    simp only [List.mem_cons, List.not_mem_nil, or_false] at hc
    rcases hc with q | q | q | q | q <;> rw [q]
    · exact Nat.le_add_right _ _
    · exact Nat.le_add_right _ _
    · exact Nat.le_add_right _ _
    · exact Nat.le_refl _
    · exact Nat.le_add_right _ _
  refine zip_begins2 (begins_text x t) (begins_text y u) trivial trivial fun h' hz hTI hTO g1 g2 hsz hk => wpAny_pyIter_zip hz ?_
  exact ⟨s1.heap.objs.size + 4, _, _, _, H1, rfl, I1.kept (t' := s1.toks) hk, turn_zipS (x := x) (y := y) (t := t) (u := u) (by simp), ⟨⟨hz, hTI, ⟨_, _, hTO⟩, ⟨_, g1, rfl, rfl⟩, ⟨_, g2, rfl, rfl⟩⟩, Nat.zero_le _, Nat.zero_le _⟩, fun c hc => I1.fpOk (far c hc) (I1.hok.fresh (far c hc)), q⟩
theorem walk_zipS {x y : Str} {n : Nat} (hn : n = min x.cps.size y.cps.size) : Walk (ItS x y) n (fun _ => True) (fun i H v H' => ∃ (T : Addr) (a b : Nat), v = .ref T ∧ H T = none ∧ x.cps[i]? = some a ∧ y.cps[i]? = some b ∧ H' = upd H T (.tup [.str ⟨#[a]⟩, .str ⟨#[b]⟩])) :=
  ⟨fun i H' hi _ => ⟨by omega, by omega⟩, fun H' _ => by show _ ∨ _; omega, fun i H' v H2 hi _ y => y⟩
end
end Mo

/-! ### expressions that make data out of what stands in locals -/
namespace Mo
open PySem PySem.Spec PyProof.Rows L2
def Mk (N : Addr → Prop) (σ : L2.St) (H : Hp) (te : TE) (P : PyData → Prop) : Prop := ∀ H0, Same H H0 → ∀ Q : VK, (∀ H' v e, Same H0 H' → Dx N H' v e → P e → Q v H') → te σ H0 Q
def MkA (N : Addr → Prop) (σ : L2.St) (H : Hp) (ta : TA) (P : List PyData → Prop) : Prop := ∀ H0, Same H H0 → ∀ Q : List V → Hp → Prop, (∀ H' vs ds, Same H0 H' → DxAll N H' vs ds → P ds → Q vs H') → ta σ H0 Q
def AllN (P : PyData → Prop) (n : Nat) (ds : List PyData) : Prop := ds.length = n ∧ ∀ x ∈ ds, P x
def LstN (P : PyData → Prop) (n : Nat) (e : PyData) : Prop := ∃ ds, e = .list ds ∧ ds.length ≤ n ∧ ∀ x ∈ ds, P x
def TupN (P : PyData → Prop) (n : Nat) (e : PyData) : Prop := ∃ ds, e = .tuple ds ∧ ds.length ≤ n ∧ ∀ x ∈ ds, P x
def TxN (n : Nat) (e : PyData) : Prop := ∃ ls : List Nat, e = .str (tx ls) ∧ Low ls ∧ ls.length ≤ n
theorem LstN.imp {P P' : PyData → Prop} {n n' : Nat} (h : ∀ e, P e → P' e) (hn : n ≤ n') {e : PyData} (l : LstN P n e) : LstN P' n' e := by
  obtain ⟨ds, rfl, hl, hd⟩ := l
  exact ⟨ds, rfl, Nat.le_trans hl hn, fun x hx => h x (hd x hx)⟩
section
variable {N : Addr → Prop} {σ : L2.St} {H : Hp} {te te2 : TE} {ta : TA} {P P' : PyData → Prop}
theorem Mk.imp (h : Mk N σ H te P) (i : ∀ e, P e → P' e) : Mk N σ H te P' := fun H0 s Q q => h H0 s Q fun H' v e s' hv p => q H' v e s' hv (i e p)
theorem Mk.on {H' : Hp} (h : Mk N σ H te P) (s : Same H H') : Mk N σ H' te P := fun H0 s' Q q => h H0 (s.trans s') Q q
theorem mk_lit {e : PyData} (hN : ∀ p, N p → H p ≠ none) (h : LitE te e) (p : P e) : Mk N σ H te P := fun H0 s Q q =>
  h σ H0 Q fun H' v s' hv => q H' v e s' (hv.more fun b _ nb => Was.mono s (hN b nb)) p
theorem mk_pure {v : V} {e : PyData} (hv : Dx N H v e) (p : P e) (h : ∀ H0 (Q : VK), Same H H0 → Q v H0 → te σ H0 Q) : Mk N σ H te P := fun H0 s Q q =>
  h H0 Q s (q H0 v e (Same.refl _) (hv.same s) p)
theorem asg_mk (h : Mk N σ H te P) {i : Nat} {u : TS} {D} (q : ∀ H' v e, Same H H' → Dx N H' v e → P e → u D (σ.set i (some v)) H') : tSeq (tAsg te (gName i)) u D σ H := h H (Same.refl _) _ q
theorem mka_nil : MkA N σ H tNil (AllN P 0) := fun H0 s Q q => q H0 [] [] (Same.refl _) .nil ⟨rfl, fun x hx => by simp at hx⟩
theorem mka_cons {n : Nat} (h : Mk N σ H te P) (g : MkA N σ H ta (AllN P n)) : MkA N σ H (tCons te ta) (AllN P (n + 1)) := fun H0 s Q q =>
  h H0 s _ fun H1 v e s1 hv p => g H1 (s.trans s1) _ fun H2 vs ds s2 hvs pa => q H2 (v :: vs) (e :: ds) (s1.trans s2) (.cons (hv.same s2) hvs) ⟨by rw [List.length_cons, pa.1], fun x hx => by
    rcases List.mem_cons.mp hx with rfl | hx
    · exact p
    · exact pa.2 x hx⟩
theorem mk_lst {n : Nat} (hN : ∀ p, N p → H p ≠ none) (h : MkA N σ H ta (AllN P n)) (hn : n ≤ 100000 := by decide) : Mk N σ H (tLst ta) (fun e => ∃ ds, e = .list ds ∧ AllN P n ds) := fun H0 s Q q =>
  h H0 s _ fun H1 vs ds s1 hx pa => ⟨fits5 (by rw [hx.length, pa.1]; exact hn), fun p np => q _ _ _ (s1.trans (same_new np)) (.lst upd_same (fun z => hN p z ((s.trans s1).free np)) (hx.same (same_new np))) ⟨ds, rfl, pa⟩⟩
theorem mk_tup {n : Nat} (hN : ∀ p, N p → H p ≠ none) (h : MkA N σ H ta (AllN P n)) (hn : n ≤ 100000 := by decide) : Mk N σ H (tTup ta) (fun e => ∃ ds, e = .tuple ds ∧ AllN P n ds) := fun H0 s Q q =>
  h H0 s _ fun H1 vs ds s1 hx pa => ⟨fits5 (by rw [hx.length, pa.1]; exact hn), fun p np => q _ _ _ (s1.trans (same_new np)) (.tup upd_same (fun z => hN p z ((s.trans s1).free np)) (hx.same (same_new np))) ⟨ds, rfl, pa⟩⟩
theorem AllN.lst {n m : Nat} (hn : n ≤ m) {e : PyData} (h : ∃ ds, e = .list ds ∧ AllN P n ds) : LstN P m e := by
  obtain ⟨ds, rfl, h1, h2⟩ := h
  exact ⟨ds, rfl, by omega, h2⟩
theorem AllN.tup {n m : Nat} (hn : n ≤ m) {e : PyData} (h : ∃ ds, e = .tuple ds ∧ AllN P n ds) : TupN P m e := by
  obtain ⟨ds, rfl, h1, h2⟩ := h
  exact ⟨ds, rfl, by omega, h2⟩
theorem mk_cat {n m : Nat} (hN : ∀ p, N p → H p ≠ none) (h : Mk N σ H te (LstN P n)) (g : Mk N σ H te2 (LstN P m)) (hn : n + m ≤ 100000 := by decide) : Mk N σ H (tOp rCat te te2) (LstN P (n + m)) := fun H0 s Q q =>
  h H0 s _ fun H1 v e s1 hv ⟨ds, he, hl, hd⟩ => g H1 (s.trans s1) _ fun H2 v2 e2 s2 hv2 ⟨ds2, he2, hl2, hd2⟩ => by
    subst he he2
    obtain ⟨a, xs, rfl, ha, _, hx⟩ := lst_dx (hv.same s2)
    obtain ⟨b, ys, rfl, hb, _, hy⟩ := lst_dx hv2
    refine ⟨a, b, xs, ys, rfl, rfl, ha, hb, fits5 (by rw [hx.length, hy.length]; omega), fun p np => q _ _ _ ((s1.trans s2).trans (same_new np)) (.lst upd_same (fun z => hN p z (((s.trans s1).trans s2).free np)) ((hx.append hy).same (same_new np))) ⟨ds ++ ds2, rfl, by rw [List.length_append]; omega, fun x hx => ?_⟩⟩
    rcases List.mem_append.mp hx with h | h
    · exact hd x h
    · exact hd2 x h
/-- bounds of a slice that do nothing -/
def BdOk (σ : L2.St) (t : TO) : Prop := ∀ H (Q : Option Int → Hp → Prop), (∀ lo, Q lo H) → t σ H Q
theorem bd_no : BdOk σ tNoPart := fun H Q q => q none
theorem bd_of {i : Int} (h : ∀ H (Q : VK), Q (.int i) H → te σ H Q) : BdOk σ (tPart te) := fun H Q q => h H _ ⟨i, rfl, q (some i)⟩
theorem DxAll.take {H : Hp} : ∀ {vs : List V} {ds : List PyData} (n : Nat), DxAll N H vs ds → DxAll N H (vs.take n) (ds.take n)
  | _, _, 0, _ => by rw [List.take_zero, List.take_zero]; exact .nil
  | _, _, n + 1, .nil => .nil
  | _, _, n + 1, .cons h t => .cons h (t.take n)
theorem DxAll.drop {H : Hp} : ∀ {vs : List V} {ds : List PyData} (n : Nat), DxAll N H vs ds → DxAll N H (vs.drop n) (ds.drop n)
  | _, _, 0, h => h
  | _, _, n + 1, .nil => .nil
  | _, _, n + 1, .cons h t => t.drop n
theorem DxAll.rev {H : Hp} : ∀ {vs : List V} {ds : List PyData}, DxAll N H vs ds → DxAll N H vs.reverse ds.reverse
  | _, _, .nil => .nil
  | _, _, .cons h t => by
    rw [List.reverse_cons, List.reverse_cons]
    exact t.rev.append (.cons h .nil)
theorem mk_cut {K : PySem.W.Frag} {tl th : TO} {n : Nat} (hN : ∀ p, N p → H p ≠ none) (h : Mk N σ H te (LstN P n)) (bl : BdOk σ tl) (bh : BdOk σ th) : Mk N σ H (tSl (rSlL K) te tl th) (LstN P n) := fun H0 s Q q =>
  h H0 s _ fun H1 v e s1 hv ⟨ds, he, hl, hd⟩ => bl H1 _ fun lo => bh H1 _ fun hi => by
    subst he
    obtain ⟨a, xs, rfl, ha, _, hx⟩ := lst_dx hv
    refine ⟨a, xs, rfl, SqL.of ha, fun p np => ?_⟩
    refine q _ _ (.list ((ds.drop (HT.sIx xs.length 0 lo)).take (HT.sIx xs.length xs.length hi - HT.sIx xs.length 0 lo))) (s1.trans (same_new np)) (.lst upd_same (fun z => hN p z ((s.trans s1).free np)) (((hx.drop _).take _).same (same_new np))) ⟨_, rfl, ?_, fun x hx => hd x (List.mem_of_mem_drop (List.mem_of_mem_take hx))⟩
    rw [List.length_take, List.length_drop]
    omega
theorem mk_rev {K : PySem.W.Frag} {n : Nat} (hN : ∀ p, N p → H p ≠ none) (h : Mk N σ H te (LstN P n)) : Mk N σ H (tRevL K te) (LstN P n) := fun H0 s Q q =>
  h H0 s _ fun H1 v e s1 hv ⟨ds, he, hl, hd⟩ => by
    subst he
    obtain ⟨a, xs, rfl, ha, _, hx⟩ := lst_dx hv
    exact ⟨a, xs, rfl, SqL.of ha, fun p np => q _ _ (.list ds.reverse) (s1.trans (same_new np)) (.lst upd_same (fun z => hN p z ((s.trans s1).free np)) (hx.rev.same (same_new np))) ⟨_, rfl, by rw [List.length_reverse]; exact hl, fun x hx => hd x (List.mem_reverse.mp hx)⟩⟩
theorem dx_tx {H : Hp} {v : V} {ls : List Nat} (h : Dx N H v (.str (tx ls))) : v = .str (tx ls) := by
  generalize e : PyData.str (tx ls) = d at h
  cases h with
  | str y => rw [PyData.str.inj e]
  | _ => cases e
theorem cutM_tx (zs : List Nat) (lo hi : Option Int) : cutS (tx zs) lo hi = tx ((zs.drop (HT.sIx zs.length 0 lo)).take (HT.sIx zs.length zs.length hi - HT.sIx zs.length 0 lo)) := by
  unfold cutS
  rw [tx_len]
  rfl
theorem mk_cutS {tl th : TO} {n : Nat} (hn : n ≤ 1000) (h : Mk N σ H te (TxN n)) (bl : BdOk σ tl) (bh : BdOk σ th) : Mk N σ H (tSl rSlS te tl th) (TxN n) := fun H0 s Q q =>
  h H0 s _ fun H1 v e s1 hv ⟨ls, he, low, hl⟩ => bl H1 _ fun lo => bh H1 _ fun hi => by
    subst he
    obtain rfl := dx_tx hv
    refine ⟨tx ls, rfl, Nat.le_of_lt (small1000 (by rw [tx_len]; omega)), ?_⟩
    rw [cutM_tx]
    refine q _ _ _ s1 (.str _) ⟨_, rfl, fun c hc => low c (List.mem_of_mem_drop (List.mem_of_mem_take hc)), ?_⟩
    rw [List.length_take, List.length_drop]
    omega
theorem mk_revS {n : Nat} (hn : n ≤ 1000) (h : Mk N σ H te (TxN n)) : Mk N σ H (tRevS te) (TxN n) := fun H0 s Q q =>
  h H0 s _ fun H1 v e s1 hv ⟨ls, he, low, hl⟩ => by
    subst he
    obtain rfl := dx_tx hv
    exact ⟨tx ls, rfl, Nat.le_of_lt (small1000 (by rw [tx_len]; omega)), q _ _ _ s1 (.str _) ⟨ls.reverse, rfl, fun c hc => low c (List.mem_reverse.mp hc), by rw [List.length_reverse]; exact hl⟩⟩
theorem mk_addS {n m : Nat} (hn : n + m ≤ 1000) (h : Mk N σ H te (TxN n)) (g : Mk N σ H te2 (TxN m)) : Mk N σ H (tOp (fun x y H Q => ∃ i j, x = V.str i ∧ y = V.str j ∧ i.length + j.length ≤ sizeLine ∧ Q (V.str (i ++ j)) H) te te2) (TxN (n + m)) := fun H0 s Q q =>
  h H0 s _ fun H1 v e s1 hv ⟨ls, he, low, hl⟩ => g H1 (s.trans s1) _ fun H2 v2 e2 s2 hv2 ⟨ls2, he2, low2, hl2⟩ => by
    subst he he2
    obtain rfl := dx_tx hv
    obtain rfl := dx_tx hv2
    refine ⟨tx ls, tx ls2, rfl, rfl, Nat.le_of_lt (small1000 (by rw [tx_len, tx_len]; omega)), ?_⟩
    rw [tx_app]
    refine q _ _ _ (s1.trans s2) (.str _) ⟨_, rfl, fun c hc => ?_, by rw [List.length_append]; omega⟩
    rcases List.mem_append.mp hc with h | h
    · exact low c h
    · exact low2 c h
theorem joinM_texts : ∀ l : List (List Nat), Txt.join (Str.ofString "") (l.map tx) = tx l.flatten := by
  have key : ∀ l : List (List Nat), Str.join (tx []) (l.map tx) = tx l.flatten := by
    intro l
    induction l with
    | nil => rfl
    | cons u r ih =>
      cases r with
      | nil =>
        show tx u = tx (u ++ [])
        rw [List.append_nil]
      | cons v r =>
        show tx u ++ tx [] ++ Str.join (tx []) ((v :: r).map tx) = tx (u :: v :: r).flatten
        rw [ih, tx_app, tx_app, List.append_nil]
        rfl
  intro l
  show Builtin.Str.glued _ _ = _
  rw [StrLaws.glued_eq_join, tx_nil]
  exact key l
theorem textsM_sum (l : List (List Nat)) : ((l.map tx).map (·.length)).sum = l.flatten.length := by
  induction l with
  | nil => rfl
  | cons u r ih =>
    rw [List.map_cons, List.map_cons, List.sum_cons, ih, tx_len, List.flatten_cons, List.length_append]
theorem textsM_room {l : List (List Nat)} (h : l.flatten.length ≤ 100000) : ((l.map tx).map (·.length)).sum + (l.map tx).length * (Str.ofString "").length ≤ 16777216 := by
  have e3 : (Str.ofString "").length = 0 := by decide
  rw [textsM_sum, e3]
  omega
theorem texts_of {n : Nat} {H : Hp} : ∀ {vs : List V} {ds : List PyData}, DxAll N H vs ds → (∀ x ∈ ds, TxN n x) → ∃ us : List (List Nat), vs = us.map (fun u => V.str (tx u)) ∧ us.length = ds.length ∧ ∀ u ∈ us, Low u ∧ u.length ≤ n
  | _, _, .nil, _ => ⟨[], rfl, rfl, fun u hu => by simp at hu⟩
  | _, _, .cons h t, hx => by
    obtain ⟨us, rfl, hl, hu⟩ := texts_of t fun x hx' => hx x (List.mem_cons_of_mem _ hx')
    obtain ⟨ls, rfl, low, hn⟩ := hx _ List.mem_cons_self
    obtain rfl := dx_tx h
    refine ⟨ls :: us, rfl, by rw [List.length_cons, List.length_cons, hl], fun u hu' => ?_⟩
    rcases List.mem_cons.mp hu' with rfl | hu'
    · exact ⟨low, hn⟩
    · exact hu u hu'
theorem flat_len {n : Nat} : ∀ {us : List (List Nat)}, (∀ u ∈ us, u.length ≤ n) → us.flatten.length ≤ n * us.length
  | [], _ => by simp
  | u :: r, h => by
    have h1 := flat_len (us := r) fun x hx => h x (List.mem_cons_of_mem _ hx)
    have h2 := h u List.mem_cons_self
    rw [List.flatten_cons, List.length_append, List.length_cons, Nat.mul_add, Nat.mul_one]
    omega
theorem mk_join {K : PySem.W.Frag} {w n : Nat} (h : Mk N σ H te (LstN (TxN w) n)) (hn : w * n ≤ 1000 := by decide) : Mk N σ H (tM1 (fun x xs H Q => ∃ a p ys, x = V.str a ∧ xs = [V.ref p] ∧ (SqL K H p (List.map V.str ys) ∨ SqT K H p (List.map V.str ys)) ∧ (List.map (fun x => x.length) ys).sum + ys.length * a.length ≤ 16777216 ∧ Q (V.str (Txt.join a ys)) H) (tC (.str (Str.ofString ""))) te) (TxN (w * n)) := fun H0 s Q q =>
  ⟨⟨_, rfl⟩, h H0 s _ fun H1 v e s1 hv ⟨ds, he, hl, hd⟩ => by
    subst he
    obtain ⟨a, xs, rfl, ha, _, hx⟩ := lst_dx hv
    obtain ⟨us, rfl, hul, hu⟩ := texts_of hx hd
    have fl := flat_len fun u hu' => (hu u hu').2
    have fm : us.flatten.length ≤ w * n := Nat.le_trans fl (Nat.mul_le_mul_left _ (by omega))
    refine ⟨_, a, us.map tx, rfl, rfl, .inl ?_, textsM_room (by omega), ?_⟩
    · rw [List.map_map]
      exact SqL.of ha
    rw [joinM_texts]
    refine q _ _ _ s1 (.str _) ⟨_, rfl, fun c hc => ?_, fm⟩
    obtain ⟨u, hu', hc'⟩ := List.mem_flatten.mp hc
    exact (hu u hu').1 c hc'⟩
theorem mk_sortTxt {w : Nat} (hN : ∀ p, N p → H p ≠ none) (h : Mk N σ H te (TxN w)) (hw : w ≤ 1000 := by decide) : Mk N σ H (tCB rSortTxt (tCons te tNil)) (LstN (TxN 1) w) := fun H0 s Q q =>
  h H0 s _ fun H1 v e s1 hv ⟨ls, he, low, hl⟩ => by
    subst he
    obtain rfl := dx_tx hv
    dsimp only [tNil]
    refine sortTxt_of (cs := ls) (by omega) fun so p H2 pm _ s2 np hp => ?_
    have dx : ∀ so : List Nat, DxAll N H2 (so.map sg) (so.map fun c => .str (tx [c])) := fun so => by
      induction so with
      | nil => exact .nil
      | cons c r ih => exact .cons (.str _) ih
    refine q _ _ (.list (so.map fun c => .str (tx [c]))) (s1.trans s2) (.lst hp (fun z => hN p z ((s.trans s1).free np)) (dx so)) ⟨_, rfl, by rw [List.length_map, pm.length_eq]; exact hl, fun x hx => ?_⟩
    obtain ⟨c, hc, rfl⟩ := List.mem_map.mp hx
    exact ⟨[c], rfl, fun d hd => by rw [List.mem_singleton.mp hd]; exact low c (pm.mem_iff.mp hc), Nat.le_refl _⟩
theorem fitAll_of {B W D : Nat} : ∀ {ds : List PyData}, (∀ e ∈ ds, Fit B W D e) → FitAll B ((W + 1) * ds.length) D ds
  | [], _ => ⟨by simp [okAll], by simp [PyData.bulkAll], by simp [PyData.depthAll]⟩
  | d :: r, h => by
    have h1 := (h d (by simp)).one.app (fitAll_of (ds := r) fun e he => h e (by simp [he]))
    rw [List.length_cons, Nat.mul_add, Nat.mul_one, Nat.add_comm ((W + 1) * r.length)]
    exact h1
theorem fit_low {W D : Nat} {ls : List Nat} (low : Low ls) (h : ls.length ≤ W) : Fit 20 W D (.str (tx ls)) := ⟨by
  simp only [okD]
  intro c hc
  have := low c hc
  omega, by simp only [PyData.bulk]; rw [tx_size]; exact h, by simp only [PyData.depth]; exact Nat.zero_le _⟩
theorem TxN.fit {n : Nat} {e : PyData} (h : TxN n e) {D : Nat} : Fit 20 n D e := by
  obtain ⟨ls, rfl, low, hl⟩ := h
  exact fit_low low hl
theorem LstN.fit {n W D : Nat} {e : PyData} (h : LstN P n e) (hp : ∀ x, P x → Fit 20 W D x) : Fit 20 ((W + 1) * n) (D + 1) e := by
  obtain ⟨ds, rfl, hl, hd⟩ := h
  exact (fitAll_of fun x hx => hp x (hd x hx)).lst.mono (Nat.le_refl _) (Nat.mul_le_mul_left _ hl) (Nat.le_refl _)
theorem TupN.fit {n W D : Nat} {e : PyData} (h : TupN P n e) (hp : ∀ x, P x → Fit 20 W D x) : Fit 20 ((W + 1) * n) (D + 1) e := by
  obtain ⟨ds, rfl, hl, hd⟩ := h
  exact (fitAll_of fun x hx => hp x (hd x hx)).tup.mono (Nat.le_refl _) (Nat.mul_le_mul_left _ hl) (Nat.le_refl _)
theorem fit_non {D : Nat} : Fit 20 200 D .none := ⟨by simp [okD], by simp [PyData.bulk], by simp [PyData.depth]⟩
theorem fit_bool {D : Nat} {b : Bool} : Fit 20 200 D (.bool b) := ⟨by simp [okD], by simp [PyData.bulk], by simp [PyData.depth]⟩
theorem fit_num {D : Nat} {i : Int} (h : i.natAbs < 10 ^ 20) : Fit 20 200 D (.int i) := fitI h (by decide)
theorem txn_of {x : Str} {n : Nat} (ls : List Nat) (h : x = tx ls := by decide +kernel) (low : ∀ c ∈ ls, 97 ≤ c ∧ c ≤ 122 := by decide) (hl : ls.length ≤ n := by decide) : TxN n (.str x) := ⟨ls, congrArg PyData.str h, low, hl⟩
theorem Pen.here {H : Hp} {d c : Addr} {t : Nat} (h : Pen H d c t) : H d ≠ none := by
  obtain ⟨_, _, h, _⟩ := h
  rw [h]
  exact Option.some_ne_none _
theorem pen_lit {H : Hp} {d c : Addr} {t : Nat} (h : Pen H d c t) : ∀ p, p = d → H p ≠ none := fun p e => by
  rw [e]
  exact h.here
theorem pick_of0 {K : PySem.W.Frag} {d c : Addr} {t n : Nat} {Q : VK} (pen : Pen H d c t) (ht : t < 1073741824) (h : Mk (fun x => x = d) σ H te (fun e => ∃ ds, e = .list ds ∧ AllN P n ds)) (h0 : 0 < n := by decide) (h1 : n < 1073741824 := by decide)
    (q : ∀ H' v t' e, But d H H' → Pen H' d c t' → t' ≤ t + 1 → Dx (fun x => x = d) H' v e → P e → Q v H') {E : XK} : te σ H fun v H1 => spPick K [.ref d, v] H1 Q E :=
  h H (Same.refl _) _ fun H1 v e s1 hv ⟨ds, he, pa⟩ => by
    subst he
    obtain ⟨l, xs, rfl, hl, nl, hx⟩ := lst_dx hv
    have hlen := hx.length
    refine ⟨d, c, l, xs, t, rfl, pen.same s1, SqL.of hl, nl, by rw [hlen, pa.1]; exact h0, by rw [hlen, pa.1]; exact h1, ht, fun H2 v t2 but2 pen2 ht2 hv2 => ?_⟩
    obtain ⟨e, he, dx⟩ := hx.mem hv2
    exact q H2 v t2 e ((But.same s1).trans but2) pen2 ht2 (dx.pen but2) (pa.2 e he)
theorem pick_of {K : PySem.W.Frag} {H1 : Hp} {d c : Addr} {t n : Nat} {Q : VK} (pen : Pen H d c t) (ht : t < 1073741824) (s : Same H H1) (h : Mk (fun x => x = d) σ H te (fun e => ∃ ds, e = .list ds ∧ AllN P n ds)) (h0 : 0 < n := by decide) (h1 : n < 1073741824 := by decide)
    (q : ∀ H' v t' e, But d H H' → Pen H' d c t' → t' ≤ t + 1 → Dx (fun x => x = d) H' v e → P e → Q v H') {E : XK} : te σ H1 fun v H1 => spPick K [.ref d, v] H1 Q E :=
  pick_of0 (pen.same s) ht (h.on s) h0 h1 fun H' v t' e b => q H' v t' e ((But.same s).trans b)
theorem pick_val {K : PySem.W.Frag} {d c : Addr} {t n : Nat} {Q : VK} {v : V} {ds : List PyData} (pen : Pen H d c t) (ht : t < 1073741824) (hv : Dx (fun x => x = d) H v (.list ds)) (pa : AllN P n ds) (h0 : 0 < n := by decide) (h1 : n < 1073741824 := by decide)
    (q : ∀ H' v t' e, But d H H' → Pen H' d c t' → t' ≤ t + 1 → Dx (fun x => x = d) H' v e → P e → Q v H') {E : XK} : spPick K [.ref d, v] H Q E := by
  obtain ⟨l, xs, rfl, hl, nl, hx⟩ := lst_dx hv
  have hlen := hx.length
  refine ⟨d, c, l, xs, t, rfl, pen, SqL.of hl, nl, by rw [hlen, pa.1]; exact h0, by rw [hlen, pa.1]; exact h1, ht, fun H2 v t2 but2 pen2 ht2 hv2 => ?_⟩
  obtain ⟨e, he, dx⟩ := hx.mem hv2
  exact q H2 v t2 e but2 pen2 ht2 (dx.pen but2) (pa.2 e he)
/-- the same with draws from the pen on the way -/
def MkP (d c : Addr) (σ : L2.St) (H : Hp) (te : TE) (P : PyData → Prop) (n : Nat) : Prop := ∀ H0 t, But d H H0 → Pen H0 d c t → t + n < 1073741824 → ∀ Q : VK, (∀ H' v t' e, But d H0 H' → Pen H' d c t' → t' ≤ t + n → Dx (fun x => x = d) H' v e → P e → Q v H') → te σ H0 Q
variable {d c : Addr}
theorem mkp_of (h : ∀ H' t, But d H H' → Pen H' d c t → Mk (fun x => x = d) σ H' te P) : MkP d c σ H te P 0 := fun H0 t b pen ht Q q =>
  h H0 t b pen H0 (Same.refl _) Q fun H' v e s' hv p => q H' v t e (But.same s') (pen.same s') (Nat.le_refl _) hv p
theorem MkP.imp {n : Nat} (h : MkP d c σ H te P n) (i : ∀ e, P e → P' e) : MkP d c σ H te P' n := fun H0 t b pen ht Q q => h H0 t b pen ht Q fun H' v t' e b' pen' ht' hv p => q H' v t' e b' pen' ht' hv (i e p)
theorem mkp_pick {K : PySem.W.Frag} {tv : TE} {m n : Nat} {E : XK} (hv : ∀ H (Q : VK), Q (.ref d) H → tv σ H Q) (h : MkP d c σ H te (fun e => ∃ ds, e = .list ds ∧ AllN P n ds) m) (h0 : 0 < n := by decide) (h1 : n < 1073741824 := by decide) :
    MkP d c σ H (tCall (spPick K) [] E (tCons tv (tCons te tNil))) P (m + 1) := fun H0 t b pen ht Q q =>
  hv H0 _ (h H0 t b pen (by omega) _ fun H1 v t1 e b1 pen1 ht1 dx ⟨ds, he, pa⟩ => by
    subst he
    exact pick_val (E := E) pen1 (by omega) dx pa h0 h1 fun H' v t' e b' pen' ht' dx' p => q H' v t' e (b1.trans b') pen' (by omega) dx' p)
theorem mkp_lst1 {m : Nat} (h : MkP d c σ H te P m) : MkP d c σ H (tLst (tCons te tNil)) (LstN P 1) m := fun H0 t b pen ht Q q =>
  h H0 t b pen ht _ fun H1 v t1 e b1 pen1 ht1 dx p => ⟨by show 1 ≤ sizeLine; decide, fun r nr => q _ _ t1 (.list [e]) (b1.trans (But.same (same_new nr))) (pen1.same (same_new nr)) ht1 (.lst upd_same (pen1.new nr).1 (.cons (dx.same (same_new nr)) .nil)) ⟨[e], rfl, Nat.le_refl _, fun x hx => by rw [List.mem_singleton.mp hx]; exact p⟩⟩
theorem mkp_cat {n k m1 m2 : Nat} (h : MkP d c σ H te (LstN P n) m1) (g : MkP d c σ H te2 (LstN P k) m2) (hn : n + k ≤ 100000 := by decide) : MkP d c σ H (tOp rCat te te2) (LstN P (n + k)) (m1 + m2) := fun H0 t b pen ht Q q =>
  h H0 t b pen (by omega) _ fun H1 v t1 e b1 pen1 ht1 hv ⟨ds, he, hl, hd⟩ => g H1 t1 (b.trans b1) pen1 (by omega) _ fun H2 v2 t2 e2 b2 pen2 ht2 hv2 ⟨ds2, he2, hl2, hd2⟩ => by
    subst he he2
    obtain ⟨a, xs, rfl, ha, _, hx⟩ := lst_dx (hv.pen b2)
    obtain ⟨a2, ys, rfl, hb, _, hy⟩ := lst_dx hv2
    refine ⟨a, a2, xs, ys, rfl, rfl, ha, hb, fits5 (by rw [hx.length, hy.length]; omega), fun p np => q _ _ t2 _ ((b1.trans b2).trans (But.same (same_new np))) (pen2.same (same_new np)) (by omega) (.lst upd_same (pen2.new np).1 ((hx.append hy).same (same_new np))) ⟨ds ++ ds2, rfl, by rw [List.length_append]; omega, fun x hx => ?_⟩⟩
    rcases List.mem_append.mp hx with h | h
    · exact hd x h
    · exact hd2 x h
theorem fit_str {W D : Nat} {x : Str} (h : ∀ c ∈ x.cps.toList, c < 128) (hl : x.cps.size ≤ W) : Fit 20 W D (.str x) := ⟨by simp only [okD]; exact h, by simp only [PyData.bulk]; exact hl, by simp only [PyData.depth]; exact Nat.zero_le _⟩
end
end Mo

/-! ### t[::-1], t a tuple -/
namespace Mo
open PySem PySem.Spec PyProof.Rows L2
theorem cut_mid (xs : List V) {a b : Nat} (h : a ≤ b) (hb : b ≤ xs.length) : cutV xs (some (a : Int)) (some (b : Int)) = (xs.drop a).take (b - a) := by
  unfold cutV
  rw [HT.sIx_nat, HT.sIx_nat, Nat.min_eq_left (show a ≤ xs.length by omega), Nat.min_eq_left hb]
theorem back_adjust (n : Nat) : Builtin.Slice.sliceAdjust none none (-1) (n : Int) = ((n : Int) - 1, -1) := by
  unfold Builtin.Slice.sliceAdjust
  rfl
theorem back_places (n : Nat) : Builtin.Slice.slicePlaces ((n : Int) - 1) (-1) (-1) = n := by
  unfold Builtin.Slice.slicePlaces
  rw [if_neg (by omega)]
  cases n with
  | zero => rfl
  | succ m =>
    rw [if_pos (by omega), show -(-1 : Int) = 1 from rfl, Int.ediv_one]
    omega
theorem back_items (xs : Array Value) : ((List.range xs.size).filterMap fun (k : Nat) => xs[(((xs.size : Int) - 1) + (k : Int) * (-1)).toNat]?).toArray = xs.toList.reverse.toArray := by
  refine congrArg List.toArray ?_
  have h1 : ∀ l : List Nat, (∀ k ∈ l, k < xs.size) → l.filterMap (fun (k : Nat) => xs[(((xs.size : Int) - 1) + (k : Int) * (-1)).toNat]?) = l.map fun k => xs.toList.reverse.getD k Value.none := by
    intro l
    induction l with
    | nil => intro _; rfl
    | cons k r ih =>
      intro h
      have hk := h k (List.mem_cons_self ..)
      have e : (((xs.size : Int) - 1) + (k : Int) * (-1)).toNat = xs.size - 1 - k := by omega
      have e2 : xs[xs.size - 1 - k]? = some (xs.toList.reverse.getD k Value.none) := by
        rw [List.getD_eq_getElem?_getD, List.getElem?_reverse (by rw [Array.length_toList]; exact hk), Array.length_toList, Array.getElem?_toList, Array.getElem?_eq_getElem (by omega)]
        rfl
      rw [List.filterMap_cons, e, e2, List.map_cons, ih fun j hj => h j (List.mem_cons_of_mem _ hj)]
  rw [h1 _ fun k hk => List.mem_range.mp hk]
  apply List.ext_getElem?
  intro i
  rw [List.getElem?_map]
  rcases Nat.lt_or_ge i xs.size with g | g
  · rw [List.getElem?_range g, Option.map_some, List.getD_eq_getElem?_getD, List.getElem?_eq_getElem (by rw [List.length_reverse, Array.length_toList]; exact g)]
    rfl
  · rw [List.getElem?_eq_none (by rw [List.length_range]; exact g), List.getElem?_eq_none (by rw [List.length_reverse, Array.length_toList]; exact g)]
    rfl
section
variable {prog : Program} {w : World} {A : Around} {E : Value → Shared → Prop} {s : Shared}
theorem getItem_tuple_back {t sl : Addr} {items : Array Value} {vl vu vs : Value} {Q : Value → Shared → Prop} (ht : IsTup s.heap t items) (hs : s.heap.IsSliceOf sl vl vu vs) (pl : IsPart vl none) (pu : IsPart vu none) (ps : IsPart vs (some (-1)))
    (h : Q (.ref s.heap.objs.size) { s with heap := s.heap.push { cls := .type "tuple", data := .seq items.toList.reverse.toArray } })
    (hsz : items.size ≤ sizeLine) : wpAny (model prog w) A (getItem (.ref t) (.ref sl)) Q E s := by
  have hsize : sizeOk (.seq items.toList.reverse.toArray) := by
    show items.toList.reverse.toArray.size ≤ sizeLine
    rw [List.size_toArray, List.length_reverse, Array.length_toList]
    exact hsz
  obtain ⟨os, hos, hcs, hds⟩ := id hs
  have hTs : s.TypeIs (.ref sl) "slice" := ⟨os, hos, hcs⟩
  unfold getItem
  refine wpAny_holding ?_
  first | refine wpAny_bind (wpAny_pure ?_) | skip
  refine wpAny_bind (wpAny_sequenceKey ht.typeIs (by decide) (wpAny_bind (wpAny_callSpecial?_slot (name := Str.ofString "__getitem__") ht.typeIs PyProof.Rows.slot_tuple_getitem
    (wpAny_call_entry PyProof.Rows.slot_tuple_getitem ht.typeIs PyProof.Rows.entry_tuple_getitem ?_ (PyProof.Rows.args_tuple_getitem _ _)))))
  show wpAny _ _ (Builtin.Tuple.tupleItemsOf (.ref t) >>= _) _ _ s
  refine wpAny_bind (PyProof.Rows.tupleItemsOf_ ht (wpAny_bind (wpAny_typeOf hTs ?_)))
  rw [if_pos (by decide)]
  have ap : ∀ {B : Around} {R : Int × Int × Nat → Shared → Prop}, R ((items.size : Int) - 1, -1, items.size) s → wpAny (model prog w) B (Builtin.Slice.sliceApplied (.ref sl) (pure (items.size : Int))) R E s := by
    intro B R hR
    unfold Builtin.Slice.sliceApplied Builtin.Slice.sliceFields
    refine wpAny_bind (wpAny_bind (wpAny_field hos hds (x := vl) rfl (wpAny_bind (wpAny_field hos hds (x := vu) rfl (wpAny_bind (wpAny_field hos hds (x := vs) rfl (wpAny_pure ?_)))))))
    refine wpAny_bind (HT.slicePart_ ps ?_)
    show wpAny _ _ (if ((-1 : Int) == 0) = true then _ else _) _ _ s
    rw [if_neg (by decide)]
    refine wpAny_bind (HT.slicePart_ pl (wpAny_bind (HT.slicePart_ pu (wpAny_bind (wpAny_pure ?_)))))
    show wpAny _ _ (match Builtin.Slice.sliceAdjust none none (-1) (items.size : Int) with | (lo, hi) => pure (lo, (-1 : Int), Builtin.Slice.slicePlaces lo hi (-1))) _ _ s
    rw [back_adjust]
    show wpAny _ _ (pure ((items.size : Int) - 1, (-1 : Int), Builtin.Slice.slicePlaces ((items.size : Int) - 1) (-1) (-1))) _ _ s
    rw [back_places]
    exact wpAny_pure hR
  refine wpAny_bind (ap ?_)
  have hno : ¬ ((((items.size : Int) - 1) == 0 && (-1 : Int) == 1 && items.size == items.size) = true) := by
    rw [show ((-1 : Int) == 1) = false from rfl, Bool.and_false, Bool.false_and]
    exact Bool.false_ne_true
  show wpAny _ _ (if (((items.size : Int) - 1) == 0 && (-1 : Int) == 1 && items.size == items.size) = true then _ else _) _ _ s
  rw [if_neg hno, back_items]
  first
    | exact wpAny_bind (m := Builtin.Tuple.tupleExact _) (wpAny_newObj_type (wpAny_pure ⟨_, rfl, wpAny_pure h⟩) hsize)
    | exact wpAny_bind (m := Builtin.Tuple.tupleExact _) (wpAny_newObj_type (wpAny_bind (wpAny_pure (wpAny_pure ⟨_, rfl, wpAny_pure h⟩))) hsize)
    | exact wpAny_bind (wpAny_bind (m := Builtin.Tuple.tupleExact _) (wpAny_newObj_type (wpAny_pure (wpAny_pure ⟨_, rfl, wpAny_pure h⟩)) hsize))
    | exact wpAny_bind (wpAny_bind (m := Builtin.Tuple.tupleExact _) (wpAny_newObj_type (wpAny_pure ⟨_, rfl, wpAny_pure h⟩) hsize))
end
section
variable {X : Cx}
def tRevT (K : PySem.W.Frag) (te : TE) : TE := fun σ H Q => te σ H fun x H1 => ∃ a xs, x = .ref a ∧ SqT K H1 a xs ∧ ∀ p, H1 p = none → Q (.ref p) (upd H1 p (.tup xs.reverse))
theorem pe_revT {e : Expr} {te : TE} {k : Nat} {p1 p2 p3 pos : Pos} (he : PE X e te) : PE X (.Subscript e (.Slice none none (some (.UnaryOp .USub (.Constant (.int 1) k p1) p2)) p3) pos) (tRevT X.K te) := by
  refine ⟨fun pins s σ H Q I h => Subscript_ (thn (he.run pins s σ H _ I h) fun v s1 ⟨x, H1, I1, r1, a, xs, ex, hx, q⟩ => ?_)⟩
  subst ex
  cases r1
  have hst : PO X (some (.UnaryOp .USub (.Constant (.int 1) k p1) p2)) (tPart (tUn (rU fun i => .int (-i)) (tC (.int 1)))) := po_some (pe_un un_neg pe_int)
  refine wpAny_Slice (thn (po_none.run pins s1 σ H1 (fun o H2 => o = none ∧ H2 = H1) I1 ⟨rfl, rfl⟩) fun vl s2 ⟨l, H2, I2, pl, el, e2⟩ => ?_)
  subst el e2
  refine thn (po_none.run pins s2 σ H2 (fun o H3 => o = none ∧ H3 = H2) I2 ⟨rfl, rfl⟩) fun vu s3 ⟨u, H3, I3, pu, eu, e3⟩ => ?_
  subst eu e3
  refine thn (hst.run pins s3 σ H3 (fun o H4 => o = some (-1) ∧ H4 = H3) I3 ⟨1, rfl, -1, rfl, rfl, rfl⟩) fun vs s4 ⟨o, H4, I4, ps, eo, e4⟩ => ?_
  subst eo e4
  have I5 : Inv X pins σ H4 { s4 with heap := s4.heap.push { cls := .type "slice", data := .fields #[vl, vu, vs] } } := I4.kept (t' := s4.toks) fun b ob q => Heap.get?_push_of_some _ q
  obtain ⟨its, r, ht, hz⟩ := I5.tuple hx
  have hlen := r.length
  show wpAny (model X.prog X.w) X.A (subscriptTail e (.Slice none none (some (.UnaryOp .USub (.Constant (.int 1) k p1) p2)) p3) (.ref a) (.ref s4.heap.objs.size)) (EP X pins σ Q) X.xe { s4 with heap := s4.heap.push { cls := .type "slice", data := .fields #[vl, vu, vs] } }
  refine tail_any (ops := [.ref a, .ref s4.heap.objs.size]) ht.typeIs (PyProof.Rows.slot_tuple_getitem.lookup) (getItem_tuple_back ht (Heap.IsSliceOf.new _ vl vu vs) pl pu ps ?_ (by rw [List.size_toArray]; omega)) (by with_unfolding_all rfl)
  exact ⟨.ref _, _, I5.laid (t' := s4.toks) (o := .tup xs.reverse) (fun b ob q => Heap.get?_push_of_some _ q) (Nat.le_refl _) ⟨by rw [List.length_reverse]; exact hz, _, r.reverse, IsTup.new _ _⟩, rfl, q _ (I5.hok.fresh (Nat.le_refl _))⟩
end
end Mo

/-! ### int or bool; data that are tuples, made out of locals -/
namespace Mo
open PySem PySem.Spec PyProof.Rows L2
section
variable {X : Cx}
def IB (x : V) (i : Int) : Prop := x = .int i ∨ ∃ b : Bool, x = .bl b ∧ i = if b then 1 else 0
theorem op_addIB : OpR X (binaryOp .Add) (fun x y H Q => ∃ i j, IB x i ∧ y = .int j ∧ Q (.int (i + j)) H) := by
  intro pins s σ H x y v u Q I rx ry h
  obtain ⟨i, j, hx, rfl, q⟩ := h
  rcases hx with rfl | ⟨b, rfl, rfl⟩
  · exact op_add pins s σ H _ _ v u Q I rx ry ⟨i, j, rfl, rfl, q⟩
  · cases rx
    obtain ⟨t, rfl⟩ := ry
    exact IntBool.add_bool_int ⟨.int ((if b then 1 else 0) + j), H, I.tok _, ⟨_, rfl⟩, q⟩
theorem op_subIB : OpR X (binaryOp .Sub) (fun x y H Q => ∃ i j, IB x i ∧ y = .int j ∧ Q (.int (i - j)) H) := by
  intro pins s σ H x y v u Q I rx ry h
  obtain ⟨i, j, hx, rfl, q⟩ := h
  rcases hx with rfl | ⟨b, rfl, rfl⟩
  · exact op_sub pins s σ H _ _ v u Q I rx ry ⟨i, j, rfl, rfl, q⟩
  · cases rx
    obtain ⟨t, rfl⟩ := ry
    exact IntBool.sub_bool_int ⟨.int ((if b then 1 else 0) - j), H, I.tok _, ⟨_, rfl⟩, q⟩
theorem cr_strIB : CallR X (.type "str") (fun xs H Q => ∃ x i, xs = [x] ∧ IB x i ∧ i.natAbs.log2 < 1920 ∧ ∀ z, (z = Str.ofString (toString i) ∨ z = Str.ofString "True" ∨ z = Str.ofString "False") → Q (.str z) H) := by
  intro pins s σ H xs us Q I r h
  obtain ⟨x, i, rfl, hx, hi, q⟩ := h
  rcases hx with rfl | ⟨b, rfl, rfl⟩
  · exact call_str_int pins s σ H _ us Q I r ⟨i, rfl, hi, q _ (.inl rfl)⟩
  · obtain ⟨u, rfl, r1⟩ := vals1 r
    cases r1
    refine PySem.P.str_of_bool ⟨.str (if b then Str.ofString "True" else Str.ofString "False"), H, I.tok _, ⟨s.toks, ?_⟩, ?_⟩
    · cases b <;> rfl
    · cases b
      · exact q _ (.inr (.inr rfl))
      · exact q _ (.inr (.inl rfl))

def rEqNilT (K : PySem.W.Frag) : R2 := fun x y H Q => ∃ a b xs, x = .ref a ∧ y = .ref b ∧ SqT K H a xs ∧ SqT K H b [] ∧ Q (.bl xs.isEmpty) H
theorem op_eqNilT (hu : X.A.units + 64 < cLine) : OpR X (compareOp .Eq) (rEqNilT X.K) := by
  intro pins s σ H x y v u Q I rx ry h
  obtain ⟨a, b, xs, rfl, rfl, ha, hb, q⟩ := h
  cases rx
  cases ry
  obtain ⟨is, r1, p1, _⟩ := I.tuple ha
  obtain ⟨js, r2, p2, _⟩ := I.tuple hb
  cases r2
  have k1 : s.heap.IsTuple a is.toArray := p1
  have k2 : s.heap.IsTuple b (List.nil (α := Value)).toArray := p2
  refine SeqAt.eq_tupleAt (e := fun _ => true) k1 k2 (by omega) (fun j _ h2 => absurd h2 (by simp)) ?_
  cases r1 with
  | nil => exact ⟨.bl true, H, I, rfl, q⟩
  | cons r rs => exact ⟨.bl false, H, I, by simp only [List.size_toArray, List.length_cons, List.length_nil, Nat.min_zero, List.range_zero, List.all_nil, Bool.true_and]; rfl, q⟩
theorem op_eqNilTK {K : PySem.W.Frag} (h : X.K = K) (hu : X.A.units + 64 < cLine) : OpR X (compareOp .Eq) (rEqNilT K) := by
  subst h
  exact op_eqNilT hu
end
theorem tup_dx2 {N : Addr → Prop} {H : Hp} {x : V} {ds : List PyData} (h : Dx N H x (.tuple ds)) : ∃ a xs, x = .ref a ∧ H a = some (.tup xs) ∧ ¬ N a ∧ DxAll N H xs ds := by
  cases h with
  | tup h n t => exact ⟨_, _, rfl, h, n, t⟩
section
variable {N : Addr → Prop} {σ : L2.St} {H : Hp} {te te2 : TE} {ta : TA} {P P' : PyData → Prop}
/-- tuples of things; made of tuples -/
theorem mk_catT {K : PySem.W.Frag} {n m : Nat} (hN : ∀ p, N p → H p ≠ none) (h : Mk N σ H te (TupN P n)) (g : Mk N σ H te2 (TupN P m)) (hn : n + m ≤ 100000 := by decide) : Mk N σ H (tOp (rCatA K) te te2) (TupN P (n + m)) := fun H0 s Q q =>
  h H0 s _ fun H1 v e s1 hv ⟨ds, he, hl, hd⟩ => g H1 (s.trans s1) _ fun H2 v2 e2 s2 hv2 ⟨ds2, he2, hl2, hd2⟩ => by
    subst he he2
    obtain ⟨a, xs, rfl, ha, na, hx⟩ := tup_dx2 (hv.same s2)
    obtain ⟨b, ys, rfl, hb, nb, hy⟩ := tup_dx2 hv2
    refine catA_any ha hb (fits5 (by rw [hx.length, hy.length]; omega)) fun p H' s' hp hw => q H' _ _ ((s1.trans s2).trans s') (.tup hp (fun z => ?_) ((hx.append hy).same s')) ⟨ds ++ ds2, rfl, by rw [List.length_append]; omega, fun x hx => ?_⟩
    · rcases hw with rfl | rfl | np
      · exact na z
      · exact nb z
      · exact hN p z (((s.trans s1).trans s2).free np)
    · rcases List.mem_append.mp hx with h | h
      · exact hd x h
      · exact hd2 x h
theorem mk_cutT {K : PySem.W.Frag} {tl th : TO} {n : Nat} (hN : ∀ p, N p → H p ≠ none) (h : Mk N σ H te (TupN P n)) (bl : BdOk σ tl) (bh : BdOk σ th) : Mk N σ H (tSl (rSlA K) te tl th) (TupN P n) := fun H0 s Q q =>
  h H0 s _ fun H1 v e s1 hv ⟨ds, he, hl, hd⟩ => bl H1 _ fun lo => bh H1 _ fun hi => by
    subst he
    obtain ⟨a, xs, rfl, ha, na, hx⟩ := tup_dx2 hv
    refine slA_any ha fun p H' s' hp hw => q H' _ _ (s1.trans s') (.tup hp (fun z => ?_) (((hx.same s').drop _).take _)) ⟨_, rfl, ?_, fun x hx => hd x (List.mem_of_mem_drop (List.mem_of_mem_take hx))⟩
    · rcases hw with rfl | np
      · exact na z
      · exact hN p z ((s.trans s1).free np)
    · rw [List.length_take, List.length_drop]
      omega
theorem mk_revT {K : PySem.W.Frag} {n : Nat} (hN : ∀ p, N p → H p ≠ none) (h : Mk N σ H te (TupN P n)) : Mk N σ H (tRevT K te) (TupN P n) := fun H0 s Q q =>
  h H0 s _ fun H1 v e s1 hv ⟨ds, he, hl, hd⟩ => by
    subst he
    obtain ⟨a, xs, rfl, ha, na, hx⟩ := tup_dx2 hv
    exact ⟨a, xs, rfl, SqT.of ha, fun p np => q _ _ _ (s1.trans (same_new np)) (.tup upd_same (fun z => hN p z ((s.trans s1).free np)) (hx.rev.same (same_new np))) ⟨ds.reverse, rfl, by rw [List.length_reverse]; exact hl, fun x hx => hd x (List.mem_reverse.mp hx)⟩⟩
theorem mk_lstT {K : PySem.W.Frag} {n : Nat} (hN : ∀ p, N p → H p ≠ none) (h : Mk N σ H te (TupN P n)) : Mk N σ H (tCB (fun xs H Q => ∃ p ys, xs = [V.ref p] ∧ (SqL K H p ys ∨ SqT K H p ys) ∧ ∀ l, H l = none → Q (.ref l) (upd H l (.lst ys))) (tCons te tNil)) (LstN P n) := fun H0 s Q q =>
  h H0 s _ fun H1 v e s1 hv ⟨ds, he, hl, hd⟩ => by
    subst he
    obtain ⟨a, xs, rfl, ha, na, hx⟩ := tup_dx2 hv
    exact ⟨a, xs, rfl, .inr (SqT.of ha), fun p np => q _ _ _ (s1.trans (same_new np)) (.lst upd_same (fun z => hN p z ((s.trans s1).free np)) (hx.same (same_new np))) ⟨ds, rfl, hl, hd⟩⟩
end
end Mo

namespace Mo
open PySem PySem.Spec PyProof.Rows L2
section
variable {X : Cx}
theorem intsAre_of : ∀ {ns : List Int} {vs : List Value}, Vals (ns.map V.int) vs → IntsAre vs ns
  | [], _, .nil => .nil
  | n :: ns, _, .cons ⟨t, e⟩ h => by
    subst e
    exact .cons n t (intsAre_of h)
/-- t.index(k), a tuple of ints that has it -/
theorem mt_tindexI {K : PySem.W.Frag} (hK : X.K = K) : MtR X "tuple.index" (fun x xs H Q => ∃ p, ∃ ns : List Int, ∃ k : Int, x = .ref p ∧ xs = [.int k] ∧ SqT K H p (ns.map V.int) ∧ k ∈ ns ∧ Q (.int (ns.idxOf k : Nat)) H) := by
  subst hK
  intro pins s σ H x xs v us Q I rx rs h
  obtain ⟨p, ns, k, rfl, rfl, hq, hk, q⟩ := h
  cases rx
  obtain ⟨u, rfl, t, rfl⟩ := vals1 rs
  obtain ⟨its, r, pl, hz⟩ := I.tuple hq
  have k1 : s.heap.IsTuple p its.toArray := pl
  exact PySem.SeqAt.tuple_index_ints k1 (intsAre_of r) hk ⟨.int _, H, I.tok _, ⟨_, rfl⟩, q⟩
/-- a tuple whose object has no dict -/
def Tpl (H : Hp) (p : Addr) (xs : List V) : Prop := ∃ o : Obj, o.dict = none ∧ H p = some (.frz o (.tup xs))
theorem Tpl.sq {K : PySem.W.Frag} {H : Hp} {p : Addr} {xs : List V} (h : Tpl H p xs) : SqT K H p xs := by
  obtain ⟨o, _, e⟩ := h
  exact .inl (.inr ⟨o, e⟩)
theorem Tpl.same {H H' : Hp} {p : Addr} {xs : List V} (h : Tpl H p xs) (s : Same H H') : Tpl H' p xs := by
  obtain ⟨o, d, e⟩ := h
  exact ⟨o, d, s _ _ e⟩
theorem Tpl.ne {H : Hp} {p q : Addr} {xs : List V} {o : HO} (h : Tpl H p xs) (hq : H q = some o) (n : ∀ a b, o ≠ .frz a b) : p ≠ q := by
  obtain ⟨o', d, e⟩ := h
  exact ne_of e hq (fun z => n _ _ z.symm)
/-- tuple(list), the object kept -/
theorem cr_tupF : CallR X (.type "tuple") (fun xs H Q => ∃ p ys, xs = [.ref p] ∧ SqL X.K H p ys ∧ ∀ l H', H l = none → Same H H' → Tpl H' l ys → Q (.ref l) H') := by
  intro pins s σ H xs us Q I r h
  obtain ⟨p, ys, rfl, hq, q⟩ := h
  obtain ⟨u, rfl, rx⟩ := vals1 r
  cases rx
  obtain ⟨its, r', pl, hz⟩ := I.list hq
  have hlen := r'.length
  refine call_tuple_list pl.isList (fun h' kp => ?_) (by simp only [List.size_toArray] <;> omega)
  have I1 : Inv X pins σ H { s with heap := h' } := I.kept (t' := s.toks) kp
  have I2 : Inv X pins σ (upd H h'.objs.size (.frz { cls := .type "tuple", data := .seq its.toArray } (.tup ys))) { s with heap := h'.push { cls := .type "tuple", data := .seq its.toArray } } :=
    I1.laid (t' := s.toks) (fun b o e => Heap.get?_push_of_some _ e) (Nat.le_refl _) (show ObjOk X.prog X.w _ _ _ (.frz _ (.tup ys)) from ⟨Heap.get?_push_size _ rfl, hz, its, r', IsTup.new _ _⟩)
  have nw := I1.hok.fresh (Nat.le_refl _)
  exact ⟨.ref h'.objs.size, _, I2, rfl, q _ _ nw (same_new nw) ⟨_, rfl, upd_same⟩⟩
/-- a tuple's method -/
def tTM (r : V → List V → Hp → VK → Prop) (to : TE) (t : TA) : TE := fun σ H Q => to σ H fun x H1 => (∃ p ys, x = .ref p ∧ Tpl H1 p ys) ∧ t σ H1 fun xs H2 => r x xs H2 Q
theorem pe_tm {id : String} {name : Str} {r : V → List V → Hp → VK → Prop} {o e : Expr} {es : List Expr} {to : TE} {t : TA} {apos cpos : Pos} (slot : Slot "tuple" name id) (hty : typeOf (.builtin id) = pure (.type "method_descriptor")) (hm : MtR X id r) (ho : PE X o to) (ha : PA X (e :: es) t)
    (hbase : attributeBase o name X.env (eval o X.env) = eval o X.env := by rfl)
    (hfew : ((backTo cpos (starEach (e :: es) X.env)).all (fun x => !x.1) && (backToKw cpos (keywordEach [] X.env)).all (fun x => x.1.isSome)
      && decide ((e :: es).length + ([] : List Keyword).length + (if ([] : List Keyword).isEmpty then 0 else 1) < 30)) = true := by rfl)
    (hline : (apos.endLine == cpos.line) = true := by rfl) (hs : starEach (e :: es) X.env = (false, eval e X.env) :: starEach es X.env := by rfl) (hplain : (backTo cpos (starEach es X.env)).any (·.1) = false := by rfl) :
    PE X (.Call (.Attribute o name apos) (e :: es) [] cpos) (tTM r to t) := by
  refine ⟨fun pins s σ H Q I h => ?_⟩
  refine wpAny_Call_method_late hbase hfew hline rfl (thn (ho.run pins s σ H _ I h) fun v s1 ⟨x, H1, I1, r1, ty, q1⟩ => ?_)
  obtain ⟨p, ys, rfl, ob, hob, hp⟩ := ty
  cases r1
  obtain ⟨hg, hz, its, _, o', ho', hc', _⟩ := I1.hok p _ hp
  have eo : ob = o' := Option.some.inj (hg.symm.trans ho')
  subst eo
  refine ⟨"tuple", id, PySem.F.plainAttrs_tuple, slot, hty, ⟨ob, hg, hc'⟩, fun a e => by cases e; exact ⟨ob, hg, hob⟩, ?_⟩
  have hA := ha.run cpos pins s1 σ H1 _ I1 q1
  rw [hs] at hA ⊢
  refine Calls.callWith_builtin (by show (false || (backTo cpos (starEach es X.env)).any (·.1)) = false; rw [hplain] <;> rfl) (Calls.evalArgs_plain ?_)
  exact thn hA fun us s2 ⟨vs, H2, I2, r2, q2⟩ => hm pins s2 σ H2 (.ref p) vs (.ref p) us Q I2 rfl r2 q2
theorem ix_tupK {K : PySem.W.Frag} (h : X.K = K) : IxR X (rIxT K) := by
  subst h
  exact ix_tup
end
end Mo

namespace Mo
open PySem PySem.Spec PyProof.Rows L2
section
variable {X : Cx}
theorem sl_tupAK {K : PySem.W.Frag} (h : X.K = K) : SlR X (rSlA K) := by
  subst h
  exact sl_tupA
theorem op_eqFlK {K : PySem.W.Frag} (h : X.K = K) (hu : X.A.units + 64 < cLine) : OpR X (compareOp .Eq) (rEqFl K) := by
  subst h
  exact op_eqFl hu
theorem op_neFlK {K : PySem.W.Frag} (h : X.K = K) (hu : X.A.units + 64 < cLine) : OpR X (compareOp .NotEq) (rNeFl K) := by
  subst h
  exact op_neFl hu
end
theorem Same.sqT {K : PySem.W.Frag} {H H' : Hp} {p : Addr} {xs : List V} (s : Same H H') (h : SqT K H p xs) : SqT K H' p xs := by
  rcases h with (e | ⟨o, e⟩) | e
  · exact .inl (.inl (s _ _ e))
  · exact .inl (.inr ⟨o, s _ _ e⟩)
  · exact .inr e
theorem But.sqT {K : PySem.W.Frag} {d : Addr} {H H' : Hp} {p : Addr} {xs : List V} (s : But d H H') (n : p ≠ d) (h : SqT K H p xs) : SqT K H' p xs := by
  rcases h with (e | ⟨o, e⟩) | e
  · exact .inl (.inl (s _ _ n e))
  · exact .inl (.inr ⟨o, s _ _ n e⟩)
  · exact .inr e
end Mo

namespace Mo
open PySem PySem.Spec PyProof.Rows L2
theorem call_isiK {X : Cx} {K : PySem.W.Frag} (h : X.K = K) : CallR X (.builtin "isinstance") (rIsi K) := by
  subst h
  exact call_isi
end Mo

set_option pp.maxSteps 300
namespace Mo
open PySem PySem.Spec PyProof.Rows L2
theorem cut_txFrm (zs : List Nat) (k : Nat) : cutS (tx zs) (some (k : Int)) none = tx (zs.drop k) := by
  rw [cut_tx, HT.sIx_nat, HT.sIx_none, List.take_of_length_le (by rw [List.length_drop]; omega)]
  by_cases h : k ≤ zs.length
  · rw [Nat.min_eq_left h]
  · rw [Nat.min_eq_right (by omega), List.drop_of_length_le (Nat.le_refl _), List.drop_of_length_le (by omega)]
theorem Grp.mem {es : List (Nat × Nat)} {ns ms : List Nat} {qs : List Pt} (e : ∀ c, c ∈ ns ↔ c ∈ ms) (h : Grp es ns qs) : Grp es ms qs :=
  ⟨fun q hq => by
    obtain ⟨v, hv, hc⟩ := h.cmp q hq
    exact ⟨v, (e _).mp hv, hc⟩, fun v hv => h.cov v ((e _).mpr hv), h.dis, h.nd, fun q hq u hu => (e _).mp (h.sub q hq u hu)⟩
theorem inG_sgs (c : Nat) (os : List Nat) : inV (sg c) (os.map sg) = decide (c ∈ os) := by
  unfold inV
  rw [Bool.eq_iff_iff, List.any_eq_true, decide_eq_true_eq]
  constructor
  · rintro ⟨v, hv, e⟩
    obtain ⟨u, hu, rfl⟩ := List.mem_map.mp hv
    have e : (tx [u] == tx [c]) = true ∨ (tx [c] == tx [u]) = true := by first | exact .inl e | exact .inr e
    rcases e with e | e
    · rw [← (List.cons.inj (tx_inj (eq_of_beq e))).1]; exact hu
    · rw [(List.cons.inj (tx_inj (eq_of_beq e))).1]; exact hu
  · exact fun h => ⟨sg c, List.mem_map.mpr ⟨c, h, rfl⟩, by show (tx [c] == tx [c]) = true; exact beq_self_eq_true _⟩
theorem flatG_sgs (os : List Nat) : (os.map sg).all flatV = true := by
  rw [List.all_map, List.all_eq_true]
  exact fun _ _ => rfl
def gpV (gs : List Gp) : List V := gs.map fun g => V.ref g.p
theorem gpV_get {gs : List Gp} {i : Nat} {x : V} (h : (gpV gs)[i]? = some x) : ∃ g, gs[i]? = some g ∧ x = .ref g.p := by
  unfold gpV at h
  rw [List.getElem?_map] at h
  obtain ⟨g, h1, h2⟩ := Option.map_eq_some_iff.mp h
  exact ⟨g, h1, h2.symm⟩
theorem gpV_len (gs : List Gp) : (gpV gs).length = gs.length := List.length_map ..
theorem find_first {gs : List Gp} {p : Gp → Bool} (h : ∃ g ∈ gs, p g = true) : ∃ g r, gs.filter p = g :: r ∧ g ∈ gs ∧ p g = true := by
  obtain ⟨g, hg, hp⟩ := h
  cases e : gs.filter p with
  | nil => exact absurd hp (by have := List.filter_eq_nil_iff.mp e g hg; exact this)
  | cons x r =>
    have hx : x ∈ gs.filter p := by rw [e]; exact List.mem_cons_self
    obtain ⟨h1, h2⟩ := List.mem_filter.mp hx
    exact ⟨x, r, rfl, h1, h2⟩
section
variable {P : Program} {w : World} {K : PySem.W.Frag} {mg : Str → Option Value} {base : Heap}
def spGrps : Sp := fun vs H Q _ => ∃ cs, vs = [.str (tx cs)] ∧ Pat cs ∧ ∀ H' G gs, Same H H' → H' G = some (.lst (gpV gs)) → (∀ g ∈ gs, GOk H' G g) → Grp (nbr cs) cs (gs.map (·.q)) → gs.length ≤ 16 → Q (.ref G) H'
/-- how far the joining has come -/
structure GSt (H H' : Hp) (nl : List Nat) (es : List (Nat × Nat)) (G : Addr) (gs : List Gp) : Prop where
  s : Same H H'
  nG : H G = none
  hG : H' G = some (.lst (gpV gs))
  ok : ∀ g ∈ gs, GOk H' G g
  gr : Grp es nl (gs.map (·.q))
  l16 : gs.length ≤ 16
theorem GSt.same {H H' H'' : Hp} {nl : List Nat} {es : List (Nat × Nat)} {G : Addr} {gs : List Gp} (h : GSt H H' nl es G gs) (s : Same H' H'') : GSt H H'' nl es G gs :=
  ⟨h.s.trans s, h.nG, s _ _ h.hG, fun g hg => (h.ok g hg).same s, h.gr, h.l16⟩
theorem ok_grps {k : Nat} (T : Txt K mg) : FnOk P w K mg base CX0 (k + 1) T.aLComponents T.dLComponents ["_law_pattern_here"] spGrps := by
  refine T.fLComponents.ok scLComponents (fun vs H Q E h => ?_) (fun cdv A outer s H vs Q E hr h => ?_)
  · obtain ⟨_, rfl, _⟩ := h
    rfl
  · obtain ⟨cs, rfl, pat, q⟩ := h
    refine ⟨_, (pss_cons (ps_set (i := 1) scLComponents.nd rfl (Or.inl rfl) (pe_lst pa_nil))
      (pss_cons (ps_for PassesOwn.never rfl (pi_list (pe_callB (Mo.cr_sortSg (P := P) (w := w) rfl rfl rfl) (by rfl) T.m_sorted (by decide +kernel) (pa_cons (pe_callTy (Mo.cr_setSg (P := P) (w := w) rfl rfl rfl) (by rfl) T.m_set (by decide +kernel) (pa_cons (pv 0) pa_nil)) pa_nil))) (pg_name (i := 2) scLComponents.nd rfl (Or.inl rfl)) (pss_one (ps_expr (pe_bm PySem.F.plainAttrs_list PySem.F.slot_list_extend PySem.F.type_list_extend mt_extend (pv 1) (pa_cons (pe_lst (pa_cons (pe_tup (pa_cons (pe_lst (pa_cons (pv 2) pa_nil)) (pa_cons (pe_lst pa_nil) pa_nil))) (pa_cons (pe_tup (pa_cons (pe_lst pa_nil) (pa_cons (pe_lst (pa_cons (pv 2) pa_nil)) pa_nil))) pa_nil))) pa_nil)))))
      (pss_cons (ps_for PassesOwn.never rfl (Mo.pi_zipS rfl (by rfl) T.m_zip (pa_cons (pv 0) (pa_cons (pe_slice sl_str (pv 0) (po_some pe_int) po_none) pa_nil))) (pg_tup rfl (pgs_cons (pg_name (i := 3) scLComponents.nd rfl (Or.inr rfl)) (pgs_cons (pg_name (i := 4) scLComponents.nd rfl (Or.inr rfl)) pgs_nil))) (pss_cons (ps_set (i := 5) scLComponents.nd rfl (Or.inr rfl) (pe_ix ix_list (pe_lc (own := [("_law_group", 7)]) (g := gName 7) rfl scLComponents.nd (pi_list (pv 1)) (blkOk_by (N := ["_law_pattern_here", "_law_groups", "_law_name", "_law_one", "_law_other", "_law_first", "_law_second", "_law_group"]) (sc := defScope sLComponents) (by decide +kernel)) (fun _ _ _ _ _ => pg_name (i := 7) scLComponents.nd rfl (Or.inl rfl)) (fun _ _ _ _ _ => pts_one (pt_cmpR (Mo.op_in_seqK (K := K) rfl) (pv 3) (pe_ix (Mo.ix_tupK (K := K) rfl) (pv 7) pe_int (fun _ _ => rfl)) rfl)) (fun _ _ _ _ _ => (pv 7))) pe_int (fun _ _ => rfl)))
      (pss_cons (ps_set (i := 6) scLComponents.nd rfl (Or.inr rfl) (pe_ix ix_list (pe_lc (own := [("_law_group", 7)]) (g := gName 7) rfl scLComponents.nd (pi_list (pv 1)) (blkOk_by (N := ["_law_pattern_here", "_law_groups", "_law_name", "_law_one", "_law_other", "_law_first", "_law_second", "_law_group"]) (sc := defScope sLComponents) (by decide +kernel)) (fun _ _ _ _ _ => pg_name (i := 7) scLComponents.nd rfl (Or.inl rfl)) (fun _ _ _ _ _ => pts_one (pt_cmpR (Mo.op_in_seqK (K := K) rfl) (pv 4) (pe_ix (Mo.ix_tupK (K := K) rfl) (pv 7) pe_int (fun _ _ => rfl)) rfl)) (fun _ _ _ _ _ => (pv 7))) pe_int (fun _ _ => rfl)))
      (pss_one (ps_if (pt_cmpR (op_neD hr.units) (pv 5) (pv 6) (nomark _)) (pss_cons (ps_setLc (i := 1) (own := [("_law_group", 7)]) (g := gName 7) rfl scLComponents.nd rfl rfl (sw_true rfl rfl rfl (by decide +kernel)) (pi_list (pv 1)) (blkOk_by (N := ["_law_pattern_here", "_law_groups", "_law_name", "_law_one", "_law_other", "_law_first", "_law_second", "_law_group"]) (sc := defScope sLComponents) (by decide +kernel)) (fun _ _ _ _ _ => pg_name (i := 7) scLComponents.nd rfl (Or.inl rfl)) (fun _ _ _ _ _ => pts_one (pt_cmpR (Mo.op_notInTK (K := K) rfl (Mo.room65 hr)) (pv 7) (pe_tup (pa_cons (pv 5) (pa_cons (pv 6) pa_nil))) rfl)) (fun _ _ _ _ _ => (pv 7)))
      (pss_one (ps_expr (pe_bm PySem.F.plainAttrs_list PySem.F.slot_list_append PySem.F.type_list_append mt_append (pv 1) (pa_cons (pe_tup (pa_cons (pe_op op_cat (pe_ix ix_tup (pv 5) pe_int (fun _ _ => rfl)) (pe_ix ix_tup (pv 6) pe_int (fun _ _ => rfl))) (pa_cons (pe_op op_cat (pe_ix ix_tup (pv 5) pe_int (fun _ _ => rfl)) (pe_ix ix_tup (pv 6) pe_int (fun _ _ => rfl))) pa_nil))) pa_nil))))) pss_nil)))))
      (pss_one (ps_ret (pv 1)))))), ?_⟩
    have c40 := pat.len
    have few := pat.few
    have ml := met_length_le cs
    have lows : ∀ c ∈ cs, c < 128 := fun c hc => by
      have := pat.low c hc
      omega
    refine ⟨by show 0 ≤ sizeLine; decide, fun G nG => ?_⟩
    have s1 := same_new (o := .lst []) nG
    have hG1 : upd H G (.lst []) G = some (.lst []) := upd_same
    generalize upd H G (.lst []) = H1 at *
    refine ⟨_, rfl, tx cs, rfl, by rw [tx_size]; omega, fun S2 nS2 => ?_⟩
    have s2 := same_new (o := SetSg P w S2 (tx cs).cps.toList) nS2
    refine ⟨S2, _, rfl, upd_same, by show (met cs).length < 64; omega, fun ys r pm so nr => ?_⟩
    obtain ⟨nl, rfl, asc, mem, nlen⟩ := signs_set (cs := cs) pm so
    have s3 := s2.trans (same_new (o := .lst ((nl.map ch1).map V.str)) nr)
    have hr3 : upd (upd H1 S2 (SetSg P w S2 (tx cs).cps.toList)) r (.lst ((nl.map ch1).map V.str)) r = some (.lst ((nl.map ch1).map V.str)) := upd_same
    generalize upd (upd H1 S2 (SetSg P w S2 (tx cs).cps.toList)) r (.lst ((nl.map ch1).map V.str)) = H3 at *
    have xl : ((nl.map ch1).map V.str).length = nl.length := by rw [List.length_map, List.length_map]
    have n8 : nl.length ≤ 8 := by omega
    have nd := asc_nodup asc
    refine ⟨r, rfl, ⟨_, SqL.of hr3⟩, for_it (walk_list (xs := (nl.map ch1).map V.str)) (fun i σ H' => ∃ (gs : List Gp) (o2 o3 o4 o5 o6 o7 : Option V), σ = [some (.str (tx cs)), some (.ref G), o2, o3, o4, o5, o6, o7] ∧ Same H H' ∧ H' G = some (.lst (gpV gs)) ∧ (∀ g ∈ gs, GOk H' G g) ∧ gs.map (·.q) = startG (nl.take i) ∧ H' r = some (.lst ((nl.map ch1).map V.str))) ?_ ?_ ?_ ?_⟩
    · exact ⟨[], _, _, _, _, _, _, rfl, s1.trans s3, s3 _ _ hG1, fun g h => absurd h (by simp), rfl, hr3⟩
    · rintro i σ H' _ ⟨_, _, _, _, _, _, _, _, _, _, _, _, h⟩
      exact SqL.of h
    · rintro i x σ H4' H4 hi ⟨gs, o2, o3, o4, o5, o6, o7, rfl, s4, hG4, ok4, eq4, hr4⟩ ⟨rfl, hx⟩
      obtain ⟨c, hc, rfl⟩ : ∃ c, nl[i]? = some c ∧ x = sg c := by
        rw [List.getElem?_map, List.getElem?_map] at hx
        cases e : nl[i]? with
        | none => rw [e] at hx; cases hx
        | some c => rw [e] at hx; exact ⟨c, rfl, (Option.some.inj hx).symm⟩
      have glen : gs.length = 2 * i := by
        have := congrArg List.length eq4
        rw [List.length_map, startG_len, List.length_take] at this
        rw [xl] at hi
        omega
      rw [xl] at hi
      refine ⟨_, rfl, .inl ⟨rfl, _, SqL.of hG4⟩, ?_⟩
      -- ([c], []), ([], [c])
      refine ⟨_, rfl, by show 1 ≤ sizeLine; decide, fun a1 na1 => ⟨by show 0 ≤ sizeLine; decide, fun b1 nb1 => ⟨by show 2 ≤ sizeLine; decide, fun p1 np1 => ?_⟩⟩⟩
      have t1 := same_new (o := .lst [sg c]) na1
      have t2 := same_new (o := .lst []) nb1
      have t3 := same_new (o := .tup [V.ref a1, .ref b1]) np1
      have ha1 := (t2.trans t3) _ _ (upd_same (H := H4) (a := a1) (o := .lst [sg c]))
      have hb1 := t3 _ _ (upd_same (H := upd H4 a1 (.lst [sg c])) (a := b1) (o := .lst []))
      have hp1 := upd_same (H := upd (upd H4 a1 (.lst [sg c])) b1 (.lst [])) (a := p1) (o := .tup [V.ref a1, .ref b1])
      have t13 := (t1.trans t2).trans t3
      have a1G : a1 ≠ G := (ne_of_none hG4 na1).symm
      have b1G : b1 ≠ G := (ne_of_none (t1 _ _ hG4) nb1).symm
      generalize upd (upd (upd H4 a1 (.lst [sg c])) b1 (.lst [])) p1 (.tup [V.ref a1, .ref b1]) = H5 at *
      refine ⟨by show 0 ≤ sizeLine; decide, fun a2 na2 => ⟨_, rfl, by show 1 ≤ sizeLine; decide, fun b2 nb2 => ⟨by show 2 ≤ sizeLine; decide, fun p2 np2 => ?_⟩⟩⟩
      have u1 := same_new (o := .lst []) na2
      have u2 := same_new (o := .lst [sg c]) nb2
      have u3 := same_new (o := .tup [V.ref a2, .ref b2]) np2
      have ha2 := (u2.trans u3) _ _ (upd_same (H := H5) (a := a2) (o := .lst []))
      have hb2 := u3 _ _ (upd_same (H := upd H5 a2 (.lst [])) (a := b2) (o := .lst [sg c]))
      have hp2 := upd_same (H := upd (upd H5 a2 (.lst [])) b2 (.lst [sg c])) (a := p2) (o := .tup [V.ref a2, .ref b2])
      have u13 := (u1.trans u2).trans u3
      have hG5 := t13 _ _ hG4
      have a2G : a2 ≠ G := (ne_of_none hG5 na2).symm
      have b2G : b2 ≠ G := (ne_of_none (u1 _ _ hG5) nb2).symm
      have v1 := u13 _ _ ha1
      have v2 := u13 _ _ hb1
      have v3 := u13 _ _ hp1
      generalize upd (upd (upd H5 a2 (.lst [])) b2 (.lst [sg c])) p2 (.tup [V.ref a2, .ref b2]) = H6 at *
      have s46 := t13.trans u13
      have hG6 := s46 _ _ hG4
      refine ⟨by show 2 ≤ sizeLine; decide, fun N nN => ?_⟩
      have sN := same_new (o := .lst [V.ref p1, .ref p2]) nN
      have hN := upd_same (H := H6) (a := N) (o := .lst [V.ref p1, .ref p2])
      have okN : ∀ g ∈ gs ++ [⟨p1, a1, b1, ([c], [])⟩, ⟨p2, a2, b2, ([], [c])⟩], GOk (upd H6 N (.lst [V.ref p1, .ref p2])) G g := fun g hg => by
        rcases List.mem_append.mp hg with z | z
        · exact (ok4 g z).same (s46.trans sN)
        · simp only [List.mem_cons, List.not_mem_nil, or_false] at z
          rcases z with rfl | rfl
          · exact ⟨sN _ _ v3, sN _ _ v1, sN _ _ v2, a1G, b1G⟩
          · exact ⟨sN _ _ hp2, sN _ _ ha2, sN _ _ hb2, a2G, b2G⟩
      have hGN := sN _ _ hG6
      have hrN := sN _ _ (s46 _ _ hr4)
      have s0N := s4.trans (s46.trans sN)
      generalize upd H6 N (.lst [V.ref p1, .ref p2]) = H7 at *
      refine ⟨G, N, _, _, rfl, rfl, hGN, hN, fits5 (by rw [gpV_len]; show _ + 2 ≤ _; omega), ?_⟩
      have rG : r ≠ G := fun z => by
        rw [z] at hr4
        have e1 := hG4.symm.trans hr4
        injection e1 with e1
        injection e1 with e1
        -- a list of references is no list of texts
        rw [z] at nr
        have := s2 _ _ hG1
        rw [nr] at this
        cases this
      refine ⟨gs ++ [⟨p1, a1, b1, ([c], [])⟩, ⟨p2, a2, b2, ([], [c])⟩], _, _, _, _, _, _, rfl, Same.put s0N nG, ?_, fun g hg => (okN g hg).set hGN, ?_, ?_⟩
      · rw [upd_same]
        unfold gpV
        rw [List.map_append]
        rfl
      · rw [List.map_append, eq4, List.take_add_one, hc]
        show _ = startG (nl.take i ++ [c])
        rw [startG_snoc]
        rfl
      · rw [upd_ne rG]
        exact hrN
    · rintro σ H4 ⟨gs, o2, o3, o4, o5, o6, o7, rfl, s4, hG4, ok4, eq4, hr4⟩
      rw [xl, List.take_length] at eq4
      have glen : gs.length = 2 * nl.length := by
        have := congrArg List.length eq4
        rw [List.length_map, startG_len] at this
        exact this
      have st4 : GSt H H4 nl [] G gs := ⟨s4, nG, hG4, ok4, by rw [eq4]; exact Grp.start nd, by omega⟩
      clear s4 hG4 ok4 eq4 hr4 glen
      -- neighbours
      refine ⟨_, rfl, _, rfl, 1, rfl, _, rfl, by rw [tx_len, sizeLine_eq]; omega, ?_⟩
      rw [show cutS (tx cs) (some 1) none = tx (cs.drop 1) from cut_txFrm cs 1]
      refine ⟨tx cs, tx (cs.drop 1), rfl, for_it (walk_zipS rfl) (fun i σ H' => ∃ (G' : Addr) (gs : List Gp) (o2 o3 o4 o5 o6 o7 : Option V), σ = [some (.str (tx cs)), some (.ref G'), o2, o3, o4, o5, o6, o7] ∧ GSt H H' nl ((nbr cs).take i) G' gs) ?_ ?_ ?_ ?_⟩
      · exact ⟨G, gs, _, _, _, _, _, _, rfl, st4⟩
      · exact fun _ _ _ _ _ => trivial
      · rintro i x σ H5 H6 hi ⟨G', gs, o2, o3, o4, o5, o6, o7, rfl, st⟩ ⟨T0, a, b, rfl, nT0, ha, hb, rfl⟩
        have ea : cs[i]? = some a := by
          rw [← ha]
          unfold tx
          simp
        have eb : (cs.drop 1)[i]? = some b := by
          rw [← hb]
          unfold tx
          simp
        have hab : (nbr cs)[i]? = some (a, b) := by
          unfold nbr
          rw [List.getElem?_zip_eq_some]
          exact ⟨ea, eb⟩
        have mab := nbr_in (List.mem_of_getElem? hab)
        have tk : (nbr cs).take (i + 1) = (nbr cs).take i ++ [(a, b)] := by rw [List.take_add_one, hab]; rfl
        refine ⟨T0, _, rfl, SqT.of upd_same, rfl, _, _, rfl, _, _, rfl, rfl, ?_⟩
        have st5 := st.same (same_new (o := .tup [.str ⟨#[a]⟩, .str ⟨#[b]⟩]) nT0)
        clear st ha hb
        generalize upd H5 T0 (.tup [.str ⟨#[a]⟩, .str ⟨#[b]⟩]) = H6 at *
        rw [tk]
        have gl := st5.l16
        have anl : a ∈ nl := (mem a).mpr mab.1
        have bnl : b ∈ nl := (mem b).mpr mab.2
        obtain ⟨q1, hq1, at1⟩ := st5.gr.cov (false, a) anl
        obtain ⟨q2, hq2, at2⟩ := st5.gr.cov (true, b) bnl
        obtain ⟨g1, r1, f1, m1, y1⟩ := find_first (gs := gs) (p := fun g => decide (a ∈ g.q.1)) (by
          obtain ⟨g, hg, e⟩ := List.mem_map.mp hq1
          exact ⟨g, hg, decide_eq_true (by rw [e]; exact at1)⟩)
        obtain ⟨g2, r2, f2, m2, y2⟩ := find_first (gs := gs) (p := fun g => decide (b ∈ g.q.2)) (by
          obtain ⟨g, hg, e⟩ := List.mem_map.mp hq2
          exact ⟨g, hg, decide_eq_true (by rw [e]; exact at2)⟩)
        have y1 : At g1.q (false, a) := at_l.mpr (of_decide_eq_true (p := a ∈ g1.q.1) y1)
        have y2 : At g2.q (true, b) := at_r.mpr (of_decide_eq_true (p := b ∈ g2.q.2) y2)
        -- first
        refine ⟨_, rfl, G', rfl, ⟨_, SqL.of st5.hG⟩, fun D nD => lc_it (walk_list (xs := gpV gs)) (fun i H' => Same H6 H' ∧ H' D = some (.lst (gpV ((gs.take i).filter fun g => decide (a ∈ g.q.1))))) ?_ ?_ ?_ ?_⟩
        · exact ⟨same_new nD, upd_same⟩
        · exact fun i H' _ h => SqL.of (h.1 _ _ st5.hG)
        · rintro j x H7 H7' hj ⟨s7, hD⟩ ⟨rfl, hx⟩
          obtain ⟨g, hg, rfl⟩ := gpV_get hx
          have ok := (st5.ok g (List.mem_of_getElem? hg)).same s7
          have fl : ((gs.take j).filter fun g => decide (a ∈ g.q.1)).length ≤ 16 := Nat.le_trans (List.length_filter_le _ _) (by rw [List.length_take]; omega)
          refine ⟨rfl, _, rfl, _, rfl, g.p, [.ref g.a, .ref g.b], 0, .ref g.a, rfl, rfl, SqT.of ok.hp, rfl, g.a, _, rfl, .inl (SqL.of ok.ha), rfl, flatG_sgs _, _, rfl, ?_⟩
          rw [show inV (V.str ⟨#[a]⟩) (g.q.1.map sg) = decide (a ∈ g.q.1) from inG_sgs a _, filter_one hg]
          by_cases e : a ∈ g.q.1
          · rw [decide_eq_true e]
            refine iteT ⟨_, rfl, _, hD, fitsLt (by rw [gpV_len]; omega), Same.put s7 nD, ?_⟩
            rw [upd_same]
            unfold gpV
            rw [List.map_append]
            rfl
          · rw [decide_eq_false e]
            refine iteF ⟨s7, ?_⟩
            rw [hD]
            simp
        rintro H7 ⟨s7, hD⟩
        rw [gpV_len, List.take_length, f1] at hD
        refine ⟨D, _, ((0 : Nat) : Int), .ref g1.p, rfl, rfl, SqL.of hD, atI_nat rfl, ?_⟩
        have st7 := st5.same s7
        -- second
        refine ⟨_, rfl, G', rfl, ⟨_, SqL.of st7.hG⟩, fun D2 nD2 => lc_it (walk_list (xs := gpV gs)) (fun i H' => Same H7 H' ∧ H' D2 = some (.lst (gpV ((gs.take i).filter fun g => decide (b ∈ g.q.2))))) ?_ ?_ ?_ ?_⟩
        · exact ⟨same_new nD2, upd_same⟩
        · exact fun i H' _ h => SqL.of (h.1 _ _ st7.hG)
        · rintro j x H8 H8' hj ⟨s8, hD2⟩ ⟨rfl, hx⟩
          obtain ⟨g, hg, rfl⟩ := gpV_get hx
          have ok := (st7.ok g (List.mem_of_getElem? hg)).same s8
          have fl : ((gs.take j).filter fun g => decide (b ∈ g.q.2)).length ≤ 16 := Nat.le_trans (List.length_filter_le _ _) (by rw [List.length_take]; omega)
          refine ⟨rfl, _, rfl, _, rfl, g.p, [.ref g.a, .ref g.b], 1, .ref g.b, rfl, rfl, SqT.of ok.hp, rfl, g.b, _, rfl, .inl (SqL.of ok.hb), rfl, flatG_sgs _, _, rfl, ?_⟩
          rw [show inV (V.str ⟨#[b]⟩) (g.q.2.map sg) = decide (b ∈ g.q.2) from inG_sgs b _, filter_one hg]
          by_cases e : b ∈ g.q.2
          · rw [decide_eq_true e]
            refine iteT ⟨_, rfl, _, hD2, fitsLt (by rw [gpV_len]; omega), Same.put s8 nD2, ?_⟩
            rw [upd_same]
            unfold gpV
            rw [List.map_append]
            rfl
          · rw [decide_eq_false e]
            refine iteF ⟨s8, ?_⟩
            rw [hD2]
            simp
        rintro H8 ⟨s8, hD2⟩
        rw [gpV_len, List.take_length, f2] at hD2
        refine ⟨D2, _, ((0 : Nat) : Int), .ref g2.p, rfl, rfl, SqL.of hD2, atI_nat rfl, ?_⟩
        have st8 := st7.same s8
        clear st7 st5
        have lo : ∀ g ∈ gs, ∀ c, c ∈ g.q.1 ∨ c ∈ g.q.2 → c < 128 := fun g hg c hc => by
          have hq : g.q ∈ gs.map (·.q) := List.mem_map.mpr ⟨g, hg, rfl⟩
          rcases hc with h | h
          · exact lows c ((mem c).mp (st8.gr.sub _ hq (false, c) h))
          · exact lows c ((mem c).mp (st8.gr.sub _ hq (true, c) h))
        have k1 := st8.ok g1 m1
        have k2 := st8.ok g2 m2
        refine ⟨_, rfl, _, rfl, grD g1.q, grD g2.q, k1.dp, k2.dp, grD_shaped (lo g1 m1), grD_shaped (lo g2 m2), _, rfl, ?_⟩
        rw [grD_eqv]
        by_cases eq : g1.q = g2.q
        · rw [decide_eq_true eq]
          exact iteF ⟨G', gs, _, _, _, _, _, _, rfl, st8.s, st8.nG, st8.hG, st8.ok, st8.gr.same (List.mem_map.mpr ⟨g1, m1, rfl⟩) y1 (eq ▸ y2), st8.l16⟩
        · rw [decide_eq_false eq]
          refine iteT ?_
          -- the others
          refine ⟨_, rfl, G', rfl, ⟨_, SqL.of st8.hG⟩, fun D3 nD3 => lc_it (walk_list (xs := gpV gs)) (fun i H' => Same H8 H' ∧ H' D3 = some (.lst (gpV ((gs.take i).filter fun g => otherG g1.q g2.q g.q)))) ?_ ?_ ?_ ?_⟩
          · exact ⟨same_new nD3, upd_same⟩
          · exact fun i H' _ h => SqL.of (h.1 _ _ st8.hG)
          · rintro j x H9 H9' hj ⟨s9, hD3⟩ ⟨rfl, hx⟩
            obtain ⟨g, hg, rfl⟩ := gpV_get hx
            have gm := List.mem_of_getElem? hg
            have ok := (st8.ok g gm).same s9
            have fl : ((gs.take j).filter fun g => otherG g1.q g2.q g.q).length ≤ 16 := Nat.le_trans (List.length_filter_le _ _) (by rw [List.length_take]; omega)
            refine ⟨rfl, _, rfl, _, rfl, _, rfl, by show 2 ≤ sizeLine; decide, fun T2 nT2 => ?_⟩
            have sT := same_new (o := .tup [V.ref g1.p, .ref g2.p]) nT2
            refine ⟨grD g.q, [grD g1.q, grD g2.q], (ok.same sT).dp, .tup (SqT.of upd_same) (.cons ((k1.same s9).same sT).dp (.cons ((k2.same s9).same sT).dp .nil)), grD_shaped (lo g gm), grTwo_shaped (lo g1 m1) (lo g2 m2), _, rfl, ?_⟩
            have e : (!([grD g1.q, grD g2.q].any fun z => PyData.eqv z (grD g.q))) = otherG g1.q g2.q g.q := by
              unfold otherG
              simp only [List.any_cons, List.any_nil, Bool.or_false, grD_eqv]
            rw [e, filter_one hg]
            have s9T := s9.trans sT
            have hD3T := sT _ _ hD3
            cases eo : otherG g1.q g2.q g.q with
            | true =>
              refine iteT ⟨_, rfl, _, hD3T, fitsLt (by rw [gpV_len]; omega), Same.put s9T nD3, ?_⟩
              rw [upd_same]
              unfold gpV
              rw [List.map_append]
              rfl
            | false =>
              refine iteF ⟨s9T, ?_⟩
              rw [hD3T]
              simp
          rintro H9 ⟨s9, hD3⟩
          rw [gpV_len, List.take_length] at hD3
          have okD : ∀ g ∈ gs.filter (fun g => otherG g1.q g2.q g.q), GOk H9 D3 g := fun g hg => ((st8.ok g (List.mem_filter.mp hg).1).new nD3).same s9
          have less : (gs.filter fun g => otherG g1.q g2.q g.q).length + 1 ≤ gs.length := filter_less m1 (by
            show otherG g1.q g2.q g1.q = false
            unfold otherG
            rw [decide_eq_true rfl]
            rfl)
          have nD3H : H D3 = none := st8.s.free nD3
          have h1 := k1.same s9
          have h2 := k2.same s9
          have n1 := st8.gr.lens (List.mem_map.mpr ⟨g1, m1, rfl⟩)
          have n2 := st8.gr.lens (List.mem_map.mpr ⟨g2, m2, rfl⟩)
          have t9 := st8.s.trans s9
          -- the joined one
          refine ⟨_, rfl, .inl ⟨rfl, _, SqL.of hD3⟩, _, rfl, g1.p, [.ref g1.a, .ref g1.b], 0, .ref g1.a, rfl, rfl, SqT.of h1.hp, rfl, _, rfl, g2.p, [.ref g2.a, .ref g2.b], 0, .ref g2.a, rfl, rfl, SqT.of h2.hp, rfl, g1.a, g2.a, _, _, rfl, rfl, h1.ha, h2.ha, fits5 (by rw [List.length_map, List.length_map]; omega), fun A nA => ?_⟩
          have sA := same_new (o := .lst (g1.q.1.map sg ++ g2.q.1.map sg)) nA
          have hA := upd_same (H := H9) (a := A) (o := .lst (g1.q.1.map sg ++ g2.q.1.map sg))
          have i1 := h1.same sA
          have i2 := h2.same sA
          have hD3A := sA _ _ hD3
          have AD : A ≠ D3 := (ne_of_none hD3 nA).symm
          generalize upd H9 A (.lst (g1.q.1.map sg ++ g2.q.1.map sg)) = Ha at *
          refine ⟨_, rfl, g1.p, [.ref g1.a, .ref g1.b], 1, .ref g1.b, rfl, rfl, SqT.of i1.hp, rfl, _, rfl, g2.p, [.ref g2.a, .ref g2.b], 1, .ref g2.b, rfl, rfl, SqT.of i2.hp, rfl, g1.b, g2.b, _, _, rfl, rfl, i1.hb, i2.hb, fits5 (by rw [List.length_map, List.length_map]; omega), fun B nB => ?_⟩
          have sB := same_new (o := .lst (g1.q.2.map sg ++ g2.q.2.map sg)) nB
          have hB := upd_same (H := Ha) (a := B) (o := .lst (g1.q.2.map sg ++ g2.q.2.map sg))
          have hAB := sB _ _ hA
          have hD3B := sB _ _ hD3A
          have BD : B ≠ D3 := (ne_of_none hD3A nB).symm
          generalize upd Ha B (.lst (g1.q.2.map sg ++ g2.q.2.map sg)) = Hb at *
          refine ⟨by show 2 ≤ sizeLine; decide, fun J nJ => ?_⟩
          have sJ := same_new (o := .tup [V.ref A, .ref B]) nJ
          have hJ := upd_same (H := Hb) (a := J) (o := .tup [V.ref A, .ref B])
          have hAJ := sJ _ _ hAB
          have hBJ := sJ _ _ hB
          have hD3J := sJ _ _ hD3B
          have s9J := (sA.trans sB).trans sJ
          generalize upd Hb J (.tup [V.ref A, .ref B]) = Hj at *
          refine ⟨D3, _, _, rfl, rfl, hD3J, fitsLt (by rw [gpV_len]; omega), ?_⟩
          refine ⟨D3, gs.filter (fun g => otherG g1.q g2.q g.q) ++ [⟨J, A, B, joinP g1.q g2.q⟩], _, _, _, _, _, _, rfl, Same.put (t9.trans s9J) nD3H, nD3H, ?_, fun g hg => ?_, ?_, by rw [List.length_append, List.length_singleton]; omega⟩
          · rw [upd_same]
            unfold gpV
            rw [List.map_append]
            rfl
          · rcases List.mem_append.mp hg with z | z
            · exact ((okD g z).same s9J).set hD3J
            · rw [List.mem_singleton.mp z]
              refine GOk.set ⟨hJ, ?_, ?_, AD, BD⟩ hD3J
              · rw [hAJ]
                show _ = some (HO.lst ((g1.q.1 ++ g2.q.1).map sg))
                rw [List.map_append]
              · rw [hBJ]
                show _ = some (HO.lst ((g1.q.2 ++ g2.q.2).map sg))
                rw [List.map_append]
          · have e : (gs.filter (fun g => otherG g1.q g2.q g.q) ++ [(⟨J, A, B, joinP g1.q g2.q⟩ : Gp)]).map (·.q) = (gs.map (·.q)).filter (otherG g1.q g2.q) ++ [joinP g1.q g2.q] := by
              rw [List.map_append, List.filter_map]
              rfl
            rw [e]
            exact st8.gr.join (List.mem_map.mpr ⟨g1, m1, rfl⟩) (List.mem_map.mpr ⟨g2, m2, rfl⟩) eq y1 y2 anl
      · rintro σ H5 ⟨G', gs, o2, o3, o4, o5, o6, o7, rfl, st⟩
        have sz1 : (tx cs).cps.size = cs.length := by simp [tx]
        have sz2 : (tx (cs.drop 1)).cps.size = cs.length - 1 := by simp [tx]
        have nlen : (nbr cs).length = min (tx cs).cps.size (tx (cs.drop 1)).cps.size := by
          unfold nbr
          rw [List.length_zip, List.length_drop, sz1, sz2]
        rw [← nlen, List.take_length] at st
        exact ⟨_, rfl, q H5 G' gs st.s st.hG st.ok (st.gr.mem mem) st.l16⟩
end
end Mo

set_option pp.maxSteps 300
namespace Mo
open PySem PySem.Spec PyProof.Rows L2
theorem filterG_one {l : List Nat} {p : Nat → Bool} {i x : Nat} (h : l[i]? = some x) : (l.take (i + 1)).filter p = (l.take i).filter p ++ if p x then [x] else [] := by
  rw [List.take_add_one, h, List.filter_append]
  congr 1
  cases e : p x <;> simp [e]
theorem meetG_nil {ls os : List Nat} : (!((ls.filter fun c => decide (c ∈ os)).map sg).isEmpty) = meetG ls os := by
  rw [Bool.eq_iff_iff, meetG_iff, Bool.not_eq_true', ← Bool.not_eq_true, List.isEmpty_iff, List.map_eq_nil_iff, List.filter_eq_nil_iff]
  simp
section
variable {P : Program} {w : World} {K : PySem.W.Frag} {mg : Str → Option Value} {base : Heap}
def spLFreeG : Sp := fun vs H Q _ => ∃ cs ls : List Nat, vs = [.str (tx cs), .str (tx ls)] ∧ Pat cs ∧ ls.length ≤ 1000 ∧ (∀ c ∈ ls, c ∈ cs) ∧ ∀ H' b, Same H H' → (b = true ↔ Free (nbr cs) ls) → Q (.bl b) H'
theorem ok_lfreeG {k : Nat} (T : Txt K mg) : FnOk P w K mg base CX0 (k + 2) T.aLIsFree T.dLIsFree ["_law_pattern_here", "_law_letters"] spLFreeG := by
  have GLComponents : FnOk P w K mg base CX0 (k + 1) T.aLComponents T.dLComponents ["_law_pattern_here"] spGrps := ok_grps T
  refine T.fLIsFree.ok scLIsFree (fun vs H Q E h => ?_) (fun cdv A outer s H vs Q E hr h => ?_)
  · obtain ⟨_, _, rfl, _⟩ := h
    rfl
  · obtain ⟨cs, ls, rfl, pat, hlen, hin, q⟩ := h
    refine ⟨_, (pss_cons (ps_for PassesOwn.never rfl (pi_list (pe_call GLComponents hr (by rfl) T.gLComponents T.fLComponents.kp T.bLComponents .nil pass0 (pa_cons (pv 0) pa_nil))) (pg_tup rfl (pgs_cons (pg_name (i := 2) scLIsFree.nd rfl (Or.inr rfl)) (pgs_cons (pg_name (i := 3) scLIsFree.nd rfl (Or.inr rfl)) pgs_nil))) (pss_one (ps_if (PW.pt (pw_and (pt_cmpR (Mo.op_neNil hr.units) (pe_lc (own := [("_law_name", 4)]) (g := gName 4) rfl scLIsFree.nd (pi_str (pv 1)) (blkOk_by (N := ["_law_pattern_here", "_law_letters", "_law_lefts", "_law_rights", "_law_name"]) (sc := defScope sLIsFree) (by decide +kernel)) (fun _ _ _ _ _ => pg_name (i := 4) scLIsFree.nd rfl (Or.inl rfl)) (fun _ _ _ _ _ => pts_one (pt_cmpR (Mo.op_in_seqK (K := K) rfl) (pv 4) (pv 2) rfl)) (fun _ _ _ _ _ => (pv 4))) (pe_lst pa_nil) (nomark _)) (pw_and1 (pt_cmpR (Mo.op_neNil hr.units) (pe_lc (own := [("_law_name", 4)]) (g := gName 4) rfl scLIsFree.nd (pi_str (pv 1)) (blkOk_by (N := ["_law_pattern_here", "_law_letters", "_law_lefts", "_law_rights", "_law_name"]) (sc := defScope sLIsFree) (by decide +kernel)) (fun _ _ _ _ _ => pg_name (i := 4) scLIsFree.nd rfl (Or.inl rfl)) (fun _ _ _ _ _ => pts_one (pt_cmpR (Mo.op_in_seqK (K := K) rfl) (pv 4) (pv 3) rfl)) (fun _ _ _ _ _ => (pv 4))) (pe_lst pa_nil) (nomark _))))) (pss_one (ps_ret pe_bl)) pss_nil)))
      (pss_one (ps_ret pe_bl))), ?_⟩
    refine ⟨_, rfl, cs, rfl, pat, fun H1 G gs s1 hG ok gr l16 => ⟨G, rfl, ⟨_, SqL.of hG⟩, for_it (walk_list (xs := gpV gs)) (fun i σ H' => ∃ (o2 o3 o4 : Option V), σ = [some (.str (tx cs)), some (.str (tx ls)), o2, o3, o4] ∧ Same H1 H' ∧ ∀ g ∈ gs.take i, (meetG ls g.q.1 && meetG ls g.q.2) = false) ?_ ?_ ?_ ?_⟩⟩
    · exact ⟨_, _, _, rfl, .refl _, fun g h => absurd h (by simp)⟩
    · rintro i σ H' _ ⟨_, _, _, _, s2, _⟩
      exact SqL.of (s2 _ _ hG)
    · rintro i x σ H2' H2 hi ⟨o2, o3, o4, rfl, s2, no⟩ ⟨rfl, hx⟩
      obtain ⟨g, hg, rfl⟩ := gpV_get hx
      have gm := List.mem_of_getElem? hg
      have k0 := (ok g gm).same s2
      have nxt : (meetG ls g.q.1 && meetG ls g.q.2) = false → ∀ g' ∈ gs.take (i + 1), (meetG ls g'.q.1 && meetG ls g'.q.2) = false := fun h g' hg' => by
        rw [List.take_add_one, hg] at hg'
        rcases List.mem_append.mp hg' with z | z
        · exact no g' z
        · have z : g' ∈ [g] := z
          rw [List.mem_singleton.mp z]
          exact h
      refine ⟨g.p, _, rfl, SqT.of k0.hp, rfl, _, _, rfl, _, _, rfl, rfl, ?_⟩
      refine ⟨_, rfl, tx ls, rfl, fun D nD => lc_it walk_str (fun i H' => Same H2 H' ∧ H' D = some (.lst (((ls.take i).filter fun c => decide (c ∈ g.q.1)).map sg))) ?_ ?_ ?_ ?_⟩
      · exact ⟨same_new nD, upd_same⟩
      · exact fun _ _ _ _ => trivial
      · rintro j x H3 H3' hj ⟨s3, hD⟩ ⟨rfl, c, hc, rfl⟩
        rw [tx_get] at hc
        have fl : ((ls.take j).filter fun c => decide (c ∈ g.q.1)).length ≤ 1000 := Nat.le_trans (List.length_filter_le _ _) (by rw [List.length_take]; omega)
        refine ⟨rfl, _, rfl, _, rfl, g.a, _, rfl, .inl (SqL.of (k0.same s3).ha), rfl, flatG_sgs _, _, rfl, ?_⟩
        rw [show inV (V.str ⟨#[c]⟩) (g.q.1.map sg) = decide (c ∈ g.q.1) from inG_sgs c _, filterG_one hc]
        by_cases e : c ∈ g.q.1
        · rw [decide_eq_true e]
          refine iteT ⟨_, rfl, _, hD, fitsLt (by rw [List.length_map]; omega), Same.put s3 nD, ?_⟩
          rw [upd_same, List.map_append]
          rfl
        · rw [decide_eq_false e]
          refine iteF ⟨s3, ?_⟩
          rw [hD]
          simp
      rintro H3 ⟨s3, hD⟩
      rw [tx_size, List.take_length] at hD
      refine ⟨by show 0 ≤ sizeLine; decide, fun E0 nE => ?_⟩
      have sE := same_new (o := .lst []) nE
      refine ⟨D, E0, _, rfl, rfl, SqL.of (sE _ _ hD), SqL.of upd_same, _, rfl, ?_⟩
      have s3E := s3.trans sE
      have k3 := k0.same s3E
      have t3 := s2.trans s3E
      clear hD sE
      generalize upd H3 E0 (.lst []) = H4 at *
      rw [meetG_nil]
      cases e1 : meetG ls g.q.1 with
      | false => exact iteF (iteF ⟨_, _, _, rfl, t3, nxt (by rw [e1]; rfl)⟩)
      | true =>
        refine iteT ⟨_, rfl, tx ls, rfl, fun D nD => lc_it walk_str (fun i H' => Same H4 H' ∧ H' D = some (.lst (((ls.take i).filter fun c => decide (c ∈ g.q.2)).map sg))) ?_ ?_ ?_ ?_⟩
        · exact ⟨same_new nD, upd_same⟩
        · exact fun _ _ _ _ => trivial
        · rintro j x H5 H5' hj ⟨s5, hD⟩ ⟨rfl, c, hc, rfl⟩
          rw [tx_get] at hc
          have fl : ((ls.take j).filter fun c => decide (c ∈ g.q.2)).length ≤ 1000 := Nat.le_trans (List.length_filter_le _ _) (by rw [List.length_take]; omega)
          refine ⟨rfl, _, rfl, _, rfl, g.b, _, rfl, .inl (SqL.of (k3.same s5).hb), rfl, flatG_sgs _, _, rfl, ?_⟩
          rw [show inV (V.str ⟨#[c]⟩) (g.q.2.map sg) = decide (c ∈ g.q.2) from inG_sgs c _, filterG_one hc]
          by_cases e : c ∈ g.q.2
          · rw [decide_eq_true e]
            refine iteT ⟨_, rfl, _, hD, fitsLt (by rw [List.length_map]; omega), Same.put s5 nD, ?_⟩
            rw [upd_same, List.map_append]
            rfl
          · rw [decide_eq_false e]
            refine iteF ⟨s5, ?_⟩
            rw [hD]
            simp
        rintro H5 ⟨s5, hD⟩
        rw [tx_size, List.take_length] at hD
        refine ⟨by show 0 ≤ sizeLine; decide, fun E1 nE1 => ?_⟩
        have sE := same_new (o := .lst []) nE1
        refine ⟨D, E1, _, rfl, rfl, SqL.of (sE _ _ hD), SqL.of upd_same, _, rfl, ?_⟩
        have t5 := t3.trans (s5.trans sE)
        rw [meetG_nil]
        cases e2 : meetG ls g.q.2 with
        | false => exact iteF ⟨_, _, _, rfl, t5, nxt (by rw [e1, e2]; rfl)⟩
        | true =>
          refine iteT (q _ false (s1.trans t5) ⟨fun z => Bool.noConfusion z, fun fr => ?_⟩)
          have := (gr.free hin).mpr fr g.q (List.mem_map.mpr ⟨g, gm, rfl⟩)
          rw [e1, e2] at this
          cases this
    · rintro σ H2 ⟨o2, o3, o4, rfl, s2, no⟩
      rw [gpV_len, List.take_length] at no
      exact q H2 true (s1.trans s2) ⟨fun _ => (gr.free hin).mp fun q hq => by
        obtain ⟨g, hg, rfl⟩ := List.mem_map.mp hq
        exact no g hg, fun _ => rfl⟩
def spWithG : Sp := fun vs H Q _ => ∃ cs ls : List Nat, vs = [.str (tx cs), .str (tx ls)] ∧ cs.length ≤ 1000 ∧ ∀ H', Same H H' → Q (.str (tx (wo cs ls))) H'
theorem ok_withG {k : Nat} (T : Txt K mg) : FnOk P w K mg base CX0 (k + 1) T.aLWithout T.dLWithout ["_law_pattern_here", "_law_letters"] spWithG := by
  refine T.fLWithout.ok scLWithout (fun vs H Q E h => ?_) (fun cdv A outer s H vs Q E hr h => ?_)
  · obtain ⟨_, _, rfl, _⟩ := h
    rfl
  · obtain ⟨cs, ls, rfl, hlen, q⟩ := h
    refine ⟨_, (pss_one (ps_ret (pe_join pe_str (pe_lc (own := [("_law_name", 2)]) (g := gName 2) rfl scLWithout.nd (pi_str (pv 0)) (blkOk_by (N := ["_law_pattern_here", "_law_letters", "_law_name"]) (sc := defScope sLWithout) (by decide +kernel)) (fun _ _ _ _ _ => pg_name (i := 2) scLWithout.nd rfl (Or.inl rfl)) (fun _ _ _ _ _ => pts_one (pt_cmpR op_notIn_sign (pv 2) (pv 1) rfl)) (fun _ _ _ _ _ => (pv 2)))))), ?_⟩
    refine ⟨⟨_, rfl⟩, _, rfl, tx cs, rfl, fun D nD => lc_it walk_str (fun i H' => Same H H' ∧ H' D = some (.lst (((cs.take i).filter fun c => !decide (c ∈ ls)).map sg))) ?_ ?_ ?_ ?_⟩
    · exact ⟨same_new nD, upd_same⟩
    · exact fun _ _ _ _ => trivial
    · rintro i x H3 H4 hi ⟨s3, hD⟩ ⟨rfl, c, hc, rfl⟩
      rw [tx_get] at hc
      have hfl : ((cs.take i).filter fun c => !decide (c ∈ ls)).length ≤ 1000 := Nat.le_trans (List.length_filter_le _ _) (by rw [List.length_take]; omega)
      refine ⟨rfl, _, rfl, _, rfl, c, _, rfl, rfl, _, rfl, ?_⟩
      rw [filterG_one hc]
      by_cases e : c ∈ ls
      · rw [tx_list, decide_eq_true e]
        refine iteF ⟨s3, ?_⟩
        rw [hD]
        simp
      · rw [tx_list, decide_eq_false e]
        refine iteT ⟨_, rfl, _, hD, fitsLt (by rw [List.length_map]; omega), Same.put s3 nD, ?_⟩
        rw [upd_same, List.map_append]
        rfl
    · rintro H3 ⟨s3, hD⟩
      rw [List.take_of_length_le (by rw [tx_size]; exact Nat.le_refl _)] at hD
      have hfl : (wo cs ls).length ≤ 1000 := Nat.le_trans (List.length_filter_le _ _) hlen
      refine ⟨_, D, (wo cs ls).map fun c => (⟨#[c]⟩ : Str), rfl, rfl, .inl (SqL.of (by rw [← sgs_map]; exact hD)), sgs_room (by omega), ?_⟩
      rw [join_signs]
      exact q H3 s3
/-- _law_is_chain of steps that lead to the empty pattern -/
def spLIsCh (K : PySem.W.Frag) : Sp := fun vs H Q _ => ∃ (cs : List Nat) (l : Addr) (st : List (List Nat)), vs = [.str (tx cs), .ref l] ∧ Pat cs ∧ H l = some (.lst (tzs st)) ∧ Steps cs st [] ∧ ∀ H', Same H H' → Q (.bl true) H'
end
end Mo

namespace Mo
open PySem PySem.Spec PyProof.Rows L2
/-- how often 2 divides n (0 for 0) -/
def tz (n : Nat) : Nat := if h : n = 0 then 0 else if n % 2 = 0 then tz (n / 2) + 1 else 0
termination_by n
decreasing_by omega
theorem tz_odd {n : Nat} (h : n % 2 = 1) : tz n = 0 := by
  rw [tz]
  have : n ≠ 0 := by omega
  rw [dif_neg this, if_neg (by omega)]
theorem tz_half {n : Nat} (h0 : 0 < n) (h : n % 2 = 0) : tz n = tz (n / 2) + 1 := by
  rw [tz]
  rw [dif_neg (by omega), if_pos h]
theorem tz_two {n : Nat} (h0 : 0 < n) : tz (2 * n) = tz n + 1 := by
  rw [tz_half (by omega) (by omega)]
  congr 2
  omega
theorem tz_pow : ∀ p : Nat, tz (2 ^ p) = p
  | 0 => tz_odd rfl
  | p + 1 => by
    rw [Nat.pow_succ, Nat.mul_comm, tz_two (Nat.pow_pos (by decide)), tz_pow p]
theorem tz_mirror : ∀ (p a : Nat), 0 < a → a < 2 ^ p → tz (2 ^ p - a) = tz a
  | 0, a, h0, h1 => by omega
  | p + 1, a, h0, h1 => by
    rw [Nat.pow_succ] at h1 ⊢
    rcases Nat.mod_two_eq_zero_or_one a with e | e
    · obtain ⟨b, rfl⟩ : ∃ b, a = 2 * b := ⟨a / 2, by omega⟩
      rw [show 2 ^ p * 2 - 2 * b = 2 * (2 ^ p - b) by omega, tz_two (by omega), tz_two (by omega), tz_mirror p b (by omega) (by omega)]
    · rw [tz_odd e, tz_odd (by omega)]
theorem tz_le (n : Nat) : tz n ≤ n := by
  induction n using Nat.strongRecOn with
  | ind n ih =>
    rcases Nat.eq_zero_or_pos n with e | e
    · subst e
      rw [tz]
      simp
    · rcases Nat.mod_two_eq_zero_or_one n with e2 | e2
      · have := ih (n / 2) (by omega)
        rw [tz_half e e2]
        omega
      · rw [tz_odd e2]
        omega
theorem log64 {n : Nat} (h : n < 2 ^ 64) : n.log2 < 1920 := by
  rcases Nat.eq_zero_or_pos n with e | e
  · subst e
    decide
  · have := (Nat.log2_lt (k := 64) (by omega)).mpr h
    omega
end Mo

namespace Mo
open PySem PySem.Spec PyProof.Rows L2
/-- the universal texts -/
def uni : Nat → List Int
  | 0 => []
  | n + 1 => uni n ++ [(n : Int)] ++ uni n
theorem uni_len : ∀ n : Nat, (uni n).length + 1 = 2 ^ n
  | 0 => rfl
  | n + 1 => by
    have ih := uni_len n
    rw [uni, Nat.pow_succ, List.length_append, List.length_append, List.length_singleton]
    omega
theorem uni_len12 {n : Nat} (h : n ≤ 12) : (uni n).length ≤ 4095 := by
  have h1 := uni_len n
  have h2 : 2 ^ n ≤ 2 ^ 12 := Nat.pow_le_pow_right (by decide) h
  omega
theorem uni_low : ∀ {n : Nat} {x : Int}, x ∈ uni n → 0 ≤ x ∧ x < n
  | 0, x, h => by cases h
  | n + 1, x, h => by
    rw [uni, List.mem_append, List.mem_append, List.mem_singleton] at h
    rcases h with (h | h) | h
    · have := uni_low h
      omega
    · omega
    · have := uni_low h
      omega
theorem tz_high : ∀ (n a : Nat), 0 < a → a < 2 ^ n → tz (2 ^ n + a) = tz a
  | 0, a, h0, h1 => by omega
  | n + 1, a, h0, h1 => by
    rw [Nat.pow_succ] at h1 ⊢
    rcases Nat.mod_two_eq_zero_or_one a with e | e
    · obtain ⟨b, rfl⟩ : ∃ b, a = 2 * b := ⟨a / 2, by omega⟩
      rw [show 2 ^ n * 2 + 2 * b = 2 * (2 ^ n + b) by omega, tz_two (by omega), tz_two (by omega), tz_high n b (by omega) (by omega)]
    · rw [tz_odd e, tz_odd (by omega)]
theorem uni_at : ∀ (n i : Nat), i + 1 < 2 ^ n → (uni n)[i]? = some ((tz (i + 1) : Nat) : Int)
  | 0, i, h => by omega
  | n + 1, i, h => by
    have hl := uni_len n
    rw [Nat.pow_succ] at h
    rw [uni, List.append_assoc]
    by_cases h1 : i + 1 < 2 ^ n
    · rw [List.getElem?_append_left (by omega), uni_at n i h1]
    · rw [List.getElem?_append_right (by omega)]
      by_cases h2 : i + 1 = 2 ^ n
      · rw [show i - (uni n).length = 0 by omega, h2, tz_pow]
        rfl
      · obtain ⟨j, hj⟩ : ∃ j, i = 2 ^ n + j := ⟨i - 2 ^ n, by omega⟩
        subst hj
        rw [show 2 ^ n + j - (uni n).length = j + 1 by omega, List.singleton_append, List.getElem?_cons_succ, uni_at n j (by omega), Nat.add_assoc, tz_high n (j + 1) (by omega) (by omega)]
end Mo

namespace Mo
open PySem PySem.Spec PyProof.Rows L2
section
variable {P : Program} {w : World} {K : PySem.W.Frag} {mg : Str → Option Value} {base : Heap}
/-- U(n) as a new tuple -/
def spUni : Sp := fun vs H Q _ => ∃ n : Nat, vs = [.int n] ∧ n ≤ 12 ∧ ∀ H' p, Same H H' → H' p = some (.tup ((uni n).map V.int)) → Q (.ref p) H'
theorem ok_luni {k : Nat} (T : Txt K mg) : FnOk P w K mg base CX0 (k + 1) T.aLUniversal T.dLUniversal ["_law_count"] spUni := by
  refine T.fLUniversal.ok scLUniversal (fun vs H Q E h => ?_) (fun cdv A outer s H vs Q E hr h => ?_)
  · obtain ⟨n, rfl, _⟩ := h
    rfl
  · obtain ⟨n, rfl, hn, q⟩ := h
    refine ⟨_, (pss_cons (ps_set (i := 1) scLUniversal.nd rfl (Or.inl rfl) (pe_tup pa_nil))
      (pss_cons (ps_for PassesOwn.never rfl (pi_range1 (by rfl) T.m_range (pa_cons (pv 0) pa_nil)) (pg_name (i := 2) scLUniversal.nd rfl (Or.inl rfl)) (pss_one (ps_set (i := 1) scLUniversal.nd rfl (Or.inl rfl) (pe_op op_catA (pe_op op_catA (pv 1) (pe_tup (pa_cons (pv 2) pa_nil))) (pv 1)))))
      (pss_one (ps_ret (pv 1))))), ?_⟩
    refine ⟨Nat.zero_le _, fun t nt => ?_⟩
    refine ⟨_, rfl, n, rfl, by omega, by omega, for_range (lo := 0) (fun i σ H' => ∃ (p : Addr) (o : Option V), σ = [some (.int (n : Nat)), some (.ref p), o] ∧ Same H H' ∧ H' p = some (.tup ((uni i).map V.int))) ?_ ?_ ?_⟩
    · exact ⟨t, _, rfl, same_new nt, upd_same⟩
    · rintro i σ H2 hi ⟨p, o, rfl, s2, hp⟩
      refine ⟨_, rfl, _, rfl, by show 1 ≤ sizeLine; decide, fun t2 nt2 => ?_⟩
      have hi2 : i < 12 := by
        have : i < (n : Int).toNat := hi
        omega
      have s3 := same_new (o := .tup [V.int (0 + (i : Int))]) nt2
      have hl := uni_len12 (n := i) (by omega)
      refine catA_any (s3 _ _ hp) upd_same (by rw [List.length_map]; exact fits5 (by show _ + 1 ≤ _; omega)) fun p1 H3 s4 h1 _ => ?_
      refine ⟨_, rfl, ?_⟩
      refine catA_any h1 (s4 _ _ (s3 _ _ hp)) (by rw [List.length_append, List.length_map]; exact fits5 (by show _ + 1 + _ ≤ _; omega)) fun p2 H4 s5 h2 _ => ?_
      refine ⟨p2, _, rfl, ((s2.trans s3).trans s4).trans s5, ?_⟩
      rw [h2, uni, List.map_append, List.map_append, show (0 : Int) + (i : Int) = (i : Int) by omega]
      rfl
    · rintro σ H2 ⟨p, o, rfl, s2, hp⟩
      exact ⟨_, rfl, q H2 p s2 hp⟩
end
end Mo

/-! ### a law's own search: patterns, and the steps that lead on from each -/
namespace Mo
open PySem PySem.Spec PyProof.Rows L2
theorem asc_of2 (ns : List Nat) : ∃ ms : List Nat, ms.Pairwise (· < ·) ∧ ∀ x, x ∈ ms ↔ x ∈ ns := by
  induction ns with
  | nil => exact ⟨[], .nil, fun _ => Iff.rfl⟩
  | cons a ns ih =>
    obtain ⟨ms, h1, h2⟩ := ih
    refine ⟨(ms.filter fun x => decide (x < a)) ++ [a] ++ ms.filter fun x => decide (a < x), ?_, fun x => ?_⟩
    · refine List.pairwise_append.mpr ⟨List.pairwise_append.mpr ⟨h1.filter _, by simp, fun x hx y hy => ?_⟩, h1.filter _, fun x hx y hy => ?_⟩
      · rw [List.mem_singleton.mp hy]
        exact of_decide_eq_true (List.mem_filter.mp hx).2
      · have hy2 := of_decide_eq_true (List.mem_filter.mp hy).2
        rcases List.mem_append.mp hx with z | z
        · exact Nat.lt_trans (of_decide_eq_true (List.mem_filter.mp z).2) hy2
        · rw [List.mem_singleton.mp z]
          exact hy2
    · rw [List.mem_append, List.mem_append, List.mem_filter, List.mem_filter, List.mem_singleton, List.mem_cons, ← h2]
      simp only [decide_eq_true_eq]
      constructor
      · rintro ((⟨z, _⟩ | z) | ⟨z, _⟩)
        · exact .inr z
        · exact .inl z
        · exact .inr z
      · rintro (z | z)
        · exact .inl (.inr z)
        · rcases Nat.lt_trichotomy x a with l | l | l
          · exact .inl (.inl ⟨z, l⟩)
          · exact .inl (.inr l)
          · exact .inr ⟨z, l⟩
theorem subs_few {c : List Nat} {qs : List (List Nat)} (p : Pat c) (nd : qs.Nodup) (h : ∀ q ∈ qs, ∃ x, q = wo c x) : qs.length ≤ 256 := by
  obtain ⟨ns, n1, n2⟩ := asc_of2 c
  have nlen : ns.length ≤ 8 := Nat.le_trans (nd_sub ns (met c) (asc_nodup n1) fun x hx => mem_met.mpr ((n2 x).mp hx)) p.few
  have back : ∀ q ∈ qs, q = c.filter fun x => decide (x ∈ q) := fun q hq => by
    obtain ⟨z, e⟩ := h q hq
    have e2 : ∀ x ∈ c, (x ∈ q ↔ x ∉ z) := fun x hx => by
      rw [e, mem_wo]
      exact ⟨fun y => y.2, fun y => ⟨hx, y⟩⟩
    refine e.trans ?_
    unfold wo
    refine List.filter_congr fun x hx => ?_
    rw [Bool.eq_iff_iff]
    simp only [Bool.not_eq_true', decide_eq_false_iff_not, decide_eq_true_eq]
    exact (e2 x hx).symm
  have key := nd_sub (qs.map fun q => ns.filter fun x => decide (x ∈ q)) (setF (fun _ => true) ns) ?_ ?_
  · rw [List.length_map] at key
    have l2 := setF_len (fun _ => true) _ ns rfl
    have l3 : 2 ^ ns.length ≤ 2 ^ 8 := Nat.pow_le_pow_right (by decide) nlen
    omega
  · refine List.pairwise_map.mpr (List.Pairwise.imp_of_mem (fun {a b} ha hb hab e => hab ?_) nd)
    rw [back a ha, back b hb]
    refine List.filter_congr fun x hx => ?_
    have hx2 := (n2 x).mpr hx
    have : x ∈ (ns.filter fun x => decide (x ∈ a)) ↔ x ∈ (ns.filter fun x => decide (x ∈ b)) := by rw [e]
    rw [List.mem_filter, List.mem_filter, decide_eq_true_eq, decide_eq_true_eq] at this
    exact decide_eq_decide.mpr ⟨fun z => (this.mp ⟨hx2, z⟩).2, fun z => (this.mpr ⟨hx2, z⟩).2⟩
  · intro l hl
    obtain ⟨q, _, rfl⟩ := List.mem_map.mp hl
    exact (setF_mem (keep := fun _ => true) (fun _ _ _ => rfl) rfl _ ns rfl _).mpr ⟨List.filter_sublist, rfl⟩
/-- all subsets, as the law lists them -/
abbrev subF (ns : List Nat) : List (List Nat) := setF (fun _ => true) ns
theorem subF_snoc (ns : List Nat) (c : Nat) : subF (ns ++ [c]) = subF ns ++ (subF ns).map (· ++ [c]) := by
  show setF (fun _ => true) (ns ++ [c]) = _
  rw [setF_snoc]
  congr 1
  exact List.filter_eq_self.mpr fun _ _ => rfl
theorem subF_rest {ns : List Nat} (h : ns.Pairwise (· < ·)) : ∀ l ∈ (subF ns).drop 1, l ≠ [] ∧ l.Pairwise (· < ·) ∧ ∀ x ∈ l, x ∈ ns := by
  obtain ⟨R, e⟩ := setF_head (fun _ => true) _ ns rfl
  have nd := setF_nodup (keep := fun _ => true) _ ns rfl (asc_nodup h)
  have e : subF ns = [] :: R := e
  rw [show setF (fun _ => true) ns = [] :: R from e] at nd
  intro l hl
  rw [e] at hl
  have hl : l ∈ R := hl
  have sb := setF_sub (keep := fun _ => true) _ ns rfl l (by rw [show setF (fun _ => true) ns = [] :: R from e]; exact List.mem_cons_of_mem _ hl)
  exact ⟨fun z => (List.nodup_cons.mp nd).1 (z ▸ hl), h.sublist sb, fun x hx => sb.subset hx⟩
/-- a pattern of the search: its list, and what it holds: (tuple, letters, later) -/
structure Sc where
  p : List Nat
  L : Addr
  es : List (Addr × List Nat × List Nat)
structure SOk (H : Hp) (s : Sc) : Prop where
  hl : H s.L = some (.lst (s.es.map fun e => V.ref e.1))
  ht : ∀ e ∈ s.es, H e.1 = some (.tup [.str (tx e.2.1), .str (tx e.2.2)])
theorem SOk.same {H H' : Hp} {s : Sc} (h : SOk H s) (b : Same H H') : SOk H' s := ⟨b _ _ h.hl, fun e he => b _ _ (h.ht e he)⟩
theorem SOk.upd {H : Hp} {s : Sc} {a : Addr} {o : HO} (h : SOk H s) (ne : a ≠ s.L) (no : ∀ xs, H a ≠ some (.tup xs)) : SOk (upd H a o) s :=
  ⟨by rw [upd_ne (Ne.symm ne)]; exact h.hl, fun e he => by rw [upd_ne (fun z => no _ (z ▸ h.ht e he))]; exact h.ht e he⟩
theorem SOk.but {H H' : Hp} {s : Sc} {d : Addr} {kvs : List (Key × V)} (h : SOk H s) (hd : H d = some (.dK kvs)) (b : But d H H') : SOk H' s :=
  ⟨b _ _ (fun z => by have := h.hl; rw [z, hd] at this; cases this) h.hl, fun e he => b _ _ (fun z => by have := h.ht e he; rw [z, hd] at this; cases this) (h.ht e he)⟩
def zsD (zs : List Sc) : List (List Nat × V) := zs.map fun s => (s.p, V.ref s.L)
theorem zsD_keys (zs : List Sc) : (zsD zs).map (·.1) = zs.map (·.p) := by
  unfold zsD
  rw [List.map_map]
  rfl
theorem zsD_get {zs : List Sc} (nd : (zs.map (·.p)).Nodup) {s : Sc} (hs : s ∈ zs) : valV (dk (zsD zs)) (Sum.inr (tx s.p)) = some (.ref s.L) := by
  obtain ⟨k, hk⟩ := List.getElem?_of_mem hs
  exact dk_some (D := zsD zs) (p := s.p) (v := .ref s.L) (k := k) (by rw [zsD_keys]; exact nd) (by unfold zsD; rw [List.getElem?_map, hk]; rfl)
/-- the entries of a pattern: steps of it -/
def EOk (p : List Nat) (e : Addr × List Nat × List Nat) : Prop := e.2.1 ≠ [] ∧ e.2.1.Pairwise (· < ·) ∧ (∀ x ∈ e.2.1, x ∈ p) ∧ Free (nbr p) e.2.1 ∧ e.2.2 = wo p e.2.1
def addE (here : List Nat) (e : Addr × List Nat × List Nat) (zs : List Sc) : List Sc := zs.map fun s => if s.p = here then ⟨s.p, s.L, s.es ++ [e]⟩ else s
theorem addE_p (here : List Nat) (e : Addr × List Nat × List Nat) (zs : List Sc) : (addE here e zs).map (·.p) = zs.map (·.p) := by
  unfold addE
  rw [List.map_map]
  refine List.map_congr_left fun s _ => ?_
  show (if s.p = here then (⟨s.p, s.L, s.es ++ [e]⟩ : Sc) else s).p = s.p
  by_cases h : s.p = here
  · rw [if_pos h]
  · rw [if_neg h]
theorem addE_L (here : List Nat) (e : Addr × List Nat × List Nat) (zs : List Sc) : (addE here e zs).map (·.L) = zs.map (·.L) := by
  unfold addE
  rw [List.map_map]
  refine List.map_congr_left fun s _ => ?_
  show (if s.p = here then (⟨s.p, s.L, s.es ++ [e]⟩ : Sc) else s).L = s.L
  by_cases h : s.p = here
  · rw [if_pos h]
  · rw [if_neg h]
theorem addE_D (here : List Nat) (e : Addr × List Nat × List Nat) (zs : List Sc) : zsD (addE here e zs) = zsD zs := by
  unfold addE zsD
  rw [List.map_map]
  refine List.map_congr_left fun s _ => ?_
  show ((if s.p = here then (⟨s.p, s.L, s.es ++ [e]⟩ : Sc) else s).p, V.ref (if s.p = here then (⟨s.p, s.L, s.es ++ [e]⟩ : Sc) else s).L) = _
  by_cases h : s.p = here
  · rw [if_pos h]
  · rw [if_neg h]
theorem addE_mem {here : List Nat} {e : Addr × List Nat × List Nat} {zs : List Sc} {s : Sc} (h : s ∈ addE here e zs) : ∃ s0 ∈ zs, (s0.p = here ∧ s = ⟨s0.p, s0.L, s0.es ++ [e]⟩) ∨ (s0.p ≠ here ∧ s = s0) := by
  unfold addE at h
  obtain ⟨s0, h0, h1⟩ := List.mem_map.mp h
  refine ⟨s0, h0, ?_⟩
  by_cases z : s0.p = here
  · rw [if_pos z] at h1
    exact .inl ⟨z, h1.symm⟩
  · rw [if_neg z] at h1
    exact .inr ⟨z, h1.symm⟩
theorem inj_of_nodup {α β : Type} {f : α → β} : ∀ {l : List α}, (l.map f).Nodup → ∀ {x y : α}, x ∈ l → y ∈ l → f x = f y → x = y
  | a :: l, nd, x, y, hx, hy, e => by
    rw [List.map_cons, List.nodup_cons] at nd
    rcases List.mem_cons.mp hx with h1 | h1
    · rcases List.mem_cons.mp hy with h2 | h2
      · rw [h1, h2]
      · exact absurd (show f a ∈ l.map f from List.mem_map.mpr ⟨y, h2, by rw [← e, h1]⟩) nd.1
    · rcases List.mem_cons.mp hy with h2 | h2
      · exact absurd (show f a ∈ l.map f from List.mem_map.mpr ⟨x, h1, by rw [e, h2]⟩) nd.1
      · exact inj_of_nodup nd.2 h1 h2 e
/-- how far the search has come -/
structure RSt (H H' : Hp) (cs : List Nat) (W Qq : Addr) (zs : List Sc) (qs : List (List Nat)) (b : Nat) : Prop where
  s : Same H H'
  hW : H' W = some (.dK (dk (zsD zs)))
  hQ : H' Qq = some (.lst (tzs qs))
  nW : H W = none
  nQ : H Qq = none
  ok : ∀ z ∈ zs, SOk H' z
  neQ : ∀ z ∈ zs, z.L ≠ Qq
  nL : ∀ z ∈ zs, H z.L = none
  ndL : (zs.map (·.L)).Nodup
  ndP : (zs.map (·.p)).Nodup
  sub : ∀ z ∈ zs, ∃ x, z.p = wo cs x
  val : ∀ z ∈ zs, ∀ e ∈ z.es, EOk z.p e
  len : ∀ z ∈ zs, z.es.length ≤ b
  qk : ∀ p ∈ qs, p ∈ zs.map (·.p)
theorem RSt.few {H H' : Hp} {cs : List Nat} {W Qq : Addr} {zs : List Sc} {qs : List (List Nat)} {b : Nat} (h : RSt H H' cs W Qq zs qs b) (p : Pat cs) : zs.length ≤ 256 := by
  have := subs_few (qs := zs.map (·.p)) p h.ndP fun q hq => by
    obtain ⟨z, hz, rfl⟩ := List.mem_map.mp hq
    exact h.sub z hz
  rwa [List.length_map] at this
theorem RSt.same {H H' H'' : Hp} {cs : List Nat} {W Qq : Addr} {zs : List Sc} {qs : List (List Nat)} {b : Nat} (h : RSt H H' cs W Qq zs qs b) (s : Same H' H'') : RSt H H'' cs W Qq zs qs b :=
  ⟨h.s.trans s, s _ _ h.hW, s _ _ h.hQ, h.nW, h.nQ, fun z hz => (h.ok z hz).same s, h.neQ, h.nL, h.ndL, h.ndP, h.sub, h.val, h.len, h.qk⟩
theorem RSt.up {H H' : Hp} {cs : List Nat} {W Qq : Addr} {zs : List Sc} {qs : List (List Nat)} {b c : Nat} (h : RSt H H' cs W Qq zs qs b) (l : b ≤ c) : RSt H H' cs W Qq zs qs c :=
  ⟨h.s, h.hW, h.hQ, h.nW, h.nQ, h.ok, h.neQ, h.nL, h.ndL, h.ndP, h.sub, h.val, fun z hz => Nat.le_trans (h.len z hz) l, h.qk⟩
theorem RSt.at {H H' : Hp} {cs : List Nat} {W Qq : Addr} {zs : List Sc} {qs : List (List Nat)} {b : Nat} (h : RSt H H' cs W Qq zs qs b) {p : List Nat} (hp : p ∈ zs.map (·.p)) : ∃ z ∈ zs, z.p = p ∧ valV (dk (zsD zs)) (Sum.inr (tx p)) = some (.ref z.L) := by
  obtain ⟨z, hz, rfl⟩ := List.mem_map.mp hp
  exact ⟨z, hz, rfl, zsD_get h.ndP hz⟩
/-- the queue set otherwise -/
theorem RSt.setQ {H H' : Hp} {cs : List Nat} {W Qq : Addr} {zs : List Sc} {qs ps : List (List Nat)} {b : Nat} (h : RSt H H' cs W Qq zs qs b) (hp : ∀ p ∈ ps, p ∈ zs.map (·.p)) : RSt H (upd H' Qq (.lst (tzs ps))) cs W Qq zs ps b :=
  ⟨Same.put h.s h.nQ, by rw [upd_ne (fun e => by have := h.hW; rw [e, h.hQ] at this; cases this)]; exact h.hW, upd_same, h.nW, h.nQ, fun z hz => (h.ok z hz).upd (fun e => h.neQ z hz e.symm) (fun xs e => by rw [h.hQ] at e; cases e), h.neQ, h.nL, h.ndL, h.ndP, h.sub, h.val, h.len, hp⟩
/-- one entry more -/
theorem RSt.add {H H' : Hp} {cs : List Nat} {W Qq : Addr} {zs : List Sc} {qs : List (List Nat)} {b : Nat} (h : RSt H H' cs W Qq zs qs b) {z : Sc} (hz : z ∈ zs) {e : Addr × List Nat × List Nat} (he : H' e.1 = some (.tup [.str (tx e.2.1), .str (tx e.2.2)])) (ok : EOk z.p e) :
    RSt H (upd H' z.L (.lst (z.es.map (fun e => V.ref e.1) ++ [V.ref e.1]))) cs W Qq (addE z.p e zs) qs (b + 1) := by
  have hl := (h.ok z hz).hl
  have one : ∀ s0 ∈ zs, s0.p = z.p → s0 = z := fun s0 h0 e0 => inj_of_nodup h.ndP h0 hz e0
  have oneL : ∀ s0 ∈ zs, s0.p ≠ z.p → z.L ≠ s0.L := fun s0 h0 ne e0 => ne (by rw [inj_of_nodup h.ndL hz h0 e0])
  have tup : ∀ xs, H' z.L ≠ some (.tup xs) := fun xs e => by rw [hl] at e; cases e
  refine ⟨Same.put h.s (h.nL z hz), ?_, ?_, h.nW, h.nQ, fun s hs => ?_, fun s hs => ?_, fun s hs => ?_, by rw [addE_L]; exact h.ndL, by rw [addE_p]; exact h.ndP, fun s hs => ?_, fun s hs => ?_, fun s hs => ?_, by rw [addE_p]; exact h.qk⟩
  · rw [upd_ne (fun e => by have := h.hW; rw [e, hl] at this; cases this), addE_D]
    exact h.hW
  · rw [upd_ne (h.neQ z hz).symm]
    exact h.hQ
  · obtain ⟨s0, h0, ⟨e0, rfl⟩ | ⟨e0, rfl⟩⟩ := addE_mem hs
    · obtain rfl := one s0 h0 e0
      refine ⟨?_, fun x hx => ?_⟩
      · rw [upd_same, List.map_append]
        rfl
      · have hx2 : H' x.1 = some (.tup [.str (tx x.2.1), .str (tx x.2.2)]) := by
          rcases List.mem_append.mp hx with y | y
          · exact (h.ok s0 h0).ht x y
          · rw [List.mem_singleton.mp y]
            exact he
        rw [upd_ne (fun z => tup _ (z ▸ hx2))]
        exact hx2
    · exact (h.ok s h0).upd (oneL s h0 e0) tup
  · obtain ⟨s0, h0, ⟨e0, rfl⟩ | ⟨e0, rfl⟩⟩ := addE_mem hs
    · exact h.neQ s0 h0
    · exact h.neQ s h0
  · obtain ⟨s0, h0, ⟨e0, rfl⟩ | ⟨e0, rfl⟩⟩ := addE_mem hs
    · exact h.nL s0 h0
    · exact h.nL s h0
  · obtain ⟨s0, h0, ⟨e0, rfl⟩ | ⟨e0, rfl⟩⟩ := addE_mem hs
    · exact h.sub s0 h0
    · exact h.sub s h0
  · obtain ⟨s0, h0, ⟨e0, rfl⟩ | ⟨e0, rfl⟩⟩ := addE_mem hs
    · intro x hx
      rcases List.mem_append.mp hx with y | y
      · exact h.val s0 h0 x y
      · rw [List.mem_singleton.mp y]
        show EOk s0.p e
        rw [e0]
        exact ok
    · exact h.val s h0
  · obtain ⟨s0, h0, ⟨e0, rfl⟩ | ⟨e0, rfl⟩⟩ := addE_mem hs
    · show (s0.es ++ [e]).length ≤ b + 1
      rw [List.length_append, List.length_singleton]
      have := h.len s0 h0
      omega
    · exact Nat.le_succ_of_le (h.len s h0)
/-- a new pattern -/
theorem RSt.new {H H' : Hp} {cs : List Nat} {W Qq L : Addr} {zs : List Sc} {qs : List (List Nat)} {b : Nat} (h : RSt H H' cs W Qq zs qs b) {p : List Nat} (hp : p ∉ zs.map (·.p)) (hx : ∃ x, p = wo cs x) (nL : H' L = none) :
    RSt H (upd (upd H' L (.lst [])) W (.dK (putK (dk (zsD zs)) (Sum.inr (tx p)) (.ref L)))) cs W Qq (zs ++ [⟨p, L, []⟩]) qs b := by
  have s1 := same_new (o := .lst []) nL
  have h1 := h.same s1
  have hL := upd_same (H := H') (a := L) (o := .lst [])
  have nLH := h.s.free nL
  have LW : L ≠ W := (ne_of_none h.hW nL).symm
  have LQ : L ≠ Qq := (ne_of_none h.hQ nL).symm
  generalize upd H' L (.lst []) = H1 at *
  have tup : ∀ xs, H1 W ≠ some (.tup xs) := fun xs e => by rw [h1.hW] at e; cases e
  have LW2 : ∀ z ∈ zs, W ≠ z.L := fun z hz e => by
    have := (h1.ok z hz).hl
    rw [← e, h1.hW] at this
    cases this
  have newL : ∀ z ∈ zs, L ≠ z.L := fun z hz e => by
    have := (h.ok z hz).hl
    rw [← e, nL] at this
    cases this
  refine ⟨Same.put h1.s h.nW, ?_, ?_, h.nW, h.nQ, fun s hs => ?_, fun s hs => ?_, fun s hs => ?_, ?_, ?_, fun s hs => ?_, fun s hs => ?_, fun s hs => ?_, fun q hq => ?_⟩
  · rw [upd_same, dk_put (by rw [zsD_keys]; exact hp)]
    unfold zsD
    rw [List.map_append]
    rfl
  · rw [upd_ne (fun e => by have := h1.hQ; rw [e, h1.hW] at this; cases this)]
    exact h1.hQ
  · rcases List.mem_append.mp hs with y | y
    · exact (h1.ok s y).upd (LW2 s y) tup
    · rw [List.mem_singleton.mp y]
      exact ⟨by rw [upd_ne LW]; exact hL, fun e he => absurd he (by simp)⟩
  · rcases List.mem_append.mp hs with y | y
    · exact h.neQ s y
    · rw [List.mem_singleton.mp y]
      exact LQ
  · rcases List.mem_append.mp hs with y | y
    · exact h.nL s y
    · rw [List.mem_singleton.mp y]
      exact nLH
  · rw [List.map_append]
    refine List.nodup_append.mpr ⟨h.ndL, by simp, fun x hx y hy e => ?_⟩
    obtain ⟨z, hz, rfl⟩ := List.mem_map.mp hx
    have hy : y = L := by simpa using hy
    exact newL z hz (by rw [e, hy])
  · rw [List.map_append]
    refine List.nodup_append.mpr ⟨h.ndP, by simp, fun x hx y hy e => ?_⟩
    have hy : y = p := by simpa using hy
    exact hp (by rw [← hy, ← e]; exact hx)
  · rcases List.mem_append.mp hs with y | y
    · exact h.sub s y
    · rw [List.mem_singleton.mp y]
      exact hx
  · rcases List.mem_append.mp hs with y | y
    · exact h.val s y
    · rw [List.mem_singleton.mp y]
      exact fun e he => absurd he (by simp)
  · rcases List.mem_append.mp hs with y | y
    · exact h.len s y
    · rw [List.mem_singleton.mp y]
      exact Nat.zero_le _
  · rw [List.map_append]
    exact List.mem_append_left _ (h.qk q hq)
/-- numbers of patterns, as a dict -/
def fD (F : List (List Nat × Int)) : List (List Nat × V) := F.map fun x => (x.1, V.int x.2)
theorem fD_keys (F : List (List Nat × Int)) : (fD F).map (·.1) = F.map (·.1) := by
  unfold fD
  rw [List.map_map]
  rfl
theorem fD_get (F : List (List Nat × Int)) (p : List Nat) : (valV (dk (fD F)) (Sum.inr (tx p)) = none ∧ p ∉ F.map (·.1)) ∨ ∃ n, valV (dk (fD F)) (Sum.inr (tx p)) = some (.int n) ∧ p ∈ F.map (·.1) := by
  induction F with
  | nil => exact .inl ⟨rfl, by simp⟩
  | cons a F ih =>
    have e : dk (fD (a :: F)) = (Sum.inr (tx a.1), V.int a.2) :: dk (fD F) := rfl
    rw [e]
    by_cases h : a.1 = p
    · exact .inr ⟨a.2, valV_pos (by rw [h]), by rw [← h]; simp⟩
    · rw [valV_neg (fun z => h (tx_inj (Sum.inr.inj z)))]
      rcases ih with ⟨h1, h2⟩ | ⟨n, h1, h2⟩
      · exact .inl ⟨h1, fun z => by
          rcases List.mem_cons.mp z with z | z
          · exact h z.symm
          · exact h2 z⟩
      · exact .inr ⟨n, h1, List.mem_cons_of_mem _ h2⟩
theorem fD_put (F : List (List Nat × Int)) (p : List Nat) (m : Int) : ∃ F', putK (dk (fD F)) (Sum.inr (tx p)) (.int m) = dk (fD F') ∧ F'.map (·.1) = (if p ∈ F.map (·.1) then F.map (·.1) else F.map (·.1) ++ [p]) := by
  by_cases h : p ∈ F.map (·.1)
  · rw [if_pos h]
    have ha : ((dk (fD F)).any fun kv => decide (kv.1 = Sum.inr (tx p))) = true := by
      obtain ⟨x, hx, e⟩ := List.mem_map.mp h
      refine List.any_eq_true.mpr ⟨(Sum.inr (tx x.1), V.int x.2), ?_, decide_eq_true (by show (Sum.inr (tx x.1) : Key) = _; rw [e])⟩
      unfold dk fD
      rw [List.map_map]
      exact List.mem_map.mpr ⟨x, hx, rfl⟩
    refine ⟨F.map fun x => if x.1 = p then (x.1, m) else x, ?_, ?_⟩
    · unfold putK
      rw [if_pos ha]
      unfold dk fD
      rw [List.map_map, List.map_map, List.map_map, List.map_map]
      refine List.map_congr_left fun x _ => ?_
      by_cases z : x.1 = p
      · show (if (Sum.inr (tx x.1) : Key) = Sum.inr (tx p) then ((Sum.inr (tx x.1) : Key), V.int m) else ((Sum.inr (tx x.1) : Key), V.int x.2)) = (Sum.inr (tx (if x.1 = p then (x.1, m) else x).1), V.int (if x.1 = p then (x.1, m) else x).2)
        rw [if_pos (by rw [z]), if_pos z]
      · show (if (Sum.inr (tx x.1) : Key) = Sum.inr (tx p) then ((Sum.inr (tx x.1) : Key), V.int m) else ((Sum.inr (tx x.1) : Key), V.int x.2)) = (Sum.inr (tx (if x.1 = p then (x.1, m) else x).1), V.int (if x.1 = p then (x.1, m) else x).2)
        rw [if_neg (fun y => z (tx_inj (Sum.inr.inj y))), if_neg z]
    · rw [List.map_map]
      refine List.map_congr_left fun x _ => ?_
      show (if x.1 = p then (x.1, m) else x).1 = x.1
      by_cases z : x.1 = p
      · rw [if_pos z]
      · rw [if_neg z]
  · rw [if_neg h]
    refine ⟨F ++ [(p, m)], ?_, by rw [List.map_append]; rfl⟩
    rw [dk_put (by rw [fD_keys]; exact h)]
    unfold fD
    rw [List.map_append]
    rfl
end Mo

/-! ### the law's search: all is found; its distances: the fewest steps -/
namespace Mo
open PySem PySem.Spec PyProof.Rows L2
theorem subF_all {ns ls : List Nat} (h : ns.Pairwise (· < ·)) (hl : ls.Pairwise (· < ·)) (ne : ls ≠ []) (hs : ∀ x ∈ ls, x ∈ ns) : ls ∈ (subF ns).drop 1 := by
  obtain ⟨R, e⟩ := setF_head (fun _ => true) _ ns rfl
  have m := (setF_mem (keep := fun _ => true) (fun _ _ _ => rfl) rfl _ ns rfl ls).mpr ⟨asc_sub hl h hs, rfl⟩
  have e : subF ns = [] :: R := e
  rw [show setF (fun _ => true) ns = [] :: R from e] at m
  rw [e]
  rcases List.mem_cons.mp m with z | z
  · exact absurd z ne
  · exact z
/-- all the steps of a pattern are noted -/
def Fll (z : Sc) : Prop := ∀ ls, ls ≠ [] → ls.Pairwise (· < ·) → (∀ x ∈ ls, x ∈ z.p) → Free (nbr z.p) ls → ∃ e ∈ z.es, e.2.2 = wo z.p ls
structure Cov (zs : List Sc) (qs : List (List Nat)) : Prop where
  cl : ∀ z ∈ zs, ∀ e ∈ z.es, e.2.2 ∈ zs.map (·.p)
  fl : ∀ z ∈ zs, z.p ∈ qs ∨ Fll z
structure CovI (zs : List Sc) (qs : List (List Nat)) (here : List Nat) (us : List (List Nat)) : Prop where
  cl : ∀ z ∈ zs, ∀ e ∈ z.es, e.2.2 ∈ zs.map (·.p)
  fl : ∀ z ∈ zs, z.p ∈ qs ∨ Fll z ∨ z.p = here
  pr : ∀ z ∈ zs, z.p = here → ∀ u ∈ us, Free (nbr here) u → ∃ e ∈ z.es, e.2.2 = wo here u
theorem Cov.start {zs : List Sc} {ps : List (List Nat)} {here : List Nat} (h : Cov zs (ps ++ [here])) : CovI zs ps here [] := by
  refine ⟨h.cl, fun z hz => ?_, fun _ _ _ u hu => absurd hu (by simp)⟩
  rcases h.fl z hz with y | y
  · rcases List.mem_append.mp y with y | y
    · exact .inl y
    · exact .inr (.inr (List.mem_singleton.mp y))
  · exact .inr (.inl y)
theorem CovI.pass {zs : List Sc} {qs : List (List Nat)} {here u : List Nat} {us : List (List Nat)} (h : CovI zs qs here us) (hu : ¬ Free (nbr here) u) : CovI zs qs here (us ++ [u]) := by
  refine ⟨h.cl, h.fl, fun z hz e v hv fr => ?_⟩
  rcases List.mem_append.mp hv with y | y
  · exact h.pr z hz e v y fr
  · rw [List.mem_singleton.mp y] at fr
    exact absurd fr hu
theorem Fll.more {z : Sc} {e : Addr × List Nat × List Nat} (h : Fll z) : Fll ⟨z.p, z.L, z.es ++ [e]⟩ := fun ls h1 h2 h3 h4 => by
  obtain ⟨x, hx, ex⟩ := h ls h1 h2 h3 h4
  exact ⟨x, List.mem_append_left _ hx, ex⟩
/-- an entry more; where it leads is known already -/
theorem CovI.add {zs : List Sc} {qs : List (List Nat)} {here u : List Nat} {us : List (List Nat)} {a : Addr} (h : CovI zs qs here us) (hk : wo here u ∈ zs.map (·.p)) : CovI (addE here (a, u, wo here u) zs) qs here (us ++ [u]) := by
  refine ⟨fun z hz e he => ?_, fun z hz => ?_, fun z hz ez v hv fr => ?_⟩
  · rw [addE_p]
    obtain ⟨s0, h0, ⟨e0, rfl⟩ | ⟨e0, rfl⟩⟩ := addE_mem hz
    · rcases List.mem_append.mp he with y | y
      · exact h.cl s0 h0 e y
      · rw [List.mem_singleton.mp y]
        exact hk
    · exact h.cl z h0 e he
  · obtain ⟨s0, h0, ⟨e0, rfl⟩ | ⟨e0, rfl⟩⟩ := addE_mem hz
    · exact .inr (.inr e0)
    · exact h.fl z h0
  · obtain ⟨s0, h0, ⟨e0, rfl⟩ | ⟨e0, rfl⟩⟩ := addE_mem hz
    · rcases List.mem_append.mp hv with y | y
      · obtain ⟨x, hx, ex⟩ := h.pr s0 h0 e0 v y fr
        exact ⟨x, List.mem_append_left _ hx, ex⟩
      · rw [List.mem_singleton.mp y]
        exact ⟨_, List.mem_append_right _ (List.mem_singleton.mpr rfl), rfl⟩
    · exact absurd ez e0
/-- and it is new -/
theorem CovI.new {zs : List Sc} {qs : List (List Nat)} {here u : List Nat} {us : List (List Nat)} {a L : Addr} (h : CovI zs qs here us) (hin : here ∈ zs.map (·.p)) (hk : wo here u ∉ zs.map (·.p)) : CovI (addE here (a, u, wo here u) zs ++ [⟨wo here u, L, []⟩]) (qs ++ [wo here u]) here (us ++ [u]) := by
  have ne : wo here u ≠ here := fun e => hk (by rw [e]; exact hin)
  refine ⟨fun z hz e he => ?_, fun z hz => ?_, fun z hz ez v hv fr => ?_⟩
  · rw [List.map_append, addE_p]
    rcases List.mem_append.mp hz with hz | hz
    · obtain ⟨s0, h0, ⟨e0, rfl⟩ | ⟨e0, rfl⟩⟩ := addE_mem hz
      · rcases List.mem_append.mp he with y | y
        · exact List.mem_append_left _ (h.cl s0 h0 e y)
        · rw [List.mem_singleton.mp y]
          exact List.mem_append_right _ (List.mem_singleton.mpr rfl)
      · exact List.mem_append_left _ (h.cl z h0 e he)
    · rw [List.mem_singleton.mp hz] at he
      exact absurd he (by simp)
  · rcases List.mem_append.mp hz with hz | hz
    · obtain ⟨s0, h0, ⟨e0, rfl⟩ | ⟨e0, rfl⟩⟩ := addE_mem hz
      · exact .inr (.inr e0)
      · rcases h.fl z h0 with y | y
        · exact .inl (List.mem_append_left _ y)
        · exact .inr y
    · rw [List.mem_singleton.mp hz]
      exact .inl (List.mem_append_right _ (List.mem_singleton.mpr rfl))
  · rcases List.mem_append.mp hz with hz | hz
    · obtain ⟨s0, h0, ⟨e0, rfl⟩ | ⟨e0, rfl⟩⟩ := addE_mem hz
      · rcases List.mem_append.mp hv with y | y
        · obtain ⟨x, hx, ex⟩ := h.pr s0 h0 e0 v y fr
          exact ⟨x, List.mem_append_left _ hx, ex⟩
        · rw [List.mem_singleton.mp y]
          exact ⟨_, List.mem_append_right _ (List.mem_singleton.mpr rfl), rfl⟩
      · exact absurd ez e0
    · rw [List.mem_singleton.mp hz] at ez
      exact absurd ez ne
theorem CovI.done {zs : List Sc} {qs : List (List Nat)} {here nl : List Nat} (h : CovI zs qs here ((subF nl).drop 1)) (asc : nl.Pairwise (· < ·)) (mem : ∀ x, x ∈ nl ↔ x ∈ here) : Cov zs qs := by
  refine ⟨h.cl, fun z hz => ?_⟩
  rcases h.fl z hz with y | y | y
  · exact .inl y
  · exact .inr y
  · refine .inr fun ls h1 h2 h3 h4 => ?_
    rw [y] at h3 h4 ⊢
    exact h.pr z hz y ls (subF_all asc h2 h1 fun x hx => (mem x).mpr (h3 x hx)) h4
/-- the search is closed -/
structure Clz (zs : List Sc) : Prop where
  cl : ∀ z ∈ zs, ∀ e ∈ z.es, e.2.2 ∈ zs.map (·.p)
  fl : ∀ z ∈ zs, Fll z
theorem Cov.end {zs : List Sc} (h : Cov zs []) : Clz zs := ⟨h.cl, fun z hz => (h.fl z hz).resolve_left (by simp)⟩
/-! distances -/
/-- a number is noted: of some chain -/
def FOk (F : List (List Nat × Int)) : Prop := ∀ x ∈ F, ∃ w, Steps x.1 w [] ∧ x.2 = ((w.length : Nat) : Int)
/-- and it is at most that of a chain of z of up to n steps -/
def FLow (F : List (List Nat × Int)) (n : Nat) (p : List Nat) : Prop := ∀ w, Steps p w [] → w.length ≤ n → ∃ v, (p, v) ∈ F ∧ v ≤ ((w.length : Nat) : Int)
/-- putting a lower one -/
structure FLe (F F' : List (List Nat × Int)) : Prop where
  le : ∀ p v, (p, v) ∈ F → ∃ v', (p, v') ∈ F' ∧ v' ≤ v
theorem FLe.refl (F : List (List Nat × Int)) : FLe F F := ⟨fun p v h => ⟨v, h, Int.le_refl _⟩⟩
theorem FLe.trans {F G J : List (List Nat × Int)} (h : FLe F G) (k : FLe G J) : FLe F J := ⟨fun p v hv => by
  obtain ⟨v1, h1, h2⟩ := h.le p v hv
  obtain ⟨v2, h3, h4⟩ := k.le p v1 h1
  exact ⟨v2, h3, by omega⟩⟩
theorem FLow.le {F F' : List (List Nat × Int)} {n : Nat} {p : List Nat} (h : FLow F n p) (k : FLe F F') : FLow F' n p := fun w hw hn => by
  obtain ⟨v, h1, h2⟩ := h w hw hn
  obtain ⟨v', h3, h4⟩ := k.le p v h1
  exact ⟨v', h3, by omega⟩
theorem FLow.down {F : List (List Nat × Int)} {n m : Nat} {p : List Nat} (h : FLow F n p) (l : m ≤ n) : FLow F m p := fun w hw hn => h w hw (Nat.le_trans hn l)
/-- a pattern that has only nothing to do -/
theorem FLow.nil {F : List (List Nat × Int)} {n : Nat} (ok : FOk F) (h : ∃ v, (([] : List Nat), v) ∈ F) : FLow F n [] := fun w hw _ => by
  obtain ⟨v, hv⟩ := h
  obtain ⟨w', h1, h2⟩ := ok _ hv
  have h3 : w'.length ≤ 0 := h1.len
  have : w'.length = 0 := by omega
  refine ⟨v, hv, ?_⟩
  show v ≤ _
  have h2 : v = ((w'.length : Nat) : Int) := h2
  rw [h2, this]
  omega
/-- what stands at every point of the rounds -/
structure FSt (F : List (List Nat × Int)) : Prop where
  ok : FOk F
  nil : ∃ v, (([] : List Nat), v) ∈ F
theorem FSt.start : FSt [([], 0)] := ⟨fun x hx => by rw [List.mem_singleton.mp hx]; exact ⟨[], .nil, rfl⟩, ⟨0, List.mem_singleton.mpr rfl⟩⟩
theorem FLow.start {p : List Nat} : FLow [([], 0)] 0 p := fun w hw hn => by
  have : w = [] := List.eq_nil_of_length_eq_zero (by omega)
  subst this
  rcases steps_uncons hw with ⟨_, e⟩ | ⟨_, _, e, _⟩
  · exact ⟨0, by rw [← e]; exact List.mem_singleton.mpr rfl, by simp⟩
  · cases e
theorem fD_put2 (F : List (List Nat × Int)) (p : List Nat) (m : Int) : ∃ F', putK (dk (fD F)) (Sum.inr (tx p)) (.int m) = dk (fD F') ∧ F'.map (·.1) = (if p ∈ F.map (·.1) then F.map (·.1) else F.map (·.1) ++ [p]) ∧ (p, m) ∈ F' ∧ (∀ x ∈ F', x = (p, m) ∨ (x ∈ F ∧ x.1 ≠ p)) ∧ ∀ x ∈ F, x.1 ≠ p → x ∈ F' := by
  by_cases h : p ∈ F.map (·.1)
  · rw [if_pos h]
    have ha : ((dk (fD F)).any fun kv => decide (kv.1 = Sum.inr (tx p))) = true := by
      obtain ⟨x, hx, e⟩ := List.mem_map.mp h
      refine List.any_eq_true.mpr ⟨(Sum.inr (tx x.1), V.int x.2), ?_, decide_eq_true (by show (Sum.inr (tx x.1) : Key) = _; rw [e])⟩
      unfold dk fD
      rw [List.map_map]
      exact List.mem_map.mpr ⟨x, hx, rfl⟩
    refine ⟨F.map fun x => if x.1 = p then (x.1, m) else x, ?_, ?_, ?_, fun x hx => ?_, fun x hx ne => ?_⟩
    · unfold putK
      rw [if_pos ha]
      unfold dk fD
      rw [List.map_map, List.map_map, List.map_map, List.map_map]
      refine List.map_congr_left fun x _ => ?_
      by_cases z : x.1 = p
      · show (if (Sum.inr (tx x.1) : Key) = Sum.inr (tx p) then ((Sum.inr (tx x.1) : Key), V.int m) else ((Sum.inr (tx x.1) : Key), V.int x.2)) = (Sum.inr (tx (if x.1 = p then (x.1, m) else x).1), V.int (if x.1 = p then (x.1, m) else x).2)
        rw [if_pos (by rw [z]), if_pos z]
      · show (if (Sum.inr (tx x.1) : Key) = Sum.inr (tx p) then ((Sum.inr (tx x.1) : Key), V.int m) else ((Sum.inr (tx x.1) : Key), V.int x.2)) = (Sum.inr (tx (if x.1 = p then (x.1, m) else x).1), V.int (if x.1 = p then (x.1, m) else x).2)
        rw [if_neg (fun y => z (tx_inj (Sum.inr.inj y))), if_neg z]
    · rw [List.map_map]
      refine List.map_congr_left fun x _ => ?_
      show (if x.1 = p then (x.1, m) else x).1 = x.1
      by_cases z : x.1 = p
      · rw [if_pos z]
      · rw [if_neg z]
    · obtain ⟨x, hx, e⟩ := List.mem_map.mp h
      exact List.mem_map.mpr ⟨x, hx, by rw [if_pos e, e]⟩
    · obtain ⟨y, hy, rfl⟩ := List.mem_map.mp hx
      by_cases z : y.1 = p
      · rw [if_pos z, z]
        exact .inl rfl
      · rw [if_neg z]
        exact .inr ⟨hy, z⟩
    · exact List.mem_map.mpr ⟨x, hx, by rw [if_neg ne]⟩
  · rw [if_neg h]
    refine ⟨F ++ [(p, m)], ?_, by rw [List.map_append]; rfl, List.mem_append_right _ (List.mem_singleton.mpr rfl), fun x hx => ?_, fun x hx _ => List.mem_append_left _ hx⟩
    · rw [dk_put (by rw [fD_keys]; exact h)]
      unfold fD
      rw [List.map_append]
      rfl
    · rcases List.mem_append.mp hx with y | y
      · exact .inr ⟨y, fun e => h (List.mem_map.mpr ⟨x, y, e⟩)⟩
      · exact .inl (List.mem_singleton.mp y)
theorem fD_get2 (F : List (List Nat × Int)) (p : List Nat) : (valV (dk (fD F)) (Sum.inr (tx p)) = none ∧ p ∉ F.map (·.1)) ∨ ∃ n, valV (dk (fD F)) (Sum.inr (tx p)) = some (.int n) ∧ (p, n) ∈ F := by
  induction F with
  | nil => exact .inl ⟨rfl, by simp⟩
  | cons a F ih =>
    have e : dk (fD (a :: F)) = (Sum.inr (tx a.1), V.int a.2) :: dk (fD F) := rfl
    rw [e]
    by_cases h : a.1 = p
    · exact .inr ⟨a.2, valV_pos (by rw [h]), by rw [← h]; exact List.mem_cons_self⟩
    · rw [valV_neg (fun z => h (tx_inj (Sum.inr.inj z)))]
      rcases ih with ⟨h1, h2⟩ | ⟨n, h1, h2⟩
      · exact .inl ⟨h1, fun z => by
          rcases List.mem_cons.mp z with z | z
          · exact h z.symm
          · exact h2 z⟩
      · exact .inr ⟨n, h1, List.mem_cons_of_mem _ h2⟩
/-- what a key stands for is one number -/
theorem fD_one {F : List (List Nat × Int)} (nd : (F.map (·.1)).Nodup) {p : List Nat} {v u : Int} (h : (p, v) ∈ F) (k : (p, u) ∈ F) : v = u :=
  (Prod.mk.inj (inj_of_nodup nd h k rfl)).2
/-- putting m for p: not above what was there, and of a chain -/
theorem FLe.put {F F' : List (List Nat × Int)} {p : List Nat} {m : Int} (nd : (F.map (·.1)).Nodup) (hm : ∀ v, (p, v) ∈ F → m ≤ v) (h1 : (p, m) ∈ F') (h2 : ∀ x ∈ F, x.1 ≠ p → x ∈ F') : FLe F F' := ⟨fun q v hv => by
  by_cases e : q = p
  · subst e
    exact ⟨m, h1, hm v hv⟩
  · exact ⟨v, h2 _ hv e, Int.le_refl _⟩⟩
theorem FOk.put {F F' : List (List Nat × Int)} {p : List Nat} {m : Int} (ok : FOk F) (hm : ∃ w, Steps p w [] ∧ m = ((w.length : Nat) : Int)) (h : ∀ x ∈ F', x = (p, m) ∨ (x ∈ F ∧ x.1 ≠ p)) : FOk F' := fun x hx => by
  rcases h x hx with rfl | ⟨h1, _⟩
  · exact hm
  · exact ok x h1
/-- one step: what the entries give -/
theorem FLow.step {F : List (List Nat × Int)} {n : Nat} {z : Sc} (full : Fll z) (hne : z.p ≠ []) (low : ∀ e ∈ z.es, FLow F n e.2.2) (h : ∀ e ∈ z.es, ∀ v, (e.2.2, v) ∈ F → ∃ u, (z.p, u) ∈ F ∧ u ≤ 1 + v) : FLow F (n + 1) z.p := fun w hw hn => by
  rcases steps_uncons hw with ⟨rfl, e⟩ | ⟨ls, v, rfl, h1, h2, h3, h4, h5⟩
  · exact absurd e.symm hne
  · obtain ⟨e, he, ee⟩ := full ls h1 h2 h3 h4
    obtain ⟨u, hu, hu2⟩ := low e he v (by rw [ee]; exact h5) (by rw [List.length_cons] at hn; omega)
    obtain ⟨u2, h6, h7⟩ := h e he u hu
    refine ⟨u2, h6, ?_⟩
    rw [List.length_cons]
    omega
theorem nd_subN2 {α : Type} [DecidableEq α] : ∀ (a b : List α), a.Nodup → (∀ x ∈ a, x ∈ b) → a.length ≤ b.length
  | [], _, _, _ => Nat.zero_le _
  | x :: a, b, h, hs => by
    have h2 := List.nodup_cons.mp h
    have hx := hs x List.mem_cons_self
    have ih := nd_subN2 a (b.erase x) h2.2 fun y hy => (List.mem_erase_of_ne (fun e : y = x => h2.1 (e ▸ hy))).mpr (hs y (List.mem_cons_of_mem _ hy))
    rw [List.length_erase_of_mem hx] at ih
    have := List.length_pos_of_mem hx
    rw [List.length_cons]
    omega
/-- a chain is shorter than there are patterns -/
theorem clz_len {zs : List Sc} (cz : Clz zs) {p : List Nat} {w : List (List Nat)} (h : Steps p w []) (hp : p ∈ zs.map (·.p)) : w.length + 1 ≤ zs.length := by
  have key : ∀ (w : List (List Nat)) (p : List Nat), Steps p w [] → p ∈ zs.map (·.p) → ∃ ps : List (List Nat), ps.length = w.length + 1 ∧ ps.Nodup ∧ (∀ q ∈ ps, q ∈ zs.map (·.p)) ∧ ∀ q ∈ ps, q.length ≤ p.length := by
    intro w
    induction w with
    | nil => exact fun p _ hp => ⟨[p], rfl, by simp, fun q hq => by rw [List.mem_singleton.mp hq]; exact hp, fun q hq => by rw [List.mem_singleton.mp hq]; exact Nat.le_refl _⟩
    | cons a r ih =>
      intro p st hp
      rcases steps_uncons st with ⟨e, _⟩ | ⟨ls, v, e, h1, h2, h3, h4, h5⟩
      · cases e
      · obtain ⟨rfl, rfl⟩ := List.cons.inj e
        obtain ⟨z, hz, rfl⟩ := List.mem_map.mp hp
        obtain ⟨x, hx, ex⟩ := cz.fl z hz a h1 h2 h3 h4
        have m := cz.cl z hz x hx
        rw [ex] at m
        obtain ⟨ps, l, nd, i, s⟩ := ih _ h5 m
        have lt : (wo z.p a).length < z.p.length := by
          cases a with
          | nil => exact absurd rfl h1
          | cons c cr =>
            unfold wo
            exact List.length_filter_lt_length_iff_exists.mpr ⟨c, h3 c List.mem_cons_self, by simp⟩
        refine ⟨z.p :: ps, by rw [List.length_cons, List.length_cons, l], List.nodup_cons.mpr ⟨fun k => ?_, nd⟩, fun q hq => ?_, fun q hq => ?_⟩
        · have := s _ k
          omega
        · rcases List.mem_cons.mp hq with rfl | y
          · exact hp
          · exact i q y
        · rcases List.mem_cons.mp hq with rfl | y
          · exact Nat.le_refl _
          · have := s q y
            omega
  obtain ⟨ps, l, nd, i, _⟩ := key w p h hp
  have : ps.length ≤ (zs.map (·.p)).length := nd_subN2 ps _ nd i
  rw [List.length_map] at this
  omega
end Mo

/-! ### sorted(a dict whose keys are texts), any number of them -/
namespace Mo
open PySem PySem.Spec PyProof.Rows L2
section
variable {X : Cx}
/-- sorted(d): the keys in order, in a new list -/
def rSortDk : List V → Hp → VK → Prop := fun xs H Q => ∃ (a : Addr) (D : List (List Nat × V)), xs = [V.ref a] ∧ H a = some (.dK (dk D)) ∧
  ∀ (ls : List (List Nat)) (p : Addr), ls.Perm (D.map (·.1)) → ls.Pairwise LeT → H p = none → Q (.ref p) (upd H p (.lst (tzs ls)))
theorem cr_sortDk (hc : X.calm = true) : CallR X (.builtin "sorted") rSortDk := by
  intro pins s σ H xs us Q I r h
  obtain ⟨d, D, rfl, hD, q⟩ := h
  rw [Vals.ref1 r]
  obtain ⟨room, lo, ws, rel, at_⟩ := dk_of I.hok hD
  obtain ⟨ep, stands⟩ := at_.dictAt
  have keys : ws.map (·.1) = (D.map (·.1)).map fun q => (Sum.inr (tx q) : Key) := by
    refine rel.keys.symm.trans ?_
    unfold dk
    rw [List.map_map, List.map_map]
    rfl
  have many : ws.length = D.length := by simpa using congrArg List.length keys
  rw [dk_len] at room
  refine Calls.call_function_entry kind_sorted plain_sorted entry_sorted (args_sorted1 _) ?_
  unfold Builtin.«sorted»
  refine wpAny_bind (m := checkCount "sorted" 1 1 _) (wpAny_pure ?_)
  refine wpAny_bind (PySem.W.kdu_collect (A := X.A.in1) (PySem.W.kdl_dict (ep := ep) lo) (I.ok.hd hc) stands (by rw [many]; exact room) fun hp2 tk got kept items => ?_)
  have size : got.toList.length = D.length := by rw [Array.length_toList, items.1, many]
  have texts : StrsAre got.toList ((D.map (·.1)).map tx) := strs_by (by rw [size, List.length_map, List.length_map]) fun j v hv => by
    obtain ⟨k, x, hk, is⟩ := items.2 j v (by rw [← Array.getElem?_toList]; exact hv)
    have e : (ws.map (·.1))[j]? = some k := by
      rw [List.getElem?_map, hk]
      rfl
    rw [keys, List.getElem?_map] at e
    obtain ⟨y, hy, rfl⟩ := Option.map_eq_some_iff.mp e
    obtain ⟨t, rfl⟩ := Value.isStrOf_shape is
    exact ⟨tx y, t, by rw [List.getElem?_map, hy]; rfl, rfl⟩
  have I2 : Inv X pins σ H { s with heap := hp2, toks := tk } := I.kept kept
  refine wpAny_bind (wpAny_newList ?_ (by rw [size]; exact room))
  have fresh : (hp2.push (seqObj "list" got.toList.toArray 0)).get? hp2.objs.size = some (seqObj "list" got.toList.toArray 0) := Heap.get?_push_size _ rfl
  refine wpAny_bind (wpAny_holding (wpAny_call_entry slot_list_sort ⟨_, fresh, rfl⟩ entry_list_sort
    (SrtO.list_sort_ord (s := { s with heap := hp2.push (seqObj "list" got.toList.toArray 0), toks := tk }) swo_strs fresh (by rw [size]; exact room) (fun h2 => str_sortable texts h2) fun out hs hb => ⟨_, rfl, ?_⟩) (args_list_sort _)))
  have inorder : StrsAre out (out.map strOf) := strs_of_all fun v hv => strs_mem texts v (hb.perm.mem_iff.mp hv)
  have pm : (out.map strOf).Perm ((D.map (·.1)).map tx) := by
    have z := hb.perm.map strOf
    rw [strOf_strs texts] at z
    exact z
  obtain ⟨ls, eq, pl, ol⟩ := tzs_sort pm (List.pairwise_map.mpr hs)
  obtain ⟨n, stood⟩ := sortedHeap_at (vs := got.toList) (out := out.toArray) fresh
  have zs : (tzs ls) = (out.map strOf).map V.str := by rw [tzs_strs, eq]
  have fit : (tzs ls).length ≤ sizeLine := by
    have e := pl.length_eq
    rw [List.length_map] at e
    unfold tzs
    rw [List.length_map, e]
    exact room
  refine wpAny_pure ⟨_, rfl, .ref hp2.objs.size, upd H hp2.objs.size (.lst (tzs ls)), I2.laid (t' := tk) (fun b u e => ?_) (Nat.le_refl _) ⟨fit, out, n, by rw [zs]; exact vals_of_strs inorder, stood⟩, rfl, q ls _ pl ol (I2.hok.fresh (Nat.le_refl _))⟩
  have lt := Heap.lt_size e
  rw [sortedHeap_old (Nat.ne_of_lt lt) (by rw [size_push']; exact Nat.lt_succ_of_lt lt)]
  exact Heap.get?_push_of_some _ e
end
end Mo

/-! ### a dict's comprehension over what walks; a dict of texts, all True -/
namespace Mo
open PySem PySem.Spec PyProof.Rows L2
section
variable {J : It} {n : Nat} {G : Hp → Prop} {Y : Nat → Hp → V → Hp → Prop}
theorem dc_it (w : Walk J n G Y) {g : TG} {tt : TT} {tk tv : TE} {vs : List Nat} {σ : L2.St} {H1 : Hp} {D : Addr} {Qd : Hp → Prop} (Pv : Nat → Hp → Prop) (h0 : Pv 0 (upd H1 D (.dK []))) (hG : ∀ i H, i ≤ n → Pv i H → G H)
    (hs : ∀ i x H H', i < n → Pv i H → Y i H x H' → g x (wipe σ vs) H' fun σ2 H2 => wipe σ2 vs = wipe σ vs ∧ tt σ2 H2 fun b H3 =>
      if b = true then tk σ2 H3 fun y H4 => tv σ2 H4 fun z H5 => ∃ kvs k, y = kV k ∧ H5 D = some (.dK kvs) ∧ kvs.length < sizeLine ∧ Pv (i + 1) (upd H5 D (.dK (putK kvs k z))) else Pv (i + 1) H3) (hd : ∀ H, Pv n H → Qd H) :
    ∃ W : Nat → Nat → Hp → Prop, (∃ m, W 0 m (upd H1 D (.dK []))) ∧ ∀ i m H, W i m H →
      (J.stop i H ∧ Qd H) ∨ (J.go i H ∧ ∃ Nx : Hp → Prop, (∀ H', Nx H' → ∃ m', m' < m ∧ W (i + 1) m' H') ∧ ∀ x H', J.yld i H x H' → g x (wipe σ vs) H' fun σ2 H2 => wipe σ2 vs = wipe σ vs ∧ tt σ2 H2 fun b H3 =>
        if b = true then tk σ2 H3 fun y H4 => tv σ2 H4 fun z H5 => ∃ kvs k, y = kV k ∧ H5 D = some (.dK kvs) ∧ kvs.length < sizeLine ∧ Nx (upd H5 D (.dK (putK kvs k z))) else Nx H3) := by
  refine ⟨fun i m H => m = n - i ∧ i ≤ n ∧ Pv i H, ⟨n, by simp, Nat.zero_le _, h0⟩, ?_⟩
  rintro i m H ⟨rfl, hi, p⟩
  have q := hG i H hi p
  by_cases hlt : i < n
  · refine .inr ⟨w.goes i H hlt q, Pv (i + 1), fun H' p' => ⟨n - (i + 1), by omega, rfl, hlt, p'⟩, fun x H' y => hs i x H H' hlt p (w.yields i H x H' hlt q y)⟩
  · have e : i = n := by omega
    subst e
    exact .inl ⟨w.stops H q, hd H p⟩
end
theorem lock_samE {H H' : Hp} {a : Addr} {u : HO} {od : Obj} (ha : H a = some u) (s : Same (upd H a (.frz od u)) H') : Same H (upd H' a u) := fun b o e => by
  by_cases h : b = a
  · subst h
    rw [upd_same]
    rw [ha] at e
    exact e
  · rw [upd_ne h]
    exact s b o (by rw [upd_ne h]; exact e)
/-- each text to True -/
def yesD (ps : List (List Nat)) : List (List Nat × V) := ps.map fun p => (p, .bl true)
theorem yes_keys (ps : List (List Nat)) : (yesD ps).map (·.1) = ps := by
  unfold yesD
  rw [List.map_map]
  exact List.map_id ps
theorem yes_put {ps : List (List Nat)} {p : List Nat} (h : p ∉ ps) : putK (dk (yesD ps)) (Sum.inr (tx p)) (.bl true) = dk (yesD (ps ++ [p])) := by
  rw [dk_put (by rw [yes_keys]; exact h)]
  unfold yesD
  rw [List.map_append]
  rfl
theorem yes_in {ps : List (List Nat)} (nd : ps.Nodup) (p : List Nat) : (valV (dk (yesD ps)) (Sum.inr (tx p))).isSome = decide (p ∈ ps) := by
  by_cases h : p ∈ ps
  · obtain ⟨k, hk⟩ := List.getElem?_of_mem h
    rw [dk_some (D := yesD ps) (p := p) (v := .bl true) (k := k) (by rw [yes_keys]; exact nd) (by unfold yesD; rw [List.getElem?_map, hk]; rfl), decide_eq_true h]
    rfl
  · rw [dk_none (by rw [yes_keys]; exact h), decide_eq_false h]
    rfl
theorem yes_len (ps : List (List Nat)) : (dk (yesD ps)).length = ps.length := by
  rw [dk_len]
  unfold yesD
  exact List.length_map ..
theorem dget_r {H : Hp} {a : Addr} {kvs : List (Key × V)} {p : List Nat} (e : Rd H a (.dK kvs)) : DGet H a (.str (tx p)) (valV kvs (Sum.inr (tx p))) := .inl ⟨kvs, Sum.inr (tx p), e, rfl, rfl⟩
theorem rd_keep {H H' : Hp} {a : Addr} {u : HO} (r : Rd H a u) (s : Same H H') : Rd H' a u := r.elim (fun e => .inl (s _ _ e)) fun ⟨o, e⟩ => .inr ⟨o, s _ _ e⟩
end Mo

set_option pp.maxSteps 300
namespace Mo
open PySem PySem.Spec PyProof.Rows L2
theorem tzr_ln (l : List (List Nat)) : (tzs l).length = l.length := List.length_map ..
theorem tzr_gt {l : List (List Nat)} {i : Nat} {x : V} (h : (tzs l)[i]? = some x) : ∃ u, l[i]? = some u ∧ x = .str (tx u) := by
  unfold tzs at h
  rw [List.getElem?_map] at h
  obtain ⟨u, h1, h2⟩ := Option.map_eq_some_iff.mp h
  exact ⟨u, h1, h2.symm⟩
section
variable {P : Program} {w : World} {K : PySem.W.Frag} {mg : Str → Option Value} {base : Heap}
/-- what _law_reached gives: every pattern's steps -/
structure Suc (H' : Hp) (cs : List Nat) (W : Addr) (zs : List Sc) : Prop where
  hW : H' W = some (.dK (dk (zsD zs)))
  ok : ∀ z ∈ zs, SOk H' z
  ndP : (zs.map (·.p)).Nodup
  sub : ∀ z ∈ zs, ∃ x, z.p = wo cs x
  val : ∀ z ∈ zs, ∀ e ∈ z.es, EOk z.p e
  len : ∀ z ∈ zs, z.es.length ≤ 200000
  few : zs.length ≤ 256
def spLRea : Sp := fun vs H Q _ => ∃ cs, vs = [.str (tx cs)] ∧ Pat cs ∧ ∀ H' W zs, Same H H' → H W = none → Suc H' cs W zs → cs ∈ zs.map (·.p) → Clz zs → Q (.ref W) H'
theorem ok_lrea {k : Nat} (T : Txt K mg) : FnOk P w K mg base CX0 (k + 3) T.aLReached T.dLReached ["_law_pattern_here"] spLRea := by
  have GLIsFree : FnOk P w K mg base CX0 (k + 2) T.aLIsFree T.dLIsFree ["_law_pattern_here", "_law_letters"] spLFreeG := ok_lfreeG T
  have GLWithout : FnOk P w K mg base CX0 (k + 2) T.aLWithout T.dLWithout ["_law_pattern_here", "_law_letters"] spWithG := ok_withG T
  refine T.fLReached.ok scLReached (fun vs H Q E h => ?_) (fun cdv A outer s H vs Q E hr h => ?_)
  · obtain ⟨_, rfl, _⟩ := h
    rfl
  · obtain ⟨cs, rfl, pat, q⟩ := h
    refine ⟨_, (pss_cons (ps_par (i := 1) (j := 2) (by rfl) scLReached.nd rfl rfl (by decide) rfl rfl (pa_cons (pe_disp (pps_cons (pv 0) (pe_lst pa_nil) pps_nil) (by rfl) (by rfl) (fun z => by cases z) (by decide)) (pa_cons (pe_lst (pa_cons (pv 0) pa_nil)) pa_nil)) (by rfl))
      (pss_cons (ps_while PassesOwn.never (pt_cmpR (Mo.op_neNil hr.units) (pv 2) (pe_lst pa_nil) (nomark _)) (pss_cons (ps_set (i := 3) scLReached.nd rfl (Or.inl rfl) (pe_bm0 PySem.F.plainAttrs_list PySem.F.slot_list_pop PySem.F.type_list_pop mt_pop (pv 2)))
      (pss_cons (ps_set (i := 4) scLReached.nd rfl (Or.inl rfl) (pe_lst (pa_cons pe_str pa_nil)))
      (pss_cons (ps_for PassesOwn.never rfl (pi_list (pe_callB (Mo.cr_sortSg (P := P) (w := w) rfl rfl rfl) (by rfl) T.m_sorted (by decide +kernel) (pa_cons (pe_callTy (Mo.cr_setSg (P := P) (w := w) rfl rfl rfl) (by rfl) T.m_set (by decide +kernel) (pa_cons (pv 3) pa_nil)) pa_nil))) (pg_name (i := 5) scLReached.nd rfl (Or.inr rfl)) (pss_one (ps_set (i := 4) scLReached.nd rfl (Or.inl rfl) (pe_op op_cat (pv 4) (pe_lc (own := [("_law_letters", 6)]) (g := gName 6) (tt := tYes) rfl scLReached.nd (pi_list (pv 4)) (blkOk_by (N := ["_law_pattern_here", "_law_found", "_law_queue", "_law_here", "_law_sets", "_law_name", "_law_letters", "_law_later"]) (sc := defScope sLReached) (by decide +kernel)) (fun _ _ _ _ _ => pg_name (i := 6) scLReached.nd rfl (Or.inl rfl)) (fun _ _ _ _ _ => pts_nil) (fun _ _ _ _ _ => (pe_op op_add_str (pv 6) (pv 5))))))))
      (pss_one (ps_for PassesOwn.never rfl (pi_list (pe_slice sl_list (pv 4) (po_some pe_int) po_none)) (pg_name (i := 6) scLReached.nd rfl (Or.inl rfl)) (pss_one (ps_if (pt_val (pe_call GLIsFree hr (by rfl) T.gLIsFree T.fLIsFree.kp T.bLIsFree .nil pass0 (pa_cons (pv 3) (pa_cons (pv 6) pa_nil)))) (pss_cons (ps_set (i := 7) scLReached.nd rfl (Or.inl rfl) (pe_call GLWithout hr (by rfl) T.gLWithout T.fLWithout.kp T.bLWithout .nil pass0 (pa_cons (pv 3) (pa_cons (pv 6) pa_nil))))
      (pss_cons (ps_expr (pe_bm PySem.F.plainAttrs_list PySem.F.slot_list_append PySem.F.type_list_append mt_append (pe_dget (Mo.room1 hr) (pv 1) (pv 3) (fun _ _ => rfl)) (pa_cons (pe_tup (pa_cons (pv 6) (pa_cons (pv 7) pa_nil))) pa_nil)))
      (pss_one (ps_if (pt_cmp (pc_dnotin (Mo.room1 hr) (pv 7) (pv 1))) (pss_cons (ps_dput (Mo.room1 hr) (pv 1) (pv 7) (pe_lst pa_nil) rfl)
      (pss_one (ps_expr (pe_bm PySem.F.plainAttrs_list PySem.F.slot_list_append PySem.F.type_list_append mt_append (pv 2) (pa_cons (pv 7) pa_nil))))) pss_nil)))) pss_nil))))))))
      (pss_one (ps_ret (pv 1))))), ?_⟩
    have c40 := pat.len
    intro W nW
    have sW := same_new (o := .dK []) nW
    refine ⟨_, rfl, by show 0 ≤ sizeLine; decide, fun L nL => ⟨same_new nL _ _ upd_same, [(Sum.inr (tx cs), V.ref L)], rfl, by show 1 ≤ 15; decide, _, rfl, by show 1 ≤ sizeLine; decide, fun Qq nQ => ⟨_, _, rfl, ?_⟩⟩⟩
    have sL := same_new (o := .lst []) nL
    have LW : L ≠ W := fun e => by rw [e, upd_same] at nL; cases nL
    have nLH : H L = none := sW.free nL
    have s1 : Same H (upd (upd (upd H W (.dK [])) L (.lst [])) W (.dK (mergeK [] [(Sum.inr (tx cs), V.ref L)]))) := Same.put (sW.trans sL) nW
    have hL1 : upd (upd (upd H W (.dK [])) L (.lst [])) W (.dK (mergeK [] [(Sum.inr (tx cs), V.ref L)])) L = some (.lst []) := by rw [upd_ne LW, upd_same]
    have hW1 : upd (upd (upd H W (.dK [])) L (.lst [])) W (.dK (mergeK [] [(Sum.inr (tx cs), V.ref L)])) W = some (.dK (dk (zsD [⟨cs, L, []⟩]))) := upd_same
    generalize upd (upd (upd H W (.dK [])) L (.lst [])) W (.dK (mergeK [] [(Sum.inr (tx cs), V.ref L)])) = H1 at *
    have sQ := same_new (o := .lst [V.str (tx cs)]) nQ
    have nQH : H Qq = none := s1.free nQ
    have LQ : L ≠ Qq := ne_of_none hL1 nQ
    have st0 : RSt H (upd H1 Qq (.lst [V.str (tx cs)])) cs W Qq [⟨cs, L, []⟩] [cs] (256 * (511 - 511)) := by
      refine ⟨s1.trans sQ, sQ _ _ hW1, upd_same, nW, nQH, fun z hz => ?_, fun z hz => ?_, fun z hz => ?_, by simp, by simp, fun z hz => ?_, fun z hz => ?_, fun z hz => ?_, fun p hp => ?_⟩
      · rw [List.mem_singleton.mp hz]
        exact ⟨sQ _ _ hL1, fun e he => absurd he (by simp)⟩
      · rw [List.mem_singleton.mp hz]
        exact LQ
      · rw [List.mem_singleton.mp hz]
        exact nLH
      · rw [List.mem_singleton.mp hz]
        exact ⟨[], (wo_nil cs).symm⟩
      · rw [List.mem_singleton.mp hz]
        exact fun e he => absurd he (by simp)
      · rw [List.mem_singleton.mp hz]
        exact Nat.zero_le _
      · simpa using hp
    refine ⟨fun m σ H' => ∃ (zs : List Sc) (qs : List (List Nat)) (o3 o4 o5 o6 o7 : Option V), σ = [some (.str (tx cs)), some (.ref W), some (.ref Qq), o3, o4, o5, o6, o7] ∧ RSt H H' cs W Qq zs qs (256 * (511 - m)) ∧ m = 2 * (256 - zs.length) + qs.length ∧ m ≤ 511 ∧ cs ∈ zs.map (·.p) ∧ Cov zs qs, ⟨511, [⟨cs, L, []⟩], [cs], _, _, _, _, _, rfl, st0, rfl, Nat.le_refl _, by simp, ⟨fun z hz e he => by rw [List.mem_singleton.mp hz] at he; exact absurd he (by simp), fun z hz => .inl (by rw [List.mem_singleton.mp hz]; exact List.mem_singleton.mpr rfl)⟩⟩, ?_⟩
    rintro m σ H2 ⟨zs, qs, o3, o4, o5, o6, o7, rfl, st, em, m511, cin, cov⟩
    refine ⟨_, rfl, Nat.zero_le _, fun e0 ne0 => ?_⟩
    have se := same_new (o := .lst []) ne0
    refine ⟨Qq, e0, _, rfl, rfl, SqL.of (se _ _ st.hQ), SqL.of upd_same, _, rfl, ?_⟩
    have st1 := st.same se
    clear se st
    generalize upd H2 e0 (.lst []) = H3 at *
    have few := st1.few pat
    refine ite2 (fun cc => ?_) (fun cc => ?_)
    · -- one pattern more
      obtain ⟨ps, here, rfl⟩ : ∃ ps here, qs = ps ++ [here] := by
        cases e : qs with
        | nil => rw [e] at cc; cases cc
        | cons a r => exact ⟨(a :: r).dropLast, (a :: r).getLast (by simp), (List.dropLast_concat_getLast (by simp)).symm⟩
      have hin := st1.qk here (by simp)
      obtain ⟨z0, hz0, ez0, _⟩ := st1.at hin
      obtain ⟨x0, ex0⟩ := st1.sub z0 hz0
      have hp : Pat here := by
        rw [← ez0, ex0]
        exact wo_pat pat
      have h40 := hp.len
      have hfew := hp.few
      have hml := met_length_le here
      refine ⟨fun σ' H' => ∃ (zs' : List Sc) (qs' : List (List Nat)) (o3 o4 o5 o6 o7 : Option V), σ' = [some (.str (tx cs)), some (.ref W), some (.ref Qq), o3, o4, o5, o6, o7] ∧ RSt H H' cs W Qq zs' qs' (256 * (511 - m) + 256) ∧ 2 * (256 - zs'.length) + qs'.length < m ∧ cs ∈ zs'.map (·.p) ∧ Cov zs' qs', fun σ' H' h => ?_, ?_⟩
      · obtain ⟨zs', qs', a3, a4, a5, a6, a7, h1, h2, h3, h4, h5⟩ := h
        exact ⟨_, h3, zs', qs', _, _, _, _, _, h1, h2.up (by omega), rfl, by omega, h4, h5⟩
      have hq := st1.hQ
      have lastq : (tzs (ps ++ [here]))[(tzs (ps ++ [here])).length - 1]? = some (.str (tx here)) := by
        rw [tzr_ln, List.length_append, List.length_singleton, Nat.add_sub_cancel]
        unfold tzs
        rw [List.map_append, List.getElem?_append_right (by rw [List.length_map]; exact Nat.le_refl _), List.length_map, Nat.sub_self]
        rfl
      have drop : (tzs (ps ++ [here])).dropLast = tzs ps := by
        unfold tzs
        rw [List.map_append]
        exact List.dropLast_concat
      refine ⟨_, rfl, .inl ⟨rfl, _, SqL.of hq⟩, Qq, _, _, rfl, rfl, hq, lastq, ?_⟩
      rw [drop]
      have st2 := st1.setQ (ps := ps) fun p hp => st1.qk p (List.mem_append_left _ hp)
      have em2 : 2 * (256 - zs.length) + ps.length < m := by
        rw [em, List.length_append, List.length_singleton]
        omega
      have cov0 := cov.start
      clear st1 hq lastq drop em cov
      generalize upd H3 Qq (.lst (tzs ps)) = H4 at *
      -- the subsets
      refine ⟨by show 1 ≤ sizeLine; decide, fun A0 nA0 => ?_⟩
      have sA := same_new (o := .lst [V.str (Str.ofString "")]) nA0
      have hA0 : upd H4 A0 (.lst [V.str (Str.ofString "")]) A0 = some (.lst (tzs (subF []))) := by
        rw [upd_same]
        show some (HO.lst [V.str (Str.ofString "")]) = some (HO.lst [V.str (tx [])])
        rw [tx_nil]
      have st3 := st2.same sA
      clear sA st2
      generalize upd H4 A0 (.lst [V.str (Str.ofString "")]) = H5 at *
      refine ⟨_, rfl, tx here, rfl, by rw [tx_size]; omega, fun S2 nS2 => ?_⟩
      have s2 := same_new (o := SetSg P w S2 (tx here).cps.toList) nS2
      refine ⟨S2, _, rfl, upd_same, by show (met here).length < 64; omega, fun ys r pm so nr => ?_⟩
      obtain ⟨nl, rfl, asc, mem, nlen⟩ := signs_set (cs := here) pm so
      have s3 := s2.trans (same_new (o := .lst ((nl.map ch1).map V.str)) nr)
      have hr3 : upd (upd H5 S2 (SetSg P w S2 (tx here).cps.toList)) r (.lst ((nl.map ch1).map V.str)) r = some (.lst ((nl.map ch1).map V.str)) := upd_same
      have st4 := st3.same s3
      have hA4 := s3 _ _ hA0
      clear s3 s2 st3 hA0
      generalize upd (upd H5 S2 (SetSg P w S2 (tx here).cps.toList)) r (.lst ((nl.map ch1).map V.str)) = H6 at *
      have xl : ((nl.map ch1).map V.str).length = nl.length := by rw [List.length_map, List.length_map]
      have n8 : nl.length ≤ 8 := by omega
      refine ⟨r, rfl, ⟨_, SqL.of hr3⟩, for_it (walk_list (xs := (nl.map ch1).map V.str)) (fun i σ H' => ∃ (A : Addr) (o5 o6 o7 : Option V), σ = [some (.str (tx cs)), some (.ref W), some (.ref Qq), some (.str (tx here)), some (.ref A), o5, o6, o7] ∧ Same H6 H' ∧ H' A = some (.lst (tzs (subF (nl.take i))))) ?_ ?_ ?_ ?_⟩
      · exact ⟨A0, _, _, _, rfl, .refl _, hA4⟩
      · rintro i σ H' _ ⟨_, _, _, _, _, s7, _⟩
        exact SqL.of (s7 _ _ hr3)
      · rintro i x σ H7' H7 hi ⟨A, o5, o6, o7, rfl, s7, hA⟩ ⟨rfl, hx⟩
        obtain ⟨c, hc, rfl⟩ : ∃ c, nl[i]? = some c ∧ x = sg c := by
          rw [List.getElem?_map, List.getElem?_map] at hx
          cases e : nl[i]? with
          | none => rw [e] at hx; cases hx
          | some c => rw [e] at hx; exact ⟨c, rfl, (Option.some.inj hx).symm⟩
        have tk : nl.take (i + 1) = nl.take i ++ [c] := by rw [List.take_add_one, hc]; rfl
        have sl := setF_len (fun _ => true) _ (nl.take i) rfl
        have sl2 : 2 ^ (nl.take i).length ≤ 2 ^ 8 := Nat.pow_le_pow_right (by decide) (by rw [List.length_take]; omega)
        have sl3 : (subF (nl.take i)).length ≤ 256 := Nat.le_trans sl sl2
        have ll : ∀ u ∈ subF (nl.take i), u.length ≤ 8 := fun u hu => by
          have := (setF_sub (keep := fun _ => true) _ (nl.take i) rfl u hu).length_le
          rw [List.length_take] at this
          omega
        refine ⟨_, rfl, _, rfl, A, rfl, ⟨_, SqL.of hA⟩, fun D nD => lc_it (walk_list (xs := tzs (subF (nl.take i)))) (fun j H' => Same H7 H' ∧ H' D = some (.lst (tzs (((subF (nl.take i)).take j).map (· ++ [c]))))) ?_ ?_ ?_ ?_⟩
        · exact ⟨same_new nD, upd_same⟩
        · exact fun j H' _ h => SqL.of (h.1 _ _ hA)
        · rintro j x H8' H8 hj ⟨s8, hD⟩ ⟨rfl, hx⟩
          obtain ⟨u, hu, rfl⟩ := tzr_gt hx
          have ul := ll u (List.mem_of_getElem? hu)
          refine ⟨rfl, _, rfl, _, rfl, _, _, rfl, rfl, fits5 (by rw [tx_len]; show _ + 1 ≤ _; omega), ?_⟩
          rw [tx_app1]
          refine ⟨_, hD, fitsLt (by rw [tzr_ln, List.length_map, List.length_take]; omega), Same.put s8 nD, ?_⟩
          rw [upd_same, List.take_add_one, hu]
          unfold tzs
          rw [List.map_append, List.map_append]
          rfl
        · rintro H8 ⟨s8, hD⟩
          rw [tzr_ln, List.take_length] at hD
          refine ⟨A, D, _, _, rfl, rfl, s8 _ _ hA, hD, fits5 (by rw [tzr_ln, tzr_ln, List.length_map]; omega), fun B nB => ?_⟩
          refine ⟨B, _, _, _, rfl, (s7.trans s8).trans (same_new nB), ?_⟩
          rw [upd_same, tk, subF_snoc]
          unfold tzs
          rw [List.map_append]
      · rintro σ H7 ⟨A, o5, o6, o7, rfl, s7, hA⟩
        rw [xl, List.take_length] at hA
        have st5 := st4.same s7
        have rest := subF_rest asc
        have covE : ∀ {zs' : List Sc} {qs' : List (List Nat)}, CovI zs' qs' here ((subF nl).drop 1) → Cov zs' qs' := fun h => h.done asc mem
        have sl := setF_len (fun _ => true) _ nl rfl
        have sl2 : 2 ^ nl.length ≤ 2 ^ 8 := Nat.pow_le_pow_right (by decide) n8
        have sl3 : (subF nl).length ≤ 256 := Nat.le_trans sl sl2
        clear st4 s7 hA4
        -- the rest of them
        refine ⟨_, rfl, 1, rfl, A, _, rfl, SqL.of hA, fun A2 nA2 => ?_⟩
        have eC : cutV (tzs (subF nl)) (some 1) none = tzs ((subF nl).drop 1) := by
          obtain ⟨R, eR⟩ := setF_head (fun _ => true) _ nl rfl
          have eR : subF nl = [] :: R := eR
          rw [eR]
          show cutV (V.str (tx []) :: tzs R) (some ((1 : Nat) : Int)) none = tzs R
          unfold cutV
          rw [HT.sIx_nat, HT.sIx_none, List.length_cons, Nat.min_eq_left (by omega)]
          simp
        have nA2 : H7 A2 = none := nA2
        rw [eC]
        have sA2 := same_new (o := .lst (tzs ((subF nl).drop 1))) nA2
        have hA2 := upd_same (H := H7) (a := A2) (o := .lst (tzs ((subF nl).drop 1)))
        have st6 := st5.same sA2
        have A2H : H A2 = none := st5.s.free nA2
        have A2Q : A2 ≠ Qq := (ne_of_none st5.hQ nA2).symm
        have A2W : A2 ≠ W := (ne_of_none st5.hW nA2).symm
        have A2L : ∀ z ∈ zs, A2 ≠ z.L := fun z hz => (ne_of_none (st5.ok z hz).hl nA2).symm
        have dl : ((subF nl).drop 1).length ≤ 256 := by rw [List.length_drop]; omega
        clear st5 sA2 hA eC
        generalize upd H7 A2 (.lst (tzs ((subF nl).drop 1))) = H8 at *
        generalize (subF nl).drop 1 = us at *
        refine ⟨A2, rfl, ⟨_, SqL.of hA2⟩, for_it (walk_list (xs := tzs us)) (fun i σ H' => ∃ (zs' : List Sc) (qs' : List (List Nat)) (o5 o6 o7 : Option V), σ = [some (.str (tx cs)), some (.ref W), some (.ref Qq), some (.str (tx here)), some (.ref A), o5, o6, o7] ∧ RSt H H' cs W Qq zs' qs' (256 * (511 - m) + i) ∧ 2 * (256 - zs'.length) + qs'.length < m ∧ cs ∈ zs'.map (·.p) ∧ here ∈ zs'.map (·.p) ∧ H' A2 = some (.lst (tzs us)) ∧ (∀ z ∈ zs', A2 ≠ z.L) ∧ CovI zs' qs' here (us.take i)) ?_ ?_ ?_ ?_⟩
        · exact ⟨zs, ps, _, _, _, rfl, st6, em2, cin, hin, hA2, A2L, by rw [List.take_zero]; exact cov0⟩
        · rintro i σ H' _ ⟨_, _, _, _, _, _, _, _, _, _, h, _, _⟩
          exact SqL.of h
        · rintro i x σ H9' H9 hi ⟨zs', qs', o5, o6, o7, rfl, st9, em9, cin9, hin9, hA9, nA9, cv9⟩ ⟨rfl, hx⟩
          obtain ⟨u, hu, rfl⟩ := tzr_gt hx
          rw [tzr_ln] at hi
          obtain ⟨u1, u2, u3⟩ := rest u (List.mem_of_getElem? hu)
          have tk : us.take (i + 1) = us.take i ++ [u] := by rw [List.take_add_one, hu]; rfl
          rw [tk]
          have uin : ∀ c ∈ u, c ∈ here := fun c hc => (mem c).mp (u3 c hc)
          have ul : u.length ≤ 40 := Nat.le_trans (nd_sub _ _ (asc_nodup u2) uin) h40
          refine ⟨_, rfl, _, rfl, here, u, rfl, hp, by omega, uin, fun Ha b sa hb => ⟨b, rfl, ?_⟩⟩
          cases b with
          | false => exact iteF ⟨zs', qs', _, _, _, rfl, (st9.same sa).up (by omega), em9, cin9, hin9, sa _ _ hA9, nA9, cv9.pass fun z => Bool.false_ne_true (hb.mpr z)⟩
          | true =>
            have fr := hb.mp rfl
            have sta := st9.same sa
            have hAa := sa _ _ hA9
            refine iteT ⟨_, rfl, _, rfl, here, u, rfl, by omega, fun Hb sb => ?_⟩
            have stb := sta.same sb
            have hAb := sb _ _ hAa
            clear st9 sta sa sb hA9 hAa
            obtain ⟨z, hz, ez, gz⟩ := stb.at hin9
            have g := dget_t (p := here) stb.hW
            rw [gz] at g
            have zl := (stb.ok z hz).hl
            have zlen := stb.len z hz
            refine ⟨_, rfl, _, rfl, W, _, rfl, g, .inl ⟨rfl, _, SqL.of zl⟩, _, rfl, _, rfl, by show 2 ≤ sizeLine; decide, fun T0 nT0 => ?_⟩
            have sT := same_new (o := .tup [V.str (tx u), .str (tx (wo here u))]) nT0
            have hT := upd_same (H := Hb) (a := T0) (o := .tup [V.str (tx u), .str (tx (wo here u))])
            have stc := stb.same sT
            have hAc := sT _ _ hAb
            have zl2 := sT _ _ zl
            clear stb sT hAb zl g
            generalize upd Hb T0 (.tup [V.str (tx u), .str (tx (wo here u))]) = Hc at *
            refine ⟨z.L, _, _, rfl, rfl, zl2, by rw [List.length_map, sizeLine_eq]; omega, ?_⟩
            have std := stc.add hz (e := (T0, u, wo here u)) hT ⟨u1, u2, by rw [ez]; exact uin, by rw [ez]; exact fr, by rw [ez]⟩
            have hAd : upd Hc z.L (.lst (z.es.map (fun e => V.ref e.1) ++ [V.ref T0])) A2 = some (.lst (tzs us)) := by rw [upd_ne (nA9 z hz)]; exact hAc
            have nAd : ∀ z' ∈ addE z.p (T0, u, wo here u) zs', A2 ≠ z'.L := fun z' hz' => by
              obtain ⟨s0, h0, ⟨_, rfl⟩ | ⟨_, rfl⟩⟩ := addE_mem hz'
              · exact nA9 s0 h0
              · exact nA9 z' h0
            have kd : (addE z.p (T0, u, wo here u) zs').map (·.p) = zs'.map (·.p) := addE_p _ _ _
            have ld : (addE z.p (T0, u, wo here u) zs').length = zs'.length := by unfold addE; exact List.length_map ..
            have few3 := stc.few pat
            have cva : wo here u ∈ (addE z.p (T0, u, wo here u) zs').map (·.p) → CovI (addE z.p (T0, u, wo here u) zs') qs' here (us.take i ++ [u]) := fun k => by
              rw [kd] at k
              rw [ez]
              exact cv9.add k
            have cvn : ∀ L3, wo here u ∉ (addE z.p (T0, u, wo here u) zs').map (·.p) → CovI (addE z.p (T0, u, wo here u) zs' ++ [⟨wo here u, L3, []⟩]) (qs' ++ [wo here u]) here (us.take i ++ [u]) := fun L3 k => by
              rw [kd] at k
              rw [ez]
              exact cv9.new hin9 k
            clear stc zl2 hAc
            generalize upd Hc z.L (.lst (z.es.map (fun e => V.ref e.1) ++ [V.ref T0])) = Hd at *
            generalize addE z.p (T0, u, wo here u) zs' = zs3 at *
            rw [← kd] at cin9 hin9
            have g3 := dget_t (p := wo here u) std.hW
            by_cases new : wo here u ∈ zs3.map (·.p)
            · obtain ⟨z3, _, _, gz3⟩ := std.at new
              rw [gz3] at g3
              refine ⟨_, rfl, _, rfl, W, _, rfl, g3, false, rfl, iteF ?_⟩
              exact ⟨zs3, qs', _, _, _, rfl, std.up (by omega), by omega, cin9, hin9, hAd, nAd, cva new⟩
            · have hn := dk_none (D := zsD zs3) (p := wo here u) (by rw [zsD_keys]; exact new)
              rw [hn] at g3
              refine ⟨_, rfl, _, rfl, W, _, rfl, g3, true, rfl, iteT ?_⟩
              have szl : (dk (zsD zs3)).length = zs3.length := by
                rw [dk_len]
                exact List.length_map ..
              refine ⟨by show 0 ≤ sizeLine; decide, fun L3 nL3 => ⟨_, rfl, _, rfl, W, _, rfl, .inl ⟨_, Sum.inr (tx (wo here u)), same_new nL3 _ _ std.hW, rfl, fitsLt (by rw [szl]; omega), rfl⟩, ?_⟩⟩
              obtain ⟨x1, ex1⟩ : ∃ x, wo here u = wo cs x := by
                rw [← ez0, ex0, wo_wo]
                exact ⟨_, rfl⟩
              have ste := std.new new ⟨x1, ex1⟩ nL3
              have A2W2 : A2 ≠ W := A2W
              have hAe : upd (upd Hd L3 (.lst [])) W (.dK (putK (dk (zsD zs3)) (Sum.inr (tx (wo here u))) (.ref L3))) A2 = some (.lst (tzs us)) := by
                rw [upd_ne A2W2]
                exact same_new nL3 _ _ hAd
              have A2L3 : A2 ≠ L3 := ne_of_none hAd nL3
              clear std g3
              generalize upd (upd Hd L3 (.lst [])) W (.dK (putK (dk (zsD zs3)) (Sum.inr (tx (wo here u))) (.ref L3))) = He at *
              have few4 := ste.few pat
              rw [List.length_append, List.length_singleton] at few4
              refine ⟨_, rfl, .inl ⟨rfl, _, SqL.of ste.hQ⟩, _, rfl, Qq, _, _, rfl, rfl, ste.hQ, fitsLt (by rw [tzr_ln]; omega), ?_⟩
              have eQ : tzs qs' ++ [V.str (tx (wo here u))] = tzs (qs' ++ [wo here u]) := by
                unfold tzs
                rw [List.map_append]
                rfl
              rw [eQ]
              have stf := ste.setQ (ps := qs' ++ [wo here u]) fun p hp => by
                rcases List.mem_append.mp hp with y | y
                · exact ste.qk p y
                · rw [List.mem_singleton.mp y, List.map_append]
                  exact List.mem_append_right _ (List.mem_singleton.mpr rfl)
              refine ⟨_, qs' ++ [wo here u], _, _, _, rfl, stf.up (by omega), ?_, by rw [List.map_append]; exact List.mem_append_left _ cin9, by rw [List.map_append]; exact List.mem_append_left _ hin9, by rw [upd_ne A2Q]; exact hAe, fun z' hz' => ?_, cvn L3 new⟩
              · rw [List.length_append, List.length_append, List.length_singleton, List.length_singleton]
                omega
              · rcases List.mem_append.mp hz' with y | y
                · exact nAd z' y
                · rw [List.mem_singleton.mp y]
                  exact A2L3
        · rintro σ H9 ⟨zs', qs', o5, o6, o7, rfl, st9, em9, cin9, _, _, _, cv9⟩
          rw [tzr_ln, List.take_length] at cv9
          exact ⟨zs', qs', _, _, _, _, _, rfl, st9.up (by rw [tzr_ln]; omega), em9, cin9, covE cv9⟩
    · have bl : 256 * (511 - m) ≤ 200000 := by omega
      exact ⟨_, rfl, q H3 W zs st1.s st1.nW ⟨st1.hW, st1.ok, st1.ndP, st1.sub, st1.val, fun z hz => Nat.le_trans (st1.len z hz) bl, few⟩ cin (by
        cases qs with
        | nil => exact cov.end
        | cons a r => exact absurd rfl cc)⟩
/-- _law_distances: which patterns lead to the empty one -/
structure Dst (zs : List Sc) (ks : List (List Nat)) : Prop where
  nd : ks.Nodup
  ok : ∀ p ∈ ks, p = [] ∨ ∃ z ∈ zs, z.p = p ∧ ∃ e ∈ z.es, e.2.2 ∈ ks
theorem nd_subN {α : Type} [DecidableEq α] : ∀ (a b : List α), a.Nodup → (∀ x ∈ a, x ∈ b) → a.length ≤ b.length
  | [], _, _, _ => Nat.zero_le _
  | x :: a, b, h, hs => by
    have h2 := List.nodup_cons.mp h
    have hx := hs x List.mem_cons_self
    have ih := nd_subN a (b.erase x) h2.2 fun y hy => (List.mem_erase_of_ne (fun e : y = x => h2.1 (e ▸ hy))).mpr (hs y (List.mem_cons_of_mem _ hy))
    rw [List.length_erase_of_mem hx] at ih
    have := List.length_pos_of_mem hx
    rw [List.length_cons]
    omega
theorem nd_subL {zs : List Sc} {F : List (List Nat × Int)} (h : Dst zs (F.map (·.1))) (few : zs.length ≤ 256) : F.length ≤ 257 := by
  have := nd_subN (F.map (·.1)) ([] :: zs.map (·.p)) h.nd fun p hp => by
    rcases h.ok p hp with e | ⟨z, hz, e, _⟩
    · rw [e]
      exact List.mem_cons_self
    · rw [← e]
      exact List.mem_cons_of_mem _ (List.mem_map.mpr ⟨z, hz, rfl⟩)
  rw [List.length_map, List.length_cons, List.length_map] at this
  omega
def spLDis : Sp := fun vs H Q _ => ∃ (cs : List Nat) (W : Addr) (zs : List Sc), vs = [.ref W] ∧ Pat cs ∧ Suc H cs W zs ∧ Clz zs ∧ ∀ H' D F, Same H H' → H D = none → H' D = some (.dK (dk (fD F))) → Dst zs (F.map (·.1)) → FOk F → (∀ z ∈ zs, FLow F zs.length z.p) → Q (.ref D) H'
theorem ok_ldis {k : Nat} (T : Txt K mg) : FnOk P w K mg base CX0 (k + 1) T.aLDistances T.dLDistances ["_law_successors"] spLDis := by
  refine T.fLDistances.ok scLDistances (fun vs H Q E h => ?_) (fun cdv A outer s H vs Q E hr h => ?_)
  · obtain ⟨_, _, _, rfl, _⟩ := h
    rfl
  · obtain ⟨cs, W, zs, rfl, pat, su, cz, q⟩ := h
    refine ⟨_, (pss_cons (ps_set (i := 1) scLDistances.nd rfl (Or.inr rfl) (pe_disp (pps_cons pe_str pe_int pps_nil) (by rfl) (by rfl) (fun z => by cases z) (by decide)))
      (pss_cons (ps_for PassesOwn.never rfl (pi_range1 (by rfl) T.m_range (pa_cons (pe_callB call_lenD (by rfl) T.m_len PySem.boot_len (pa_cons (pv 0) pa_nil)) pa_nil)) (pg_name (i := 2) scLDistances.nd rfl (Or.inl rfl)) (pss_one (ps_lock (ps_for PassesOwn.never rfl (pi_keys (pv 0)) (pg_name (i := 3) scLDistances.nd rfl (Or.inl rfl)) (pss_cons (ps_setLc (i := 4) (own := [("_law_letters", 5), ("_law_later", 6)]) (g := gTup K 2 (gCons (gName 5) (gCons (gName 6) gNil))) rfl scLDistances.nd rfl rfl (sw_true rfl rfl rfl (by decide +kernel)) (pi_list (pe_dget (Mo.room1 hr) (pv 0) (pv 3) (fun _ _ => rfl))) (blkOk_by (N := ["_law_successors", "_law_found", "_law_turn", "_law_here", "_law_counts", "_law_letters", "_law_later"]) (sc := defScope sLDistances) (by decide +kernel)) (fun _ _ _ _ _ => Mo.pg_tupK (K := K) rfl rfl (pgs_cons (pg_name (i := 5) scLDistances.nd rfl (Or.inl rfl)) (pgs_cons (pg_name (i := 6) scLDistances.nd rfl (Or.inl rfl)) pgs_nil))) (fun _ _ _ _ _ => pts_one (pt_cmp (pc_din (Mo.room1 hr) (pv 6) (pv 1)))) (fun _ _ _ _ _ => (pe_op op_add pe_int (pe_dget (Mo.room1 hr) (pv 1) (pv 6) (fun _ _ => rfl)))))
      (pss_one (ps_if (PW.pt (pw_and (pt_cmpR op_ne (pv 3) pe_str (nomark _)) (pw_and (pt_cmpR (Mo.op_neNil hr.units) (pv 4) (pe_lst pa_nil) (nomark _)) (pw_and1 (pt_cmpR op_lt (pe_callB (cr_min rfl) (by rfl) T.m_min (by decide +kernel) (pa_cons (pv 4) pa_nil)) (pe_dget2 (Mo.room1 hr) (pv 1) (pv 3) pe_int ⟨rfl, rfl, rfl, rfl⟩) (nomark _)))))) (pss_one (ps_dput (Mo.room1 hr) (pv 1) (pv 3) (pe_callB (cr_min rfl) (by rfl) T.m_min (by decide +kernel) (pa_cons (pv 4) pa_nil)) rfl)) pss_nil)))))))
      (pss_one (ps_ret (pv 1))))), ?_⟩
    have few := su.few
    intro Dd nD
    have sD := same_new (o := .dK []) nD
    refine ⟨upd_same, [(Sum.inr (Str.ofString ""), V.int 0)], rfl, by show 1 ≤ 15; decide, ?_⟩
    have e0 : mergeK [] [((Sum.inr (Str.ofString "") : Key), V.int 0)] = dk (fD [([], 0)]) := by
      show putK [] (Sum.inr (Str.ofString "") : Key) (V.int 0) = [((Sum.inr (tx []) : Key), V.int 0)]
      rw [tx_nil]
      rfl
    rw [e0]
    have s1 : Same H (upd (upd H Dd (.dK [])) Dd (.dK (dk (fD [([], 0)])))) := Same.put sD nD
    have hD1 := upd_same (H := upd H Dd (.dK [])) (a := Dd) (o := .dK (dk (fD [([], 0)])))
    generalize upd (upd H Dd (.dK [])) Dd (.dK (dk (fD [([], 0)]))) = H1 at *
    have zl : (dk (zsD zs)).length = zs.length := by
      rw [dk_len]
      exact List.length_map ..
    have DW : Dd ≠ W := (ne_of_none su.hW nD).symm
    refine ⟨_, rfl, W, _, rfl, s1 _ _ su.hW, _, rfl, by rw [zl]; omega, by rw [zl]; omega, for_range (lo := 0) (fun i σ H' => ∃ (F : List (List Nat × Int)) (o2 o3 o4 o5 o6 : Option V), σ = [some (.ref W), some (.ref Dd), o2, o3, o4, o5, o6] ∧ Same H H' ∧ H' Dd = some (.dK (dk (fD F))) ∧ Dst zs (F.map (·.1)) ∧ FSt F ∧ ∀ z ∈ zs, FLow F i z.p) ?_ ?_ ?_⟩
    · exact ⟨[([], 0)], _, _, _, _, _, rfl, s1, hD1, ⟨by simp, fun p hp => .inl (by simpa using hp)⟩, FSt.start, fun z _ => FLow.start⟩
    · rintro i σ H2 hi ⟨F, o2, o3, o4, o5, o6, rfl, s2, hD2, ds, fs, fl⟩
      refine ⟨W, _, s2 _ _ su.hW, trivial, fun od => ⟨_, rfl, W, od, rfl, .inl ⟨_, upd_same, ?_⟩⟩⟩
      have back : ∀ {H' : Hp}, Same (upd H W (.frz od (.dK (dk (zsD zs))))) H' → Same H (upd H' W (.dK (dk (zsD zs)))) := fun s => lock_samE su.hW s
      have s3 : Same (upd H W (.frz od (.dK (dk (zsD zs))))) (upd H2 W (.frz od (.dK (dk (zsD zs))))) := fun b o e => by
        by_cases h : b = W
        · subst h
          rw [upd_same] at e ⊢
          exact e
        · rw [upd_ne h] at e ⊢
          exact s2 b o e
      have hDz : upd H2 W (.frz od (.dK (dk (zsD zs)))) Dd = some (.dK (dk (fD F))) := by rw [upd_ne DW]; exact hD2
      have nDz : upd H W (.frz od (.dK (dk (zsD zs)))) Dd = none := by rw [upd_ne DW]; exact nD
      have frz0 : upd H W (.frz od (.dK (dk (zsD zs)))) W = some (.frz od (.dK (dk (zsD zs)))) := upd_same
      have okz : ∀ z ∈ zs, SOk (upd H W (.frz od (.dK (dk (zsD zs))))) z := fun z hz => (su.ok z hz).upd (fun e => by have := (su.ok z hz).hl; rw [← e, su.hW] at this; cases this) (fun xs e => by rw [su.hW] at e; cases e)
      generalize upd H2 W (.frz od (.dK (dk (zsD zs)))) = H3 at *
      generalize upd H W (.frz od (.dK (dk (zsD zs)))) = Hz at *
      refine for_it walk_keys (fun j σ H' => ∃ (F : List (List Nat × Int)) (o3 o4 o5 o6 : Option V), σ = [some (.ref W), some (.ref Dd), some (.int (0 + (i : Int))), o3, o4, o5, o6] ∧ Same Hz H' ∧ H' Dd = some (.dK (dk (fD F))) ∧ Dst zs (F.map (·.1)) ∧ FSt F ∧ (∀ z ∈ zs, FLow F i z.p) ∧ ∀ z ∈ zs.take j, FLow F (i + 1) z.p) ?_ ?_ ?_ ?_
      · exact ⟨F, _, _, _, _, rfl, s3, hDz, ds, fs, fl, fun z hz => absurd hz (by simp)⟩
      · rintro j σ H' _ ⟨_, _, _, _, _, _, s, _⟩
        exact s _ _ frz0
      · rintro j x σ H4' H4 hj ⟨F, o3, o4, o5, o6, rfl, s4, hD4, ds4, fs4, fl4, fm4⟩ ⟨rfl, kk, vv, hkv, rfl⟩
        obtain ⟨z, hz, rfl, rfl⟩ : ∃ z, zs[j]? = some z ∧ kk = Sum.inr (tx z.p) ∧ vv = .ref z.L := by
          unfold dk zsD at hkv
          rw [List.getElem?_map, List.getElem?_map] at hkv
          cases e : zs[j]? with
          | none => rw [e] at hkv; cases hkv
          | some z =>
            rw [e] at hkv
            obtain ⟨h1, h2⟩ := Prod.mk.inj (Option.some.inj hkv)
            exact ⟨z, rfl, h1.symm, h2.symm⟩
        have zm := List.mem_of_getElem? hz
        have tkz : zs.take (j + 1) = zs.take j ++ [z] := by rw [List.take_add_one, hz]; rfl
        have ekeys : ∀ e ∈ z.es, ∃ z' ∈ zs, z'.p = e.2.2 := fun e he => List.mem_map.mp (cz.cl z zm e he)
        have low4 : ∀ e ∈ z.es, FLow F i e.2.2 := fun e he => by
          obtain ⟨z', hz', ez'⟩ := ekeys e he
          rw [← ez']
          exact fl4 z' hz'
        have elen : ∀ e ∈ z.es, ∀ v, (e.2.2, v) ∈ F → 0 ≤ v ∧ v ≤ 8 := fun e he v hv => by
          obtain ⟨z', hz', ez'⟩ := ekeys e he
          obtain ⟨x', ex'⟩ := su.sub z' hz'
          have pe : Pat e.2.2 := by
            rw [← ez', ex']
            exact wo_pat pat
          obtain ⟨w', h1, h2⟩ := fs4.ok _ hv
          have h3 := h1.len
          have h4 := pe.few
          have h2 : v = ((w'.length : Nat) : Int) := h2
          have h3 : w'.length ≤ (met e.2.2).length := h3
          omega
        have g := dget_r (p := z.p) (.inr ⟨od, s4 _ _ frz0⟩)
        rw [zsD_get su.ndP zm] at g
        have okh := (okz z zm).same s4
        have zlen := su.len z zm
        refine ⟨_, rfl, _, rfl, W, _, rfl, g, z.L, rfl, ⟨_, SqL.of okh.hl⟩, fun C nC => lc_it (walk_list (xs := z.es.map fun e => V.ref e.1)) (fun n H' => Same H4 H' ∧ ∃ cl : List Int, H' C = some (.lst (cl.map V.int)) ∧ cl.length ≤ n ∧ (∀ x ∈ cl, ∃ e ∈ z.es, ∃ v, (e.2.2, v) ∈ F ∧ x = 1 + v) ∧ ∀ e ∈ z.es.take n, ∀ v, (e.2.2, v) ∈ F → 1 + v ∈ cl) ?_ ?_ ?_ ?_⟩
        · exact ⟨same_new nC, [], upd_same, Nat.le_refl _, fun x hx => absurd hx (by simp), fun e he => absurd he (by simp)⟩
        · exact fun n H' _ h => SqL.of (h.1 _ _ okh.hl)
        · rintro n x H5' H5 hn ⟨s5, cl, hC, cll, clp, clq⟩ ⟨rfl, hx⟩
          rw [List.length_map] at hn
          rw [List.getElem?_map] at hx
          obtain ⟨e, he, rfl⟩ := Option.map_eq_some_iff.mp hx
          have em := List.mem_of_getElem? he
          have tke : z.es.take (n + 1) = z.es.take n ++ [e] := by rw [List.take_add_one, he]; rfl
          have ht := s5 _ _ (okh.ht e em)
          refine ⟨e.1, _, rfl, SqT.of ht, rfl, _, _, rfl, _, _, rfl, rfl, rfl, ?_⟩
          have hD5 := s5 _ _ hD4
          have g5 := dget_t (p := e.2.2) hD5
          rcases fD_get2 F e.2.2 with ⟨h1, h2⟩ | ⟨v, h1, h2⟩
          · rw [h1] at g5
            refine ⟨_, rfl, _, rfl, Dd, _, rfl, g5, false, rfl, iteF ⟨s5, cl, hC, by omega, clp, fun e' he' v' hv' => ?_⟩⟩
            rw [tke] at he'
            rcases List.mem_append.mp he' with y | y
            · exact clq e' y v' hv'
            · rw [List.mem_singleton.mp y] at hv'
              exact absurd (List.mem_map.mpr ⟨_, hv', rfl⟩) h2
          · rw [h1] at g5
            refine ⟨_, rfl, _, rfl, Dd, _, rfl, g5, true, rfl, iteT ⟨_, rfl, _, rfl, Dd, _, rfl, g5, 1, v, rfl, rfl, _, hC, ?_, ?_⟩⟩
            · rw [List.length_map, sizeLine_eq]
              omega
            · refine ⟨Same.put s5 nC, cl ++ [1 + v], ?_, ?_, ?_, fun e' he' v' hv' => ?_⟩
              · rw [upd_same, List.map_append]
                rfl
              · rw [List.length_append]
                show _ + 1 ≤ _
                omega
              · intro x hx
                rcases List.mem_append.mp hx with y | y
                · exact clp x y
                · exact ⟨e, em, v, h2, List.mem_singleton.mp y⟩
              · rw [tke] at he'
                rcases List.mem_append.mp he' with y | y
                · exact List.mem_append_left _ (clq e' y v' hv')
                · rw [List.mem_singleton.mp y] at hv'
                  rw [fD_one ds4.nd hv' h2]
                  exact List.mem_append_right _ (List.mem_singleton.mpr rfl)
        rintro H5 ⟨s5, cl, hC, cll, clp, clq⟩
        rw [List.length_map] at cll clq
        rw [List.take_length] at clq
        have s45 := s4.trans s5
        have hD5 := s5 _ _ hD4
        have stay : FLow F (i + 1) z.p → ∀ {H' : Hp} {o3 o4 o5 o6 : Option V}, Same Hz H' → H' Dd = some (.dK (dk (fD F))) → ∃ (F : List (List Nat × Int)) (o3' o4' o5' o6' : Option V), [some (V.ref W), some (.ref Dd), some (.int (0 + (i : Int))), o3, o4, o5, o6] = [some (V.ref W), some (.ref Dd), some (.int (0 + (i : Int))), o3', o4', o5', o6'] ∧ Same Hz H' ∧ H' Dd = some (.dK (dk (fD F))) ∧ Dst zs (F.map (·.1)) ∧ FSt F ∧ (∀ z ∈ zs, FLow F i z.p) ∧ ∀ z ∈ zs.take (j + 1), FLow F (i + 1) z.p := fun hl {H' o3 o4 o5 o6} a b => ⟨F, _, _, _, _, rfl, a, b, ds4, fs4, fl4, fun z' hz' => by
          rw [tkz] at hz'
          rcases List.mem_append.mp hz' with y | y
          · exact fm4 z' y
          · rw [List.mem_singleton.mp y]
            exact hl⟩
        refine ⟨_, rfl, rfl, _, rfl, ite2 (fun e1 => ?_) (fun e1 => stay (by
          have zn : z.p = [] := by
            by_cases y : z.p = []
            · exact y
            · refine absurd ?_ e1
              show (!decide (V.str (tx z.p) = V.str (Str.ofString ""))) = true
              rw [decide_eq_false fun e => y (tx_inj ((V.str.inj e).trans tx_nil))]
              rfl
          rw [zn]
          exact FLow.nil fs4.ok fs4.nil) s45 hD5)⟩
        have zne : z.p ≠ [] := fun y => by
          rw [y, tx_nil] at e1
          simp at e1
          exact e1 rfl
        refine ⟨_, rfl, Nat.zero_le _, fun l0 nl0 => ?_⟩
        have sl := same_new (o := .lst []) nl0
        have hC6 := sl _ _ hC
        have hD6 := sl _ _ hD5
        have s46 := s45.trans sl
        refine ⟨C, l0, _, rfl, rfl, SqL.of hC6, SqL.of upd_same, _, rfl, ?_⟩
        clear hC hD5 sl
        generalize upd H5 l0 (.lst []) = H6 at *
        refine ite2 (fun e2 => ?_) (fun e2 => stay (FLow.step (cz.fl z zm) zne low4 fun e he v hv => by
          have m := clq e he v hv
          cases cl with
          | nil => cases m
          | cons a r => exact absurd rfl e2) s46 hD6)
        have cne : cl ≠ [] := fun z => by rw [z] at e2; cases e2
        have cpos : 0 < (cl.length) := List.length_pos_iff.mpr cne
        refine ⟨_, rfl, C, cl, rfl, SqL.of hC6, cpos, fun mn hmn lmn => ?_⟩
        obtain ⟨e0, he0, v0, hv0, emn⟩ := clp mn hmn
        have l0 := elen e0 he0 v0 hv0
        have g6 := dget_t (p := z.p) hD6
        obtain ⟨v, hv, hvF⟩ : ∃ v : Int, (valV (dk (fD F)) (Sum.inr (tx z.p))).getD (.int 99) = .int v ∧ ((z.p, v) ∈ F ∨ (v = 99 ∧ z.p ∉ F.map (·.1))) := by
          rcases fD_get2 F z.p with ⟨h1, h2⟩ | ⟨v, h1, h2⟩
          · exact ⟨99, by rw [h1]; rfl, .inr ⟨rfl, h2⟩⟩
          · exact ⟨v, by rw [h1]; rfl, .inl h2⟩
        refine ⟨_, rfl, Dd, rfl, .inl ⟨_, .inl hD6⟩, _, rfl, _, g6, mn, v, rfl, hv, _, rfl, ite2 (fun e3 => ?_) (fun e3 => stay (by
          have nlt : ¬ mn < v := fun y => e3 (decide_eq_true y)
          rcases hvF with y | ⟨y, _⟩
          · exact FLow.step (cz.fl z zm) zne low4 fun e he u hu => ⟨v, y, by
              have := lmn _ (clq e he u hu)
              omega⟩
          · omega) s46 hD6)⟩
        have lt : mn < v := of_decide_eq_true e3
        refine ⟨_, rfl, C, cl, rfl, SqL.of hC6, cpos, fun mn2 hmn2 lmn2 => ?_⟩
        have emn2 : mn2 = mn := by
          have h1 := lmn2 mn hmn
          have h2 := lmn mn2 hmn2
          omega
        subst emn2
        obtain ⟨F', hF, kF, inF, oldF, keepF⟩ := fD_put2 F z.p mn2
        have fl : (dk (fD F)).length = F.length := by
          rw [dk_len]
          exact List.length_map ..
        have flen : F.length ≤ 257 := by
          have := nd_subL ds4 few
          exact this
        refine ⟨_, rfl, _, rfl, Dd, _, rfl, .inl ⟨_, Sum.inr (tx z.p), hD6, rfl, fitsLt (by rw [fl]; omega), rfl⟩, ?_⟩
        rw [hF]
        have fle : FLe F F' := FLe.put ds4.nd (fun u hu => by
          rcases hvF with y | ⟨_, y⟩
          · have := fD_one ds4.nd y hu
            omega
          · exact absurd (List.mem_map.mpr ⟨_, hu, rfl⟩) y) inF keepF
        have ok' : FOk F' := fs4.ok.put (by
          obtain ⟨w', h1, h2⟩ := fs4.ok _ hv0
          obtain ⟨a1, a2, a3, a4, a5⟩ := su.val z zm e0 he0
          have h1 : Steps e0.2.2 w' [] := h1
          rw [a5] at h1
          have h2 : v0 = ((w'.length : Nat) : Int) := h2
          exact ⟨e0.2.1 :: w', steps_cons a1 a2 a3 a4 h1, by rw [emn, h2, List.length_cons]; omega⟩) oldF
        have stepz : FLow F' (i + 1) z.p := FLow.step (cz.fl z zm) zne (fun e he => (low4 e he).le fle) fun e he u hu => by
          rcases oldF _ hu with y | ⟨y, _⟩
          · refine ⟨mn2, inF, ?_⟩
            have : u = mn2 := (Prod.mk.inj y).2
            omega
          · refine ⟨mn2, inF, ?_⟩
            have := lmn _ (clq e he u y)
            omega
        refine ⟨F', _, _, _, _, rfl, Same.put s46 nDz, upd_same, ?_, ⟨ok', ?_⟩, fun z' hz' => (fl4 z' hz').le fle, fun z' hz' => ?_⟩
        · rw [kF]
          by_cases hk : z.p ∈ F.map (·.1)
          · rw [if_pos hk]
            exact ds4
          · rw [if_neg hk]
            refine ⟨List.nodup_append.mpr ⟨ds4.nd, by simp, fun a ha b hb eab => hk (by rw [← List.mem_singleton.mp hb, ← eab]; exact ha)⟩, fun p hp => ?_⟩
            rcases List.mem_append.mp hp with y | y
            · rcases ds4.ok p y with h | ⟨z', h1, h2, e', h3, h4⟩
              · exact .inl h
              · exact .inr ⟨z', h1, h2, e', h3, List.mem_append_left _ h4⟩
            · exact .inr ⟨z, zm, (List.mem_singleton.mp y).symm, e0, he0, List.mem_append_left _ (List.mem_map.mpr ⟨_, hv0, rfl⟩)⟩
        · obtain ⟨u, hu⟩ := fs4.nil
          obtain ⟨u', hu', _⟩ := fle.le _ _ hu
          exact ⟨u', hu'⟩
        · rw [tkz] at hz'
          rcases List.mem_append.mp hz' with y | y
          · exact (fm4 z' y).le fle
          · rw [List.mem_singleton.mp y]
            exact stepz
      · rintro σ H4 ⟨F, o3, o4, o5, o6, rfl, s4, hD4, ds4, fs4, _, fm4⟩
        rw [zl, List.take_length] at fm4
        exact ⟨s4 _ _ frz0, F, _, _, _, _, _, rfl, back s4, by rw [upd_ne DW]; exact hD4, ds4, fs4, fm4⟩
    · rintro σ H2 ⟨F, o2, o3, o4, o5, o6, rfl, s2, hD2, ds, fs, fl⟩
      have e : (((dk (zsD zs)).length : Nat) : Int).toNat = zs.length := by rw [zl]; rfl
      rw [e] at fl
      exact ⟨_, rfl, q H2 Dd F s2 nD hD2 ds fs.ok fl⟩
end
end Mo

set_option pp.maxSteps 300
namespace Mo
open PySem PySem.Spec PyProof.Rows L2
theorem abc_pat {p : List Nat} {n : Nat} (hn : n ≤ 8) (h : ∀ c ∈ p, c ∈ abc n) (hl : p.length ≤ 40) : Pat p :=
  ⟨hl, fun c hc => by have := mem_abc.mp (h c hc); omega, by have := met_le h; omega⟩
section
variable {P : Program} {w : World} {K : PySem.W.Frag} {mg : Str → Option Value} {base : Heap}
/-- longer_by_one -/
def spLon : Sp := fun vs H Q _ => ∃ (p : List Nat) (n : Nat), vs = [.str (tx p), .str (tx (abc n))] ∧ n ≤ 3 ∧ (∀ c ∈ p, c ∈ abc n) ∧ p.length ≤ 8 ∧
  ∀ H' l, Same H H' → H l = none → H' l = some (.lst (tzs (((abc n).map fun c => p ++ [c]).filter upB))) → Q (.ref l) H'
theorem ok_lon {k : Nat} (T : Txt K mg) : FnOk P w K mg base CX0 (k + 9) T.aLongerByOne T.dLongerByOne ["pattern", "names"] spLon := by
  have GNormal : FnOk P w K mg base CX0 (k + 8) T.aNormal T.dNormal ["pattern"] spNormal := ok_normal T
  have GIsAvoidable : FnOk P w K mg base CX0 (k + 8) T.aIsAvoidable T.dIsAvoidable ["pattern"] spAvoid := ok_avoid T
  refine T.fLongerByOne.ok scLongerByOne (fun vs H Q E h => ?_) (fun cdv A outer s H vs Q E hr h => ?_)
  · obtain ⟨_, _, rfl, _⟩ := h
    rfl
  · obtain ⟨p, n, rfl, hn, ha, hl, q⟩ := h
    refine ⟨_, (pss_cons (ps_setLc (i := 2) (own := [("name", 3)]) (g := gName 3) (tt := tYes) rfl scLongerByOne.nd rfl rfl (sw_true rfl rfl rfl (by decide +kernel)) (pi_str (pv 1)) (blkOk_by (N := ["pattern", "names", "longer", "name", "each"]) (sc := defScope sLongerByOne) (by decide +kernel)) (fun _ _ _ _ _ => pg_name (i := 3) scLongerByOne.nd rfl (Or.inl rfl)) (fun _ _ _ _ _ => pts_nil) (fun _ _ _ _ _ => (pe_op op_add_str (pv 0) (pv 3))))
      (pss_one (ps_ret (pe_lc (own := [("each", 4)]) (g := gName 4) rfl scLongerByOne.nd (pi_list (pv 2)) (blkOk_by (N := ["pattern", "names", "longer", "name", "each"]) (sc := defScope sLongerByOne) (by decide +kernel)) (fun _ _ _ _ _ => pg_name (i := 4) scLongerByOne.nd rfl (Or.inl rfl)) (fun _ _ _ _ _ => pts_one (PW.pt (pw_and (pt_cmpR op_eq (pe_call GNormal hr (by rfl) T.gNormal T.fNormal.kp T.bNormal .nil pass0 (pa_cons (pv 4) pa_nil)) (pv 4) (nomark _)) (pw_and1 (pt_not (pt_val (pe_call GIsAvoidable hr (by rfl) T.gIsAvoidable T.fIsAvoidable.kp T.bIsAvoidable .nil pass0 (pa_cons (pv 4) pa_nil)))))))) (fun _ _ _ _ _ => (pv 4)))))), ?_⟩
    refine ⟨_, rfl, tx (abc n), rfl, fun D nD => lc_it walk_str (fun i H' => Same H H' ∧ H' D = some (.lst (tzs (((abc n).take i).map fun c => p ++ [c])))) ?_ ?_ ?_ ?_⟩
    · exact ⟨same_new nD, upd_same⟩
    · exact fun _ _ _ _ => trivial
    · rintro i x H2 H3 hi ⟨s2, hD⟩ ⟨rfl, c, hc, rfl⟩
      rw [tx_get] at hc
      refine ⟨rfl, _, rfl, _, rfl, _, _, rfl, rfl, fits5 (by rw [tx_len]; show _ + 1 ≤ _; omega), ?_⟩
      rw [tx_app1]
      refine ⟨_, hD, fitsLt (by rw [tzr_ln, List.length_map, List.length_take, abc_len]; omega), Same.put s2 nD, ?_⟩
      rw [upd_same, List.take_add_one, hc]
      unfold tzs
      rw [List.map_append, List.map_append]
      rfl
    · rintro H2 ⟨s2, hD⟩
      rw [List.take_of_length_le (by rw [tx_size]; exact Nat.le_refl _)] at hD
      generalize hL : (abc n).map (fun c => p ++ [c]) = L at *
      have hLm : ∀ e ∈ L, (∀ c ∈ e, c ∈ abc n) ∧ e.length ≤ 9 := fun e he => by
        rw [← hL] at he
        obtain ⟨c, hc, rfl⟩ := List.mem_map.mp he
        refine ⟨fun x hx => ?_, by rw [List.length_append]; show _ + 1 ≤ _; omega⟩
        rcases List.mem_append.mp hx with y | y
        · exact ha x y
        · rw [List.mem_singleton.mp y]
          exact hc
      have hLl : L.length ≤ 3 := by rw [← hL, List.length_map, abc_len]; exact hn
      refine ⟨_, rfl, D, rfl, ⟨_, SqL.of hD⟩, fun D2 nD2 => lc_it (walk_list (xs := tzs L)) (fun i H' => Same H2 H' ∧ H' D2 = some (.lst (tzs ((L.take i).filter upB)))) ?_ ?_ ?_ ?_⟩
      · exact ⟨same_new nD2, upd_same⟩
      · exact fun i H' _ h => SqL.of (h.1 _ _ hD)
      · rintro i x H3' H3 hi ⟨s3, hD2⟩ ⟨rfl, hx⟩
        obtain ⟨e, he, rfl⟩ := tzr_gt hx
        obtain ⟨ea, el⟩ := hLm e (List.mem_of_getElem? he)
        have pe : Pat e := abc_pat (by omega) ea (by omega)
        refine ⟨rfl, _, rfl, e, rfl, pe, fun H4 s4 => ?_⟩
        have tk : L.take (i + 1) = L.take i ++ [e] := by rw [List.take_add_one, he]; rfl
        rw [tk, List.filter_append]
        have put : ∀ {H' : Hp}, Same H3 H' → upB e = true → Same H2 (upd H' D2 (.lst (tzs ((L.take i).filter upB) ++ [.str (tx e)]))) ∧ upd H' D2 (.lst (tzs ((L.take i).filter upB) ++ [.str (tx e)])) D2 = some (.lst (tzs ((L.take i).filter upB ++ [e].filter upB))) := fun {H'} s' u => by
          refine ⟨Same.put (s3.trans s') nD2, ?_⟩
          rw [upd_same, List.filter_cons_of_pos u]
          unfold tzs
          rw [List.map_append]
          rfl
        have skip : ∀ {H' : Hp}, Same H3 H' → upB e ≠ true → Same H2 H' ∧ H' D2 = some (.lst (tzs ((L.take i).filter upB ++ [e].filter upB))) := fun {H'} s' u => by
          refine ⟨s3.trans s', ?_⟩
          rw [List.filter_cons_of_neg u, List.filter_nil, List.append_nil]
          exact s' _ _ hD2
        by_cases z : nf e = e
        · refine ⟨_, rfl, rfl, true, congrArg V.bl (decide_eq_true (by rw [z])), ?_⟩
          refine ⟨_, rfl, e, rfl, pe, fun H5 Z s5 en => ?_⟩
          have hm := una_met en.way
          by_cases u : Una e
          · refine ⟨_, congrArg V.bl (decide_eq_false (fun y => y (hm.mpr u))), ?_⟩
            refine ⟨_, rfl, _, (s4.trans s5) _ _ hD2, fitsLt (by rw [tzr_ln]; have := List.length_filter_le upB (L.take i); rw [List.length_take] at this; omega), put (s4.trans s5) (upB_iff.mpr ⟨z, u⟩)⟩
          · refine ⟨_, congrArg V.bl (decide_eq_true (fun y => u (hm.mp y))), ?_⟩
            exact skip (s4.trans s5) fun y => u (upB_iff.mp y).2
        · refine ⟨_, rfl, rfl, false, congrArg V.bl (decide_eq_false fun y => z (tx_inj (V.str.inj y))), ?_⟩
          exact skip s4 fun u => z (upB_iff.mp u).1
      · rintro H3 ⟨s3, hD2⟩
        rw [tzr_ln, List.take_length] at hD2
        exact q H3 D2 (s2.trans s3) (s2.free nD2) hD2
theorem abc_cut {n : Nat} (h : n ≤ 3) : cutS (Str.ofString "abcdefghijklmnopqrstuvwxyz") none (some ((n : Nat) : Int)) = tx (abc n) := by
  have : n = 0 ∨ n = 1 ∨ n = 2 ∨ n = 3 := by omega
  rcases this with rfl | rfl | rfl | rfl <;> decide +kernel
/-- unavoidable_patterns -/
def spUps (C : Addr) : Sp := fun vs H Q E =>
  (∃ n : Nat, vs = [.int ((n : Nat) : Int)] ∧ n ≤ 3 ∧ ∀ H' l, Same H H' → H l = none → H' l = some (.lst (tzs (fdN n 8))) → Q (.ref l) H') ∨
  (∃ (N : Addr → Prop) (x : V) (d : PyData), vs = [x] ∧ Dx N H x d ∧ d.bulk ≤ 1000000 ∧ cntB 0 3 d = false ∧ ∀ dd H', H dd = none → Same H H' → H' dd = some (.xd [("value", x)]) → E (.ref C) (some dd) H')
theorem ok_ups {k : Nat} (T : Txt K mg) : FnOk P w K mg base (L2.CX P w) (k + 10) T.aUnavoidablePatterns T.dUnavoidablePatterns ["count"] (spUps T.cInvalidCount) := by
  have GCheckCount : FnOk P w K mg base (L2.CX P w) (k + 9) T.aCheckCount T.dCheckCount ["value", "least", "most"] (spCnt T.cInvalidCount) := ok_cntX T
  have GVariables : FnOk P w K mg base CX0 (k + 9) T.aVariables T.dVariables ["pattern"] spVars := ok_vars T
  have GLongerByOne : FnOk P w K mg base CX0 (k + 9) T.aLongerByOne T.dLongerByOne ["pattern", "names"] spLon := ok_lon T
  refine T.fUnavoidablePatterns.okX scUnavoidablePatterns (fun vs H Q E h => ?_) (fun cdv A outer s H vs Q E hr h => ?_)
  · rcases h with ⟨_, rfl, _⟩ | ⟨_, _, _, rfl, _⟩ <;> rfl
  · have hu := hu_of hr
    refine ⟨_, (pss_cons (ps_expr (pe_call GCheckCount hr (by rfl) T.gCheckCount T.fCheckCount.kp T.bCheckCount .nil (passes_call (takes_of rfl rfl rfl rfl) (fun _ _ _ _ h => h)) (pa_cons (pv 0) (pa_cons pe_int (pa_cons (pe_glob (v := .int 3) rfl T.m_MOST_LISTED ⟨_, rfl⟩) pa_nil)))))
      (pss_cons (ps_set (i := 1) scUnavoidablePatterns.nd rfl (Or.inr rfl) (pe_slice sl_str (pe_glob (v := .str "abcdefghijklmnopqrstuvwxyz") rfl T.m_VARIABLES ⟨_, rfl⟩) po_none (po_some (pv 0))))
      (pss_cons (ps_set (i := 2) scUnavoidablePatterns.nd rfl (Or.inl rfl) (pe_lst pa_nil))
      (pss_cons (ps_set (i := 3) scUnavoidablePatterns.nd rfl (Or.inl rfl) (pe_lst (pa_cons pe_str pa_nil)))
      (pss_cons (ps_while (passes_of rfl) (pt_truth (pv 3) (fun _ => rfl)) (pss_cons (ps_aug (i := 2) scUnavoidablePatterns.nd rfl (Or.inl rfl) (pe_lc (own := [("pattern", 4)]) (g := gName 4) rfl scUnavoidablePatterns.nd (pi_list (pv 3)) (blkOk_by (N := ["count", "names", "found", "level", "pattern", "longer"]) (sc := defScope sUnavoidablePatterns) (by decide +kernel)) (fun _ _ _ _ _ => pg_name (i := 4) scUnavoidablePatterns.nd rfl (Or.inl rfl)) (fun _ _ _ _ _ => pts_one (pt_cmpR op_eq (pe_callB call_len_str (by rfl) T.m_len PySem.boot_len (pa_cons (pe_call GVariables hr (by rfl) T.gVariables T.fVariables.kp T.bVariables .nil pass0 (pa_cons (pv 4) pa_nil)) pa_nil)) (pv 0) (nomark _))) (fun _ _ _ _ _ => (pv 4))) Mo.ip_cat)
      (pss_one (ps_setLc2 (i := 3) (own := [("pattern", 4), ("longer", 5)]) (vs1 := [5]) (g := gName 4) (g1 := gName 5) (tt := tYes) (tt1 := tYes) rfl scUnavoidablePatterns.nd rfl rfl (sw_true rfl rfl rfl (by decide +kernel)) (pi_list (pv 3)) (blkOk_by (N := ["count", "names", "found", "level", "pattern", "longer"]) (sc := defScope sUnavoidablePatterns) (by decide +kernel)) (by decide) (fun _ _ _ _ _ => pg_name (i := 4) scUnavoidablePatterns.nd rfl (Or.inl rfl)) (fun _ _ _ _ _ => pts_nil) (fun _ _ _ _ _ => (Mo.pi_listK (K := K) rfl (pe_call GLongerByOne hr (by rfl) T.gLongerByOne T.fLongerByOne.kp T.bLongerByOne .nil pass0 (pa_cons (pv 4) (pa_cons (pv 1) pa_nil))))) (fun _ _ _ _ _ => pg_name (i := 5) scUnavoidablePatterns.nd rfl (Or.inl rfl)) (fun _ _ _ _ _ => pts_nil) (fun _ _ _ _ _ => (pv 5))))))
      (pss_one (ps_ret (pv 2)))))))), ?_⟩
    rcases h with ⟨n, rfl, hn, q⟩ | ⟨N, x, d, rfl, hd, hb, hc, q⟩
    · have cb : cntB 0 3 (.int ((n : Nat) : Int)) = true := by
        show (decide ((0 : Int) ≤ (n : Int)) && decide ((n : Int) ≤ 3)) = true
        rw [decide_eq_true (by omega), decide_eq_true (by omega)]
        rfl
      refine ⟨_, rfl, (fun _ => False), .int ((n : Nat) : Int), .int ((n : Nat) : Int), 0, 3, rfl, .int _, by simp [PyData.bulk], fun _ H1 s1 => ?_, fun z => absurd (z.symm.trans cb) (by simp)⟩
      refine ⟨_, rfl, ((n : Nat) : Int), rfl, ?_⟩
      dsimp only [tNoPart]
      refine ⟨_, rfl, by show 26 ≤ sizeLine; decide, ?_⟩
      rw [abc_cut hn]
      refine ⟨by show 0 ≤ sizeLine; decide, fun F nF => ?_⟩
      have sF := same_new (o := .lst []) nF
      refine ⟨by show 1 ≤ sizeLine; decide, fun L nL => ?_⟩
      have sL := same_new (o := .lst [V.str (Str.ofString "")]) nL
      have hL : upd (upd H1 F (.lst [])) L (.lst [V.str (Str.ofString "")]) L = some (.lst (tzs (lvN n 0))) := by
        rw [upd_same]
        show some (HO.lst [V.str (Str.ofString "")]) = some (HO.lst [V.str (tx [])])
        rw [tx_nil]
      have hF : upd (upd H1 F (.lst [])) L (.lst [V.str (Str.ofString "")]) F = some (.lst (tzs (fdN n 0))) := sL _ _ upd_same
      have s2 := s1.trans (sF.trans sL)
      have nFH : H F = none := s1.free nF
      generalize upd (upd H1 F (.lst [])) L (.lst [V.str (Str.ofString "")]) = H2 at *
      refine ⟨fun m σ H' => ∃ (k : Nat) (L : Addr) (o4 o5 : Option V), σ = [some (.int ((n : Nat) : Int)), some (.str (tx (abc n))), some (.ref F), some (.ref L), o4, o5] ∧ m = 8 - k ∧ k ≤ 8 ∧ Same H H' ∧ H' F = some (.lst (tzs (fdN n k))) ∧ H' L = some (.lst (tzs (lvN n k))) ∧ L ≠ F, ⟨8, 0, L, _, _, rfl, rfl, by omega, s2, hF, hL, fun z => by rw [z, upd_same] at nL; cases nL⟩, ?_⟩
      rintro m σ H3 ⟨k, L, o4, o5, rfl, rfl, k8, s3, hF3, hL3, LF⟩
      refine ⟨_, rfl, _, .inl ⟨_, SqL.of hL3, rfl⟩, ite2 (fun cc => ?_) (fun cc => ?_)⟩
      · have lne : lvN n k ≠ [] := fun z => by rw [z] at cc; cases cc
        obtain ⟨p0, hp0⟩ := List.exists_mem_of_ne_nil _ lne
        have kk := lv_short hp0
        have pw : 2 ^ n ≤ 2 ^ 3 := Nat.pow_le_pow_right (by decide) hn
        have few := lv_few (k := k) hn
        have fl := fd_len hn k
        refine ⟨fun σ' H' => ∃ (k' : Nat) (L : Addr) (o4 o5 : Option V), σ' = [some (.int ((n : Nat) : Int)), some (.str (tx (abc n))), some (.ref F), some (.ref L), o4, o5] ∧ k' = k + 1 ∧ Same H H' ∧ H' F = some (.lst (tzs (fdN n k'))) ∧ H' L = some (.lst (tzs (lvN n k'))) ∧ L ≠ F, ?_, ?_⟩
        · rintro σ' H' ⟨k', L', a4, a5, h1, rfl, h3, h4, h5, h6⟩
          exact ⟨_, by omega, k + 1, L', _, _, h1, rfl, by omega, h3, h4, h5, h6⟩
        have pats : ∀ {i : Nat} {p : List Nat}, (lvN n k)[i]? = some p → (∀ c ∈ p, c ∈ abc n) ∧ p.length ≤ 8 ∧ Pat p := fun {i p} h => by
          obtain ⟨l, a, _, _⟩ := lv_mem.mp (List.mem_of_getElem? h)
          exact ⟨a, by omega, abc_pat (by omega) a (by omega)⟩
        refine ⟨_, rfl, _, rfl, L, rfl, ⟨_, SqL.of hL3⟩, fun D nD => lc_it (walk_list (xs := tzs (lvN n k))) (fun i H' => Same H3 H' ∧ H' D = some (.lst (tzs (((lvN n k).take i).filter fun p => decide ((met p).length = n))))) ?_ ?_ ?_ ?_⟩
        · exact ⟨same_new nD, upd_same⟩
        · exact fun i H' _ h => SqL.of (h.1 _ _ hL3)
        · rintro i x H4' H4 hi ⟨s4, hD⟩ ⟨rfl, hx⟩
          obtain ⟨p, hp, rfl⟩ := tzr_gt hx
          obtain ⟨pa, pl, pp⟩ := pats hp
          have il : i < (lvN n k).length := (List.getElem?_eq_some_iff.mp hp).1
          have tk : (lvN n k).take (i + 1) = (lvN n k).take i ++ [p] := by rw [List.take_add_one, hp]; rfl
          rw [tk, List.filter_append]
          refine ⟨rfl, _, rfl, p, rfl, pp, fun H5 s5 => ?_⟩
          refine ⟨tx (met p), rfl, fits5 (by rw [tx_len]; have := pp.few; omega), ?_⟩
          rw [tx_len]
          have fle := List.length_filter_le (fun p => decide ((met p).length = n)) ((lvN n k).take i)
          rw [List.length_take] at fle
          by_cases z : (met p).length = n
          · refine ⟨_, rfl, rfl, true, congrArg V.bl (decide_eq_true (by rw [z])), ?_⟩
            refine ⟨_, rfl, _, s5 _ _ hD, fitsLt (by rw [tzr_ln]; omega), Same.put (s4.trans s5) nD, ?_⟩
            have e1 : [p].filter (fun p => decide ((met p).length = n)) = [p] := by simp [z]
            rw [upd_same, e1]
            unfold tzs
            rw [List.map_append]
            rfl
          · refine ⟨_, rfl, rfl, false, congrArg V.bl (decide_eq_false fun y => z (by have := V.int.inj y; omega)), ?_⟩
            refine ⟨s4.trans s5, ?_⟩
            have e1 : [p].filter (fun p => decide ((met p).length = n)) = [] := by simp [z]
            rw [e1, List.append_nil]
            exact s5 _ _ hD
        · rintro H4 ⟨s4, hD⟩
          rw [tzr_ln, List.take_length] at hD
          have fle := List.length_filter_le (fun p => decide ((met p).length = n)) (lvN n k)
          refine ⟨F, D, _, _, rfl, rfl, s4 _ _ hF3, hD, by rw [tzr_ln, tzr_ln, sizeLine_eq]; omega, ?_⟩
          have eF : tzs (fdN n k) ++ tzs ((lvN n k).filter fun p => decide ((met p).length = n)) = tzs (fdN n (k + 1)) := by
            rw [fdN_succ]
            unfold tzs
            rw [List.map_append]
          rw [eF]
          have FD : F ≠ L := fun z => LF z.symm
          have hF5 := upd_same (H := H4) (a := F) (o := .lst (tzs (fdN n (k + 1))))
          have hL5 : upd H4 F (.lst (tzs (fdN n (k + 1)))) L = some (.lst (tzs (lvN n k))) := by
            rw [upd_ne LF]
            exact s4 _ _ hL3
          have s5 : Same H (upd H4 F (.lst (tzs (fdN n (k + 1))))) := Same.put (s3.trans s4) nFH
          generalize upd H4 F (.lst (tzs (fdN n (k + 1)))) = H5 at *
          clear hF3 hL3 hD s4
          refine ⟨_, rfl, L, rfl, ⟨_, SqL.of hL5⟩, fun D2 nD2 => turns_it (walk_list (xs := tzs (lvN n k))) (fun i H' => Same H5 H' ∧ H' D2 = some (.lst (tzs (((lvN n k).take i).flatMap fun p => ((abc n).map fun c => p ++ [c]).filter upB)))) ?_ ?_ ?_ ?_⟩
          · exact ⟨same_new nD2, upd_same⟩
          · exact fun i H' _ h => SqL.of (h.1 _ _ hL5)
          · rintro i x H6' H6 hi ⟨s6, hD2⟩ ⟨rfl, hx⟩
            obtain ⟨p, hp, rfl⟩ := tzr_gt hx
            obtain ⟨pa, pl, pp⟩ := pats hp
            have tk : (lvN n k).take (i + 1) = (lvN n k).take i ++ [p] := by rw [List.take_add_one, hp]; rfl
            have tot : (((lvN n k).take i).flatMap fun p => ((abc n).map fun c => p ++ [c]).filter upB).length + (((abc n).map fun c => p ++ [c]).filter upB).length ≤ 2187 := by
              have e1 : lvN n (k + 1) = ((lvN n k).take i).flatMap (fun p => ((abc n).map fun c => p ++ [c]).filter upB) ++ (((abc n).map fun c => p ++ [c]).filter upB ++ ((lvN n k).drop (i + 1)).flatMap fun p => ((abc n).map fun c => p ++ [c]).filter upB) := by
                show (lvN n k).flatMap _ = _
                conv => lhs; rw [← List.take_append_drop (i + 1) (lvN n k), tk, List.flatMap_append, List.flatMap_append]
                rw [List.append_assoc]
                congr 1
                simp
              have h1 := lv_few (k := k + 1) hn
              rw [e1, List.length_append, List.length_append] at h1
              omega
            rw [tk, List.flatMap_append]
            refine ⟨rfl, _, rfl, _, rfl, p, n, rfl, hn, pa, pl, fun H7 l7 s7 nl7 hl7 => ?_⟩
            have D7 : l7 ≠ D2 := fun z => by rw [z, hD2] at nl7; cases nl7
            have es1 : [p].flatMap (fun p => ((abc n).map fun c => p ++ [c]).filter upB) = ((abc n).map fun c => p ++ [c]).filter upB := by simp
            rw [es1]
            generalize ((abc n).map fun c => p ++ [c]).filter upB = es at *
            refine ⟨l7, rfl, ⟨_, SqL.of hl7⟩, turns_it (walk_list (xs := tzs es)) (fun j H' => Same H5 H' ∧ H' D2 = some (.lst (tzs (((lvN n k).take i).flatMap (fun p => ((abc n).map fun c => p ++ [c]).filter upB) ++ es.take j))) ∧ H' l7 = some (.lst (tzs es))) ?_ ?_ ?_ ?_⟩
            · exact ⟨s6.trans s7, by rw [List.take_zero, List.append_nil]; exact s7 _ _ hD2, hl7⟩
            · exact fun _ _ _ h => SqL.of h.2.2
            · rintro j x H8' H8 hj ⟨s8, hD8, hl8⟩ ⟨rfl, hx⟩
              obtain ⟨e, he, rfl⟩ := tzr_gt hx
              have tk2 : es.take (j + 1) = es.take j ++ [e] := by rw [List.take_add_one, he]; rfl
              rw [tzr_ln] at hj
              refine ⟨rfl, _, rfl, _, hD8, fitsLt (by rw [tzr_ln, List.length_append, List.length_take]; omega), Same.put s8 nD2, ?_, by rw [upd_ne D7]; exact hl8⟩
              rw [upd_same, tk2, ← List.append_assoc]
              unfold tzs
              rw [List.map_append (l₂ := [e])]
              rfl
            · rintro H8 ⟨s8, hD8, _⟩
              rw [tzr_ln, List.take_length] at hD8
              exact ⟨s8, hD8⟩
          · rintro H6 ⟨s6, hD2⟩
            rw [tzr_ln, List.take_length] at hD2
            exact ⟨k + 1, D2, _, _, rfl, rfl, s5.trans s6, s6 _ _ hF5, hD2, fun z => by rw [z, hF5] at nD2; cases nD2⟩
      · have e : lvN n k = [] := by
          cases h : lvN n k with
          | nil => rfl
          | cons a r => rw [h] at cc; exact absurd rfl cc
        refine ⟨_, rfl, q H3 F s3 nFH ?_⟩
        rw [fd_stop e 8 k8]
        exact hF3
    · refine ⟨_, rfl, N, x, d, 0, 3, rfl, hd, hb, fun z => absurd (z.symm.trans hc) (by simp), fun _ dd H' nd s hdx => q dd H' nd s hdx⟩
end
end Mo

set_option pp.maxSteps 300
namespace Mo
open PySem PySem.Spec PyProof.Rows L2
section
variable {P : Program} {w : World} {K : PySem.W.Frag} {mg : Str → Option Value} {base : Heap}
/-- _law_fewest: how many steps a pattern asks for at least, or None -/
def spFew : Sp := fun vs H Q _ => ∃ cs, vs = [.str (tx cs)] ∧ Pat cs ∧ (∀ H', Same H H' → (∀ w, ¬ Steps cs w []) → Q .non H') ∧
  ∀ H' w, Same H H' → Steps cs w [] → (∀ v, Steps cs v [] → w.length ≤ v.length) → Q (.int ((w.length : Nat) : Int)) H'
theorem ok_few {k : Nat} (T : Txt K mg) : FnOk P w K mg base CX0 (k + 4) T.aLFewest T.dLFewest ["_law_pattern_here"] spFew := by
  have GLReached : FnOk P w K mg base CX0 (k + 3) T.aLReached T.dLReached ["_law_pattern_here"] spLRea := ok_lrea T
  have GLDistances : FnOk P w K mg base CX0 (k + 3) T.aLDistances T.dLDistances ["_law_successors"] spLDis := ok_ldis T
  refine T.fLFewest.ok scLFewest (fun vs H Q E h => ?_) (fun cdv A outer s H vs Q E hr h => ?_)
  · obtain ⟨_, rfl, _⟩ := h
    rfl
  · obtain ⟨cs, rfl, pat, qn, ql⟩ := h
    refine ⟨_, (pss_one (ps_ret (pe_ifExp (pt_cmpR op_ne (pv 0) pe_str (nomark _)) (pe_dget1 (Mo.room1 hr) (pe_call GLDistances hr (by rfl) T.gLDistances T.fLDistances.kp T.bLDistances .nil pass0 (pa_cons (pe_call GLReached hr (by rfl) T.gLReached T.fLReached.kp T.bLReached .nil pass0 (pa_cons (pv 0) pa_nil)) pa_nil)) (pv 0) ⟨rfl, rfl, rfl, rfl⟩) pe_int))), ?_⟩
    refine ⟨_, rfl, rfl, _, rfl, ?_⟩
    by_cases z : cs = []
    · subst z
      rw [show (!decide (V.str (tx []) = V.str (Str.ofString ""))) = false by rw [tx_nil]; simp]
      exact iteF (ql H [] (.refl _) .nil fun v _ => Nat.zero_le _)
    · rw [show (!decide (V.str (tx cs) = V.str (Str.ofString ""))) = true by rw [decide_eq_false fun e => z (tx_inj ((V.str.inj e).trans tx_nil))]; rfl]
      refine iteT ⟨_, rfl, cs, rfl, pat, fun H1 W zs s1 nW su cin cz => ⟨cs, W, zs, rfl, pat, su, cz, fun H2 D F s2 nD hD ds ok low => ?_⟩⟩
      have g := dget_t (p := cs) hD
      obtain ⟨zc, hzc, ezc⟩ := List.mem_map.mp cin
      have low1 : ∀ w, Steps cs w [] → ∃ v, (cs, v) ∈ F ∧ v ≤ ((w.length : Nat) : Int) := fun w hw => by
        have := low zc hzc
        rw [ezc] at this
        exact this w hw (by have := clz_len cz hw cin; omega)
      refine ⟨D, rfl, .inl ⟨_, .inl hD⟩, _, rfl, _, g, ?_⟩
      rcases fD_get2 F cs with ⟨h1, h2⟩ | ⟨v, h1, h2⟩
      · rw [h1]
        exact qn H2 (s1.trans s2) fun w hw => by
          obtain ⟨v, hv, _⟩ := low1 w hw
          exact h2 (List.mem_map.mpr ⟨_, hv, rfl⟩)
      · rw [h1]
        obtain ⟨w, hw, ew⟩ := ok _ h2
        have ew : v = ((w.length : Nat) : Int) := ew
        rw [ew] at h2 ⊢
        refine ql H2 w (s1.trans s2) hw fun u hu => ?_
        obtain ⟨v2, hv2, le⟩ := low1 u hu
        have := fD_one ds.nd h2 hv2
        omega
end
end Mo

/-! ### the law's own way through the levels: the same lists -/
namespace Mo
open PySem PySem.Spec PyProof.Rows L2
theorem lt_app {x y : List Nat} : ∀ {a b : List Nat}, a.length = b.length → a < b → a ++ x < b ++ y
  | [], [], _, h => absurd h (List.lt_irrefl _)
  | a :: as, b :: bs, l, h => by
    rw [List.cons_append, List.cons_append]
    rw [List.cons_lt_cons_iff] at h ⊢
    rcases h with h | ⟨rfl, h⟩
    · exact .inl h
    · exact .inr ⟨rfl, lt_app (Nat.succ.inj l) h⟩
theorem lt_end {c d : Nat} (h : c < d) : ∀ p : List Nat, p ++ [c] < p ++ [d]
  | [] => by
    show [c] < [d]
    rw [List.cons_lt_cons_iff]
    exact .inl h
  | a :: r => by
    rw [List.cons_append, List.cons_append, List.cons_lt_cons_iff]
    exact .inr ⟨rfl, lt_end h r⟩
theorem lt_let {a b : List Nat} (h : a < b) : LeT a b := by
  unfold LeT sltB
  rw [tx_list, tx_list]
  exact decide_eq_false (List.lt_asymm h)
theorem abc_asc (n : Nat) : (abc n).Pairwise (· < ·) := List.Pairwise.map _ (fun a b h => by omega) List.pairwise_lt_range
theorem lv_asc (n : Nat) : ∀ k, (lvN n k).Pairwise (· < ·)
  | 0 => List.pairwise_singleton _ _
  | k + 1 => by
    show ((lvN n k).flatMap _).Pairwise _
    rw [List.pairwise_flatMap]
    refine ⟨fun p hp => ?_, ?_⟩
    · exact (List.Pairwise.map (fun c => p ++ [c]) (fun c d h => lt_end h p) (abc_asc n)).filter _
    · refine (lv_asc n k).imp_of_mem fun {a b} ha hb h x hx y hy => ?_
      obtain ⟨c, _, rfl⟩ := List.mem_map.mp (List.mem_filter.mp hx).1
      obtain ⟨d, _, rfl⟩ := List.mem_map.mp (List.mem_filter.mp hy).1
      exact lt_app ((lv_mem.mp ha).1.trans (lv_mem.mp hb).1.symm) h
open Classical in
noncomputable def unaB (e : List Nat) : Bool := decide (Una e)
open Classical in
theorem unaB_iff {e : List Nat} : unaB e = true ↔ Una e := by
  unfold unaB
  exact decide_eq_true_iff
theorem abc_filter (n j : Nat) : (abc n).filter (fun c => decide (c ∈ abc j)) = abc (min n j) := by
  induction n with
  | zero => rw [Nat.zero_min]; rfl
  | succ n ih =>
    rw [abc_succ, List.filter_append, ih]
    by_cases z : n < j
    · rw [show min (n + 1) j = min n j + 1 by omega, abc_succ, show min n j = n by omega]
      congr 1
      rw [List.filter_cons_of_pos (by simp only [decide_eq_true_eq]; exact mem_abc.mpr ⟨by omega, by omega⟩)]
      rfl
    · rw [show min (n + 1) j = min n j by omega, List.filter_cons_of_neg (by simp only [decide_eq_true_eq]; exact fun y => by have := mem_abc.mp y; omega)]
      simp
/-- the law's letters give the same -/
theorem lv_same {n : Nat} {p : List Nat} (h : nf p = p) : ((abc (min n ((met p).length + 1))).map fun c => p ++ [c]).filter unaB = ((abc n).map fun c => p ++ [c]).filter upB := by
  rw [List.filter_map, List.filter_map, ← abc_filter, List.filter_filter]
  congr 1
  refine List.filter_congr fun c _ => ?_
  show (unaB (p ++ [c]) && decide (c ∈ abc ((met p).length + 1))) = upB (p ++ [c])
  rw [Bool.eq_iff_iff, Bool.and_eq_true, upB_iff, unaB_iff, decide_eq_true_iff, nf_snoc h]
  exact and_comm
theorem lv_sort {n k : Nat} {ls : List (List Nat)} (p : ls.Perm (lvN n k)) (o : ls.Pairwise LeT) : ls = lvN n k :=
  List.Perm.eq_of_pairwise (fun a b _ _ h k => h.anti k) o ((lv_asc n k).imp fun h => lt_let h) p
end Mo

set_option pp.maxSteps 300
namespace Mo
open PySem PySem.Spec PyProof.Rows L2
theorem cr_setSP {X : Cx} {P : Program} {w : World} (h1 : X.prog = P) (h2 : X.w = w) (hc : X.calm = true) : CallR X (.type "set") (rSetS P w) := by
  subst h1 h2
  exact cr_setS hc
theorem cr_lenKP {X : Cx} {P : Program} {w : World} (h1 : X.prog = P) (h2 : X.w = w) : CallR X (.builtin "len") (rLenK P w) := by
  subst h1 h2
  exact cr_lenK
section
variable {P : Program} {w : World} {K : PySem.W.Frag} {mg : Str → Option Value} {base : Heap}
theorem abc_cut3 {n : Nat} (h : n ≤ 3) : cutS (Str.ofString "abc") none (some ((n : Nat) : Int)) = tx (abc n) := by
  have : n = 0 ∨ n = 1 ∨ n = 2 ∨ n = 3 := by omega
  rcases this with rfl | rfl | rfl | rfl <;> decide +kernel
/-- _law_listed -/
def spLst : Sp := fun vs H Q _ => ∃ n : Nat, vs = [.int ((n : Nat) : Int)] ∧ n ≤ 3 ∧ ∀ H' l, Same H H' → H l = none → H' l = some (.lst (tzs (fdN n 8))) → Q (.ref l) H'
theorem ok_lst {k : Nat} (T : Txt K mg) : FnOk P w K mg base CX0 (k + 5) T.aLListed T.dLListed ["_law_count"] spLst := by
  have GLFewest : FnOk P w K mg base CX0 (k + 4) T.aLFewest T.dLFewest ["_law_pattern_here"] spFew := ok_few T
  refine T.fLListed.ok scLListed (fun vs H Q E h => ?_) (fun cdv A outer s H vs Q E hr h => ?_)
  · obtain ⟨_, rfl, _⟩ := h
    rfl
  · obtain ⟨n, rfl, hn, q⟩ := h
    refine ⟨_, (pss_cons (ps_par (i := 1) (j := 2) (by rfl) scLListed.nd rfl rfl (by decide) rfl rfl (pa_cons (pe_lst pa_nil) (pa_cons (pe_lst (pa_cons pe_str pa_nil)) pa_nil)) (by rfl))
      (pss_cons (ps_while PassesOwn.never (pt_cmpR (Mo.op_neNil hr.units) (pv 2) (pe_lst pa_nil) (nomark _)) (pss_cons (ps_expr (pe_bm PySem.F.plainAttrs_list PySem.F.slot_list_extend PySem.F.type_list_extend mt_extend (pv 1) (pa_cons (pe_lc (own := [("_law_pattern_here", 4)]) (g := gName 4) rfl scLListed.nd (pi_list (pv 2)) (blkOk_by (N := ["_law_count", "_law_found", "_law_level", "_law_later", "_law_pattern_here", "_law_name"]) (sc := defScope sLListed) (by decide +kernel)) (fun _ _ _ _ _ => pg_name (i := 4) scLListed.nd rfl (Or.inl rfl)) (fun _ _ _ _ _ => pts_one (pt_cmpR op_eq (pe_callB (Mo.cr_lenKP (P := P) (w := w) rfl rfl) (by rfl) T.m_len PySem.boot_len (pa_cons (pe_callTy (Mo.cr_setSP (P := P) (w := w) rfl rfl rfl) (by rfl) T.m_set (by decide +kernel) (pa_cons (pv 4) pa_nil)) pa_nil)) (pv 0) (nomark _))) (fun _ _ _ _ _ => (pv 4))) pa_nil)))
      (pss_cons (ps_set (i := 3) scLListed.nd rfl (Or.inl rfl) (pe_lst pa_nil))
      (pss_cons (ps_for PassesOwn.never rfl (pi_list (pv 2)) (pg_name (i := 4) scLListed.nd rfl (Or.inl rfl)) (pss_one (ps_for PassesOwn.never rfl (pi_str (pe_slice sl_str pe_str po_none (po_some (pe_callB (call_min2 rfl) (by rfl) T.m_min (by decide +kernel) (pa_cons (pv 0) (pa_cons (pe_op op_add (pe_callB (Mo.cr_lenKP (P := P) (w := w) rfl rfl) (by rfl) T.m_len PySem.boot_len (pa_cons (pe_callTy (Mo.cr_setSP (P := P) (w := w) rfl rfl rfl) (by rfl) T.m_set (by decide +kernel) (pa_cons (pv 4) pa_nil)) pa_nil)) pe_int) pa_nil)))))) (pg_name (i := 5) scLListed.nd rfl (Or.inl rfl)) (pss_one (ps_if (pt_cmpR op_notN (pe_call GLFewest hr (by rfl) T.gLFewest T.fLFewest.kp T.bLFewest .nil pass0 (pa_cons (pe_op op_add_str (pv 4) (pv 5)) pa_nil)) pe_non (nomark _)) (pss_one (ps_expr (pe_bm PySem.F.plainAttrs_list PySem.F.slot_list_append PySem.F.type_list_append mt_append (pv 3) (pa_cons (pe_op op_add_str (pv 4) (pv 5)) pa_nil)))) pss_nil)))))
      (pss_one (ps_set (i := 2) scLListed.nd rfl (Or.inl rfl) (pe_callB Mo.cr_sortStr (by rfl) T.m_sorted (by decide +kernel) (pa_cons (pv 3) pa_nil))))))))
      (pss_one (ps_ret (pv 1))))), ?_⟩
    refine ⟨by show 0 ≤ sizeLine; decide, fun F nF => ?_⟩
    have sF := same_new (o := .lst []) nF
    refine ⟨by show 1 ≤ sizeLine; decide, fun L nL => ?_⟩
    have sL := same_new (o := .lst [V.str (Str.ofString "")]) nL
    have hL : upd (upd H F (.lst [])) L (.lst [V.str (Str.ofString "")]) L = some (.lst (tzs (lvN n 0))) := by
      rw [upd_same]
      show some (HO.lst [V.str (Str.ofString "")]) = some (HO.lst [V.str (tx [])])
      rw [tx_nil]
    have hF : upd (upd H F (.lst [])) L (.lst [V.str (Str.ofString "")]) F = some (.lst (tzs (fdN n 0))) := sL _ _ upd_same
    have s2 := sF.trans sL
    have LF : L ≠ F := fun z => by rw [z, upd_same] at nL; cases nL
    generalize upd (upd H F (.lst [])) L (.lst [V.str (Str.ofString "")]) = H2 at *
    refine ⟨_, _, rfl, ?_⟩
    refine ⟨fun m σ H' => ∃ (k : Nat) (L : Addr) (o3 o4 o5 : Option V), σ = [some (.int ((n : Nat) : Int)), some (.ref F), some (.ref L), o3, o4, o5] ∧ m = 8 - k ∧ k ≤ 8 ∧ Same H H' ∧ H' F = some (.lst (tzs (fdN n k))) ∧ H' L = some (.lst (tzs (lvN n k))) ∧ L ≠ F, ⟨8, 0, L, _, _, _, rfl, rfl, by omega, s2, hF, hL, LF⟩, ?_⟩
    rintro m σ H3 ⟨k, L, o3, o4, o5, rfl, rfl, k8, s3, hF3, hL3, LF⟩
    refine ⟨_, rfl, Nat.zero_le _, fun e0 ne0 => ?_⟩
    have se := same_new (o := .lst []) ne0
    refine ⟨L, e0, _, rfl, rfl, SqL.of (se _ _ hL3), SqL.of upd_same, _, rfl, ?_⟩
    have s4 := s3.trans se
    have hF4 := se _ _ hF3
    have hL4 := se _ _ hL3
    have nFH : H F = none := nF
    clear se s3 hF3 hL3 ne0
    generalize upd H3 e0 (.lst []) = H4 at *
    refine ite2 (fun cc => ?_) (fun cc => ?_)
    · have lne : lvN n k ≠ [] := fun z => by rw [z] at cc; cases cc
      obtain ⟨p0, hp0⟩ := List.exists_mem_of_ne_nil _ lne
      have kk := lv_short hp0
      have pw : 2 ^ n ≤ 2 ^ 3 := Nat.pow_le_pow_right (by decide) hn
      have few := lv_few (k := k) hn
      have few2 := lv_few (k := k + 1) hn
      have fl := fd_len hn k
      have pats : ∀ {i : Nat} {p : List Nat}, (lvN n k)[i]? = some p → (∀ c ∈ p, c ∈ abc n) ∧ p.length ≤ 8 ∧ Pat p ∧ nf p = p := fun {i p} h => by
        obtain ⟨l, a, f, _⟩ := lv_mem.mp (List.mem_of_getElem? h)
        exact ⟨a, by omega, abc_pat (by omega) a (by omega), f⟩
      refine ⟨fun σ' H' => ∃ (k' : Nat) (L : Addr) (o3 o4 o5 : Option V), σ' = [some (.int ((n : Nat) : Int)), some (.ref F), some (.ref L), o3, o4, o5] ∧ k' = k + 1 ∧ Same H H' ∧ H' F = some (.lst (tzs (fdN n k'))) ∧ H' L = some (.lst (tzs (lvN n k'))) ∧ L ≠ F, ?_, ?_⟩
      · rintro σ' H' ⟨k', L', a3, a4, a5, h1, rfl, h3, h4, h5, h6⟩
        exact ⟨_, by omega, k + 1, L', _, _, _, h1, rfl, by omega, h3, h4, h5, h6⟩
      refine ⟨_, rfl, .inl ⟨rfl, _, SqL.of hF4⟩, ?_⟩
      refine ⟨_, rfl, L, rfl, ⟨_, SqL.of hL4⟩, fun D nD => lc_it (walk_list (xs := tzs (lvN n k))) (fun i H' => Same H4 H' ∧ H' D = some (.lst (tzs (((lvN n k).take i).filter fun p => decide ((met p).length = n))))) ?_ ?_ ?_ ?_⟩
      · exact ⟨same_new nD, upd_same⟩
      · exact fun i H' _ h => SqL.of (h.1 _ _ hL4)
      · rintro i x H5' H5 hi ⟨s5, hD⟩ ⟨rfl, hx⟩
        obtain ⟨p, hp, rfl⟩ := tzr_gt hx
        obtain ⟨pa, pl, pp, _⟩ := pats hp
        have il : i < (lvN n k).length := (List.getElem?_eq_some_iff.mp hp).1
        have tk : (lvN n k).take (i + 1) = (lvN n k).take i ++ [p] := by rw [List.take_add_one, hp]; rfl
        rw [tk, List.filter_append]
        refine ⟨rfl, _, rfl, tx p, rfl, by rw [tx_size]; omega, fun S nS => ?_⟩
        have sS := same_new (o := SetK P w S (inS (tx p).cps.toList) (met (tx p).cps.toList).length) nS
        have hml : (met (tx p).cps.toList).length = (met p).length := by rw [tx_list]
        have pf := pp.few
        refine ⟨S, _, _, rfl, upd_same, by rw [hml]; omega, ?_⟩
        rw [hml]
        have fle := List.length_filter_le (fun p => decide ((met p).length = n)) ((lvN n k).take i)
        rw [List.length_take] at fle
        by_cases z : (met p).length = n
        · refine ⟨_, rfl, rfl, true, congrArg V.bl (decide_eq_true (by rw [z])), ?_⟩
          refine ⟨_, rfl, _, sS _ _ hD, fitsLt (by rw [tzr_ln]; omega), Same.put (s5.trans sS) nD, ?_⟩
          have e1 : [p].filter (fun p => decide ((met p).length = n)) = [p] := by simp [z]
          rw [upd_same, e1]
          unfold tzs
          rw [List.map_append]
          rfl
        · refine ⟨_, rfl, rfl, false, congrArg V.bl (decide_eq_false fun y => z (by have := V.int.inj y; omega)), ?_⟩
          refine ⟨s5.trans sS, ?_⟩
          have e1 : [p].filter (fun p => decide ((met p).length = n)) = [] := by simp [z]
          rw [e1, List.append_nil]
          exact sS _ _ hD
      rintro H5 ⟨s5, hD⟩
      rw [tzr_ln, List.take_length] at hD
      have fle := List.length_filter_le (fun p => decide ((met p).length = n)) (lvN n k)
      refine ⟨F, D, _, _, rfl, rfl, s5 _ _ hF4, hD, by rw [tzr_ln, tzr_ln, sizeLine_eq]; omega, ?_⟩
      have eF : tzs (fdN n k) ++ tzs ((lvN n k).filter fun p => decide ((met p).length = n)) = tzs (fdN n (k + 1)) := by
        rw [fdN_succ]
        unfold tzs
        rw [List.map_append]
      rw [eF]
      have hF6 := upd_same (H := H5) (a := F) (o := .lst (tzs (fdN n (k + 1))))
      have hL6 : upd H5 F (.lst (tzs (fdN n (k + 1)))) L = some (.lst (tzs (lvN n k))) := by
        rw [upd_ne LF]
        exact s5 _ _ hL4
      have s6 : Same H (upd H5 F (.lst (tzs (fdN n (k + 1))))) := Same.put (s4.trans s5) nFH
      generalize upd H5 F (.lst (tzs (fdN n (k + 1)))) = H6 at *
      clear hF4 hL4 hD s5 s4
      refine ⟨by show 0 ≤ sizeLine; decide, fun A nA => ?_⟩
      have sA := same_new (o := .lst []) nA
      have hA := upd_same (H := H6) (a := A) (o := .lst [])
      have hL7 := sA _ _ hL6
      have AH : H A = none := s6.free nA
      have AL : A ≠ L := fun z => by rw [z, hL6] at nA; cases nA
      refine ⟨_, rfl, L, rfl, ⟨_, SqL.of hL7⟩, for_it (walk_list (xs := tzs (lvN n k))) (fun i σ H' => ∃ (o4 o5 : Option V), σ = [some (.int ((n : Nat) : Int)), some (.ref F), some (.ref L), some (.ref A), o4, o5] ∧ Same H6 H' ∧ H' A = some (.lst (tzs (((lvN n k).take i).flatMap fun p => ((abc (min n ((met p).length + 1))).map fun c => p ++ [c]).filter unaB)))) ?_ ?_ ?_ ?_⟩
      · exact ⟨_, _, rfl, sA, hA⟩
      · rintro i σ H' _ ⟨_, _, _, s7, _⟩
        exact SqL.of (s7 _ _ hL6)
      · rintro i x σ H7' H7 hi ⟨o4, o5, rfl, s7, hA7⟩ ⟨rfl, hx⟩
        obtain ⟨p, hp, rfl⟩ := tzr_gt hx
        obtain ⟨pa, pl, pp, pn⟩ := pats hp
        have tk : (lvN n k).take (i + 1) = (lvN n k).take i ++ [p] := by rw [List.take_add_one, hp]; rfl
        rw [tk, List.flatMap_append]
        have tot : (((lvN n k).take i).flatMap fun p => ((abc (min n ((met p).length + 1))).map fun c => p ++ [c]).filter unaB).length ≤ 2187 := by
          have e1 : lvN n (k + 1) = ((lvN n k).take i).flatMap (fun p => ((abc (min n ((met p).length + 1))).map fun c => p ++ [c]).filter unaB) ++ ((lvN n k).drop i).flatMap fun p => ((abc n).map fun c => p ++ [c]).filter upB := by
            show (lvN n k).flatMap _ = _
            conv => lhs; rw [← List.take_append_drop i (lvN n k), List.flatMap_append]
            congr 1
            rw [List.flatMap_def, List.flatMap_def]
            exact congrArg List.flatten (List.map_congr_left fun p hp => (lv_same (lv_mem.mp (List.mem_of_mem_take hp)).2.2.1).symm)
          rw [e1, List.length_append] at few2
          omega
        have es1 : [p].flatMap (fun p => ((abc (min n ((met p).length + 1))).map fun c => p ++ [c]).filter unaB) = ((abc (min n ((met p).length + 1))).map fun c => p ++ [c]).filter unaB := by simp
        rw [es1]
        generalize ((lvN n k).take i).flatMap (fun p => ((abc (min n ((met p).length + 1))).map fun c => p ++ [c]).filter unaB) = pre at *
        refine ⟨_, rfl, _, rfl, tx p, rfl, by rw [tx_size]; omega, fun S nS => ?_⟩
        have sS := same_new (o := SetK P w S (inS (tx p).cps.toList) (met (tx p).cps.toList).length) nS
        have hml : (met (tx p).cps.toList).length = (met p).length := by rw [tx_list]
        have pf := pp.few
        refine ⟨S, _, _, rfl, upd_same, by rw [hml]; omega, ?_⟩
        rw [hml]
        have mn : (if (((met p).length : Nat) : Int) + 1 < ((n : Nat) : Int) then (((met p).length : Nat) : Int) + 1 else ((n : Nat) : Int)) = ((min n ((met p).length + 1) : Nat) : Int) := by
          split <;> omega
        refine ⟨_, _, rfl, rfl, _, _, rfl, ?_⟩
        rw [mn]
        have M3 : min n ((met p).length + 1) ≤ 3 := by omega
        have Mn : min n ((met p).length + 1) ≤ n := by omega
        refine ⟨_, rfl, _, rfl, by show 3 ≤ sizeLine; decide, ?_⟩
        rw [abc_cut3 M3]
        generalize min n ((met p).length + 1) = M at *
        have s7S := s7.trans sS
        have hA8 := sS _ _ hA7
        refine ⟨tx (abc M), rfl, for_it walk_str (fun j σ H' => ∃ (o5 : Option V), σ = [some (.int ((n : Nat) : Int)), some (.ref F), some (.ref L), some (.ref A), some (.str (tx p)), o5] ∧ Same H6 H' ∧ H' A = some (.lst (tzs (pre ++ (((abc M).take j).map fun c => p ++ [c]).filter unaB)))) ?_ ?_ ?_ ?_⟩
        · exact ⟨_, rfl, s7S, by rw [List.take_zero, List.map_nil, List.filter_nil, List.append_nil]; exact hA8⟩
        · exact fun _ _ _ _ _ => trivial
        · rintro j x σ H8' H8 hj ⟨o5, rfl, s8, hA9⟩ ⟨rfl, c, hc, rfl⟩
          rw [tx_get] at hc
          have cm := List.mem_of_getElem? hc
          have jM : j < M := by
            have := (List.getElem?_eq_some_iff.mp hc).1
            rwa [abc_len] at this
          have ea : ∀ x ∈ p ++ [c], x ∈ abc n := fun x hx => by
            rcases List.mem_append.mp hx with y | y
            · exact pa x y
            · rw [List.mem_singleton.mp y]
              have := mem_abc.mp cm
              exact mem_abc.mpr ⟨this.1, by omega⟩
          have el : (p ++ [c]).length ≤ 9 := by rw [List.length_append]; show _ + 1 ≤ _; omega
          have pe : Pat (p ++ [c]) := abc_pat (by omega) ea (by omega)
          have tk2 : (abc M).take (j + 1) = (abc M).take j ++ [c] := by rw [List.take_add_one, hc]; rfl
          have flj : ((((abc M).take j).map fun c => p ++ [c]).filter unaB).length ≤ 3 := by
            have := List.length_filter_le unaB (((abc M).take j).map fun c => p ++ [c])
            rw [List.length_map, List.length_take] at this
            omega
          rw [tk2, List.map_append, List.filter_append, ← List.append_assoc]
          refine ⟨_, rfl, _, rfl, _, _, rfl, rfl, fits5 (by rw [tx_len]; show _ + 1 ≤ _; omega), ?_⟩
          rw [tx_app1]
          refine ⟨p ++ [c], rfl, pe, fun Ha sa no => ?_, fun Ha u sa hw few => ?_⟩
          · have nu : ¬ Una (p ++ [c]) := fun y => by
              obtain ⟨w, hw⟩ := una_steps y
              exact no w hw
            refine ⟨rfl, false, congrArg V.bl (by simp), iteF ⟨_, rfl, s8.trans sa, ?_⟩⟩
            have e1 : ([c].map fun c => p ++ [c]).filter unaB = [] := by
              rw [List.map_singleton, List.filter_cons_of_neg (fun y => nu (unaB_iff.mp y)), List.filter_nil]
            rw [e1, List.append_nil]
            exact sa _ _ hA9
          · have yu : Una (p ++ [c]) := steps_una hw
            refine ⟨rfl, true, congrArg V.bl (by simp), iteT ?_⟩
            have hAa := sa _ _ hA9
            refine ⟨_, rfl, .inl ⟨rfl, _, SqL.of hAa⟩, _, rfl, _, rfl, _, _, rfl, rfl, fits5 (by rw [tx_len]; show _ + 1 ≤ _; omega), ?_⟩
            rw [tx_app1]
            refine ⟨A, _, _, rfl, rfl, hAa, fitsLt (by rw [tzr_ln, List.length_append]; omega), ?_⟩
            refine ⟨_, rfl, Same.put (s8.trans sa) nA, ?_⟩
            have e1 : ([c].map fun c => p ++ [c]).filter unaB = [p ++ [c]] := by
              rw [List.map_singleton, List.filter_cons_of_pos (unaB_iff.mpr yu), List.filter_nil]
            rw [upd_same, e1]
            unfold tzs
            rw [List.map_append (l₂ := [p ++ [c]])]
            rfl
        · rintro σ H8 ⟨o5, rfl, s8, hA9⟩
          rw [tx_size, List.take_length] at hA9
          exact ⟨_, _, rfl, s8, hA9⟩
      · rintro σ H7 ⟨o4, o5, rfl, s7, hA7⟩
        have eL : (lvN n k).flatMap (fun p => ((abc (min n ((met p).length + 1))).map fun c => p ++ [c]).filter unaB) = lvN n (k + 1) := by
          show _ = (lvN n k).flatMap _
          rw [List.flatMap_def, List.flatMap_def]
          exact congrArg List.flatten (List.map_congr_left fun p hp => lv_same (lv_mem.mp hp).2.2.1)
        rw [tzr_ln, List.take_length, eL] at hA7
        refine ⟨_, rfl, ?_⟩
        dsimp only [tNil]
        refine sortStr_of (SqL.of hA7) fun ls p1 pm ord np => ?_
        obtain rfl := lv_sort pm ord
        have sp := same_new (o := .lst (tzs (lvN n (k + 1)))) np
        exact ⟨k + 1, p1, _, _, _, rfl, rfl, s6.trans (s7.trans sp), sp _ _ (s7 _ _ hF6), upd_same, fun z => by rw [z, s7 _ _ hF6] at np; cases np⟩
    · have e : lvN n k = [] := by
        cases h : lvN n k with
        | nil => rfl
        | cons a r => rw [h] at cc; exact absurd rfl cc
      refine ⟨_, rfl, q H4 F s4 nFH ?_⟩
      rw [fd_stop e 8 k8]
      exact hF4
end
end Mo

set_option pp.maxSteps 300
namespace Mo
open PySem PySem.Spec PyProof.Rows L2
section
variable {P : Program} {w : World} {K : PySem.W.Frag} {mg : Str → Option Value} {base : Heap}
/-! ### the ints of a text; where a word stands -/
def intD : PyData → Int
  | .int i => i
  | _ => 0
def intsD : PyData → List Int
  | .tuple es => es.map intD
  | _ => []
def blkK (kvs : List (Key × V)) (ds : List PyData) (c : Nat) : List Int := match lookK kvs ds (kS c) with
  | some d => intsD d
  | none => []
theorem ints_txt {N : Addr → Prop} {H : Hp} : ∀ {xs : List V} {es : List PyData}, DxAll N H xs es → es.all letterD = true → xs = (es.map intD).map V.int
  | [], [], _, _ => rfl
  | [], _ :: _, h, _ => by cases h
  | _ :: _, [], h, _ => by cases h
  | x :: xs, e :: es, h, ha => by
    cases h with
    | cons h t =>
      rw [List.all_cons, Bool.and_eq_true] at ha
      have ih := ints_txt t ha.2
      have hp : plainD e = true := by
        cases e <;> first | rfl | exact absurd (show false = true from ha.1) (by decide)
      obtain ⟨i, rfl, rfl⟩ := plain_int h hp
      rw [ih]
      rfl
theorem txt_ints {N : Addr → Prop} {H : Hp} {x : V} {d : PyData} (h : Dx N H x d) (ht : textD d = true) : ∃ p, x = .ref p ∧ H p = some (.tup ((intsD d).map V.int)) := by
  obtain ⟨p, xs, es, rfl, rfl, hp, _, hxs⟩ := tup_dx h (text_tup ht)
  have zt : textD (.tuple es) = (decide (es.length ≤ 4096) && es.all letterD) := rfl
  rw [zt, Bool.and_eq_true] at ht
  refine ⟨p, rfl, ?_⟩
  rw [hp, ints_txt hxs ht.2]
  rfl
theorem are_blk {N : Addr → Prop} {H : Hp} {cs : List Nat} {kvs : List (Key × V)} {ds : List PyData} (h : areB cs kvs ds = true) (hx : DxAll N H (kvs.map (·.2)) ds) {c : Nat} (hc : c ∈ cs) :
    ∃ p d, valV kvs (kS c) = some (.ref p) ∧ H p = some (.tup ((blkK kvs ds c).map V.int)) ∧ lookK kvs ds (kS c) = some d ∧ d ∈ ds ∧ okVal d = true := by
  unfold areB at h
  rw [Bool.and_eq_true] at h
  have hv := List.all_eq_true.mp h.2 c (mem_met.mpr hc)
  unfold hasVal at hv
  unfold blkK
  rcases look_val (q := kS c) hx with ⟨_, h2⟩ | ⟨v, d, h1, h2, h3, h4⟩
  · rw [h2] at hv; cases hv
  · rw [h2] at hv
    simp only at hv
    have ht : textD d = true := by
      unfold okVal at hv
      rw [Bool.and_eq_true] at hv
      exact hv.1
    obtain ⟨p, rfl, hp⟩ := txt_ints h3 ht
    exact ⟨p, d, h1, by rw [h2]; exact hp, h2, h4, hv⟩
theorem cut_at (xs : List V) (h n : Nat) : cutV xs (some (h : Int)) (some ((h + n : Nat) : Int)) = (xs.drop h).take n := by
  unfold cutV
  rw [HT.sIx_nat, HT.sIx_nat]
  rcases Nat.lt_or_ge h xs.length with e | e
  · rw [Nat.min_eq_left (Nat.le_of_lt e), List.take_eq_take_iff, List.length_drop]
    omega
  · rw [Nat.min_eq_right e, List.drop_of_length_le (Nat.le_refl _), List.drop_of_length_le e]
    simp
theorem pre_app {a b l : List Int} : a ++ b <+: l ↔ a <+: l ∧ b <+: l.drop a.length := by
  constructor
  · rintro ⟨t, rfl⟩
    refine ⟨⟨b ++ t, by simp⟩, ⟨t, ?_⟩⟩
    rw [List.append_assoc, List.drop_left]
  · rintro ⟨⟨t, rfl⟩, u, hu⟩
    rw [List.drop_left] at hu
    exact ⟨u, by rw [List.append_assoc, hu]⟩
def spFollow : Sp := fun vs H Q _ => ∃ (tp a : Addr) (ts : List Int) (cs : List Nat) (s : Nat) (kvs : List (Key × V)) (f : Nat → List Int), vs = [.ref tp, .str (tx cs), .int s, .ref a] ∧ H tp = some (.tup (ts.map V.int)) ∧ H a = some (.dK kvs) ∧
  (∀ c ∈ cs, ∃ p, valV kvs (kS c) = some (.ref p) ∧ H p = some (.tup ((f c).map V.int))) ∧
  ∀ H', Same H H' → Q (if cs.flatMap f <+: ts.drop s then .int ((s + (cs.flatMap f).length : Nat) : Int) else .non) H'
theorem flat_takeF {f : Nat → List Int} {cs : List Nat} {i c : Nat} (h : cs[i]? = some c) : (cs.take (i + 1)).flatMap f = (cs.take i).flatMap f ++ f c := by
  rw [List.take_add_one, h, List.flatMap_append]
  simp
theorem flat_pre {f : Nat → List Int} (cs : List Nat) (i : Nat) : (cs.take i).flatMap f <+: cs.flatMap f := by
  refine ⟨(cs.drop i).flatMap f, ?_⟩
  rw [← List.flatMap_append, List.take_append_drop]
/-! ### places -/
def shp : PyData → Bool
  | .tuple [_, .dict _] => true
  | _ => false
def plB (cs : List Nat) (ts : List Int) (sd : PyData) (kvs : List (Key × V)) (ds : List PyData) : Bool := plainD sd && (areB cs kvs ds && (decide (0 ≤ intD sd) && (decide (intD sd ≤ ts.length) && decide (cs.flatMap (blkK kvs ds) <+: ts.drop (intD sd).toNat))))
def PlIn (N : Addr → Prop) (H : Hp) (cs : List Nat) (ts : List Int) (x : V) (b : Bool) : Prop := ∃ d, Dx N H x d ∧ d.bulk ≤ 100000 ∧ ((shp d = false ∧ b = false) ∨ ∃ p sv sd a kvs ds kvd, x = .ref p ∧ d = .tuple [sd, .dict kvd] ∧ H p = some (.tup [sv, .ref a]) ∧ H a = some (.dK kvs) ∧ Dx N H sv sd ∧ sd.bulk ≤ 100000 ∧
  DxAll N H (kvs.map (·.2)) ds ∧ (∀ d ∈ ds, d.bulk ≤ 2000) ∧ b = plB cs ts sd kvs ds)
def spPlace : Sp := fun vs H Q _ => ∃ (cs : List Nat) (tp : Addr) (ts : List Int) (x : V) (N : Addr → Prop) (b : Bool), vs = [.str (tx cs), .ref tp, x] ∧ Pat cs ∧ H tp = some (.tup (ts.map V.int)) ∧ ts.length ≤ 4096 ∧ (∀ n ∈ ts, 0 ≤ n ∧ n ≤ 999999) ∧ PlIn N H cs ts x b ∧ ∀ H', Same H H' → Q (.bl b) H'
theorem txt_txD {ts : List Int} (hl : ts.length ≤ 4096) (hc : ∀ n ∈ ts, 0 ≤ n ∧ n ≤ 999999) : textD (.tuple (ts.map PyData.int)) = true := by
  have zt : textD (.tuple (ts.map PyData.int)) = (decide ((ts.map PyData.int).length ≤ 4096) && (ts.map PyData.int).all letterD) := rfl
  rw [zt, Bool.and_eq_true, List.length_map]
  refine ⟨decide_eq_true hl, List.all_eq_true.mpr fun e he => ?_⟩
  obtain ⟨n, hn, rfl⟩ := List.mem_map.mp he
  have := hc n hn
  show (decide (0 ≤ n) && decide (n ≤ 999999)) = true
  rw [decide_eq_true this.1, decide_eq_true this.2]
  rfl
end
end Mo

set_option pp.maxSteps 300
namespace Mo
open PySem PySem.Spec PyProof.Rows L2
theorem Src.dk {H : Hp} {d c : Addr} {t : Nat} (h : Src H d c t) : ∃ kvs, H d = some (.dK kvs) := by
  obtain ⟨_, _, h1, _⟩ := h
  exact ⟨_, h1⟩
theorem Src.kind {H : Hp} {d c a : Addr} {t : Nat} {o : HO} (h : Src H d c t) (ha : H a = some o) (no : ∀ kvs, o ≠ .dK kvs) : a ≠ d := fun e => by
  obtain ⟨kvs, h1⟩ := h.dk
  rw [e, h1] at ha
  exact no kvs (Option.some.inj ha).symm
theorem cut_txTo (zs : List Nat) (n : Nat) : cutS (tx zs) none (some (n : Int)) = tx (zs.take n) := by
  rw [cut_tx, HT.sIx_none, HT.sIx_nat, List.drop_zero, Nat.sub_zero]
  rcases Nat.lt_or_ge n zs.length with e | e
  · rw [Nat.min_eq_left (by omega)]
  · rw [Nat.min_eq_right (by omega), List.take_of_length_le (Nat.le_refl _), List.take_of_length_le e]
theorem cut_txOn (zs : List Nat) (k : Nat) : cutS (tx zs) (some (k : Int)) none = tx (zs.drop k) := by
  rw [cut_tx, HT.sIx_nat, HT.sIx_none, List.take_of_length_le (by rw [List.length_drop]; omega)]
  by_cases h : k ≤ zs.length
  · rw [Nat.min_eq_left h]
  · rw [Nat.min_eq_right (by omega), List.drop_of_length_le (Nat.le_refl _), List.drop_of_length_le (by omega)]
theorem pat_of {zs nm : List Nat} (low : Low nm) (n8 : nm.length ≤ 8) (hl : zs.length ≤ 40) (h : ∀ x ∈ zs, x ∈ nm) : Pat zs :=
  ⟨hl, fun x hx => low x (h x hx), Nat.le_trans (nd_sub _ _ (met_nodup zs) fun x hx => h x (mem_met.mp hx)) n8⟩
section
variable {P : Program} {w : World} {K : PySem.W.Frag} {mg : Str → Option Value} {base : Heap}
def spPtn : Sp := fun vs H Q _ => ∃ (d c : Addr) (nm : List Nat) (t : Nat), vs = [.ref d, .str (tx nm)] ∧ Src H d c t ∧ nm.length = 4 ∧ Low nm ∧ t < 1000000 ∧
  ∀ H' zs t', But d H H' → Src H' d c t' → t' ≤ t + 20 → Pat zs → zs.length ≤ 7 → (∀ x ∈ zs, x ∈ nm) → Q (.str (tx zs)) H'
theorem ok_ptn {k : Nat} (T : Txt K mg) : FnOk P w K mg base CX0 (k + 3) T.aLPattern T.dLPattern ["_law_source_here", "_law_names_here"] spPtn := by
  have GLDraw : FnOk P w K mg base CX0 (k + 2) T.aLDraw T.dLDraw ["_law_source_here", "_law_size"] spSDraw := ok_draw T
  have GLPick : FnOk P w K mg base CX0 (k + 2) T.aLPick T.dLPick ["_law_source_here", "_law_items"] (spPickA K) := ok_pickA T
  have GLUniversal : FnOk P w K mg base CX0 (k + 2) T.aLUniversal T.dLUniversal ["_law_count"] spUni := ok_luni T
  refine T.fLPattern.ok scLPattern (fun vs H Q E h => ?_) (fun cdv A outer s H vs Q E hr h => ?_)
  · obtain ⟨_, _, _, _, rfl, _⟩ := h
    rfl
  · obtain ⟨d, c, nm, t, rfl, src, nl, low, ht, q⟩ := h
    refine ⟨_, (pss_cons (ps_set (i := 2) scLPattern.nd rfl (Or.inl rfl) (pe_call GLDraw hr (by rfl) T.gLDraw T.fLDraw.kp T.bLDraw .nil pass0 (pa_cons (pv 0) (pa_cons pe_int pa_nil))))
      (pss_cons (ps_if (pt_cmpR op_lt (pv 2) pe_int (nomark _)) (pss_cons (ps_set (i := 3) scLPattern.nd rfl (Or.inr rfl) (pe_slice sl_str (pv 1) po_none (po_some (pe_op op_add pe_int (pe_call GLDraw hr (by rfl) T.gLDraw T.fLDraw.kp T.bLDraw .nil pass0 (pa_cons (pv 0) (pa_cons pe_int pa_nil)))))))
      (pss_one (ps_ret (pe_join pe_str (pe_lc (own := [("_law_turn", 4)]) (g := gName 4) (tt := tYes) rfl scLPattern.nd (pi_range1 (by rfl) T.m_range (pa_cons (pe_call GLDraw hr (by rfl) T.gLDraw T.fLDraw.kp T.bLDraw .nil pass0 (pa_cons (pv 0) (pa_cons pe_int pa_nil))) pa_nil)) (blkOk_by (N := ["_law_source_here", "_law_names_here", "_law_road", "_law_few", "_law_turn", "_law_start", "_law_word", "_law_letter", "_law_at"]) (sc := defScope sLPattern) (by decide +kernel)) (fun _ _ _ _ _ => pg_name (i := 4) scLPattern.nd rfl (Or.inl rfl)) (fun _ _ _ _ _ => pts_nil) (fun _ _ _ _ _ => (pe_call GLPick hr (by rfl) T.gLPick T.fLPick.kp T.bLPick .nil pass0 (pa_cons (pv 0) (pa_cons (pv 3) pa_nil))))))))) pss_nil)
      (pss_cons (ps_set (i := 5) scLPattern.nd rfl (Or.inl rfl) (pe_call GLDraw hr (by rfl) T.gLDraw T.fLDraw.kp T.bLDraw .nil pass0 (pa_cons (pv 0) (pa_cons pe_int pa_nil))))
      (pss_cons (ps_set (i := 6) scLPattern.nd rfl (Or.inl rfl) (pe_join pe_str (pe_lc (own := [("_law_letter", 7)]) (g := gName 7) (tt := tYes) rfl scLPattern.nd (pi_tup (pe_slice sl_tupA (pe_call GLUniversal hr (by rfl) T.gLUniversal T.fLUniversal.kp T.bLUniversal .nil pass0 (pa_cons pe_int pa_nil)) (po_some (pv 5)) (po_some (pe_op op_add (pe_op op_add (pv 5) pe_int) (pe_call GLDraw hr (by rfl) T.gLDraw T.fLDraw.kp T.bLDraw .nil pass0 (pa_cons (pv 0) (pa_cons pe_int pa_nil))))))) (blkOk_by (N := ["_law_source_here", "_law_names_here", "_law_road", "_law_few", "_law_turn", "_law_start", "_law_word", "_law_letter", "_law_at"]) (sc := defScope sLPattern) (by decide +kernel)) (fun _ _ _ _ _ => pg_name (i := 7) scLPattern.nd rfl (Or.inl rfl)) (fun _ _ _ _ _ => pts_nil) (fun _ _ _ _ _ => (pe_ix ix_str (pv 1) (pv 7) (fun _ _ => rfl))))))
      (pss_cons (ps_if (pt_cmpR op_eq (pv 2) pe_int (nomark _)) (pss_one (ps_ret (pv 6))) pss_nil)
      (pss_cons (ps_if (pt_cmpR op_eq (pv 2) pe_int (nomark _)) (pss_one (ps_ret (pe_op op_add_str (pe_op op_add_str (pe_slice sl_str (pv 6) po_none (po_some pe_int)) (pe_ix ix_str (pv 1) pe_int (fun _ _ => rfl))) (pe_call GLPick hr (by rfl) T.gLPick T.fLPick.kp T.bLPick .nil pass0 (pa_cons (pv 0) (pa_cons (pe_lst (pa_cons (pe_slice sl_str (pv 6) po_none (po_some pe_int)) (pa_cons (pe_revS (pe_slice sl_str (pv 6) po_none (po_some pe_int))) (pa_cons (pe_slice sl_str (pv 6) po_none (po_some pe_int)) pa_nil)))) pa_nil)))))) pss_nil)
      (pss_cons (ps_set (i := 8) scLPattern.nd rfl (Or.inl rfl) (pe_call GLDraw hr (by rfl) T.gLDraw T.fLDraw.kp T.bLDraw .nil pass0 (pa_cons (pv 0) (pa_cons (pe_callB call_len_str (by rfl) T.m_len PySem.boot_len (pa_cons (pv 6) pa_nil)) pa_nil))))
      (pss_one (ps_ret (pe_op op_add_str (pe_op op_add_str (pe_slice sl_str (pv 6) po_none (po_some (pv 8))) (pe_call GLPick hr (by rfl) T.gLPick T.fLPick.kp T.bLPick .nil pass0 (pa_cons (pv 0) (pa_cons (pv 1) pa_nil)))) (pe_slice sl_str (pv 6) (po_some (pe_op op_add (pv 8) pe_int)) po_none))))))))))), ?_⟩
    refine ⟨_, rfl, d, c, 5, t, rfl, src, by decide, by decide, by omega, fun H1 road t1 but1 src1 ht1 r0 r1 => ?_⟩
    refine ⟨_, rfl, _, _, rfl, rfl, _, rfl, ite2 (fun e => ?_) (fun e => ?_)⟩
    · -- letters of a few names
      refine ⟨_, rfl, _, rfl, d, c, 4, t1, rfl, src1, by decide, by decide, by omega, fun H2 k2 t2 but2 src2 ht2 k0 k1 => ?_⟩
      obtain ⟨k2, rfl⟩ := nat_of k0
      refine ⟨_, _, rfl, rfl, _, rfl, _, rfl, by rw [tx_len]; exact fits5 (by omega), ?_⟩
      rw [show (1 : Int) + (k2 : Int) = ((k2 + 1 : Nat) : Int) by omega, cut_txTo]
      have fl : (nm.take (k2 + 1)).length = min (k2 + 1) 4 := by rw [List.length_take, nl]
      have fin : ∀ x ∈ nm.take (k2 + 1), x ∈ nm := fun x hx => List.mem_of_mem_take hx
      generalize nm.take (k2 + 1) = few at *
      refine ⟨⟨_, rfl⟩, _, rfl, d, c, 8, t2, rfl, src2, by decide, by decide, by omega, fun H3 n3 t3 but3 src3 ht3 n0 n1 => ?_⟩
      obtain ⟨n3, rfl⟩ := nat_of n0
      refine ⟨n3, rfl, by omega, by omega, fun D nD => ?_⟩
      have Dd := (src3.new nD).1
      refine lc_range (lo := 0) (n := n3) (fun i H' => ∃ (zs : List Nat) (t' : Nat), But d H H' ∧ Src H' d c t' ∧ t' ≤ t3 + i ∧ H' D = some (.lst (zs.map sg)) ∧ zs.length = i ∧ ∀ x ∈ zs, x ∈ nm) ?_ ?_ ?_
      · exact ⟨[], t3, ((but1.trans but2).trans but3).trans (But.same (same_new nD)), src3.same (same_new nD), Nat.le_refl _, upd_same, rfl, fun x hx => absurd hx (by simp)⟩
      · rintro i H4 hi ⟨zs, t4, b4, src4, ht4, hD4, zl, zin⟩
        refine ⟨rfl, _, rfl, _, rfl, d, c, t4, src4, by omega, .inr ⟨few, rfl, by omega, by omega, fun H5 x t5 b5 src5 ht5 hx => ?_⟩⟩
        have hD5 := b5 _ _ Dd hD4
        refine ⟨_, hD5, fitsLt (by rw [List.length_map]; omega), zs ++ [x], t5, ?_, src5.upd Dd ?_, by omega, by rw [upd_same, List.map_append]; rfl, by rw [List.length_append, zl]; rfl, fun y hy => ?_⟩
        · refine (b4.trans b5).put ?_
          cases e : H D with
          | none => rfl
          | some o =>
            have := ((but1.trans but2).trans but3) _ _ Dd e
            rw [nD] at this
            cases this
        · intro z
          obtain ⟨_, _, _, h2, _⟩ := src3
          rw [← z, nD] at h2
          cases h2
        · rcases List.mem_append.mp hy with y1 | y1
          · exact zin y y1
          · rw [List.mem_singleton.mp y1]
            exact fin x hx
      · rintro H4 ⟨zs, t4, b4, src4, ht4, hD4, zl, zin⟩
        refine ⟨_, D, zs.map fun c => (⟨#[c]⟩ : Str), rfl, rfl, .inl (SqL.of (by rw [← signs_map]; exact hD4)), signs_room (by omega), ?_⟩
        rw [join_signs]
        exact q H4 zs t4 b4 src4 (by omega) (pat_of low (by omega) (by omega) zin) (by omega) zin
    · -- a block of U(3)
      refine ⟨_, rfl, d, c, 7, t1, rfl, src1, by decide, by decide, by omega, fun H2 st t2 but2 src2 ht2 s0 s1 => ?_⟩
      obtain ⟨st, rfl⟩ := nat_of s0
      refine ⟨⟨_, rfl⟩, 3, rfl, by decide, fun H3 up sup hup => ⟨_, rfl, _, rfl, _, rfl, _, _, rfl, rfl, _, rfl, d, c, 7, t2, rfl, src2.same sup, by decide, by decide, by omega, fun H4 k4 t4 but4 src4 ht4 k0 k1 => ?_⟩⟩
      obtain ⟨k4, rfl⟩ := nat_of k0
      have upd4 : up ≠ d := Src.kind (src2.same sup) hup fun _ e => by cases e
      have ul : (uni 3).length = 7 := by decide
      refine ⟨_, _, rfl, rfl, ((st + (k4 + 1) : Nat) : Int), congrArg V.int (by omega), slA_any (but4 _ _ upd4 hup) fun p H5 s5 hp _ => ?_⟩
      rw [cut_at, ← List.map_drop, ← List.map_take] at hp
      have xl : (((uni 3).drop st).take (k4 + 1)).length ≤ 7 ∧ 0 < (((uni 3).drop st).take (k4 + 1)).length := by
        rw [List.length_take, List.length_drop]
        omega
      have xr : ∀ x ∈ ((uni 3).drop st).take (k4 + 1), 0 ≤ x ∧ x < 3 := fun x hx => uni_low (n := 3) (List.mem_of_mem_drop (List.mem_of_mem_take hx))
      generalize ((uni 3).drop st).take (k4 + 1) = xs at *
      have b5 : But d H H5 := (((but1.trans but2).trans (But.same sup)).trans but4).trans (But.same s5)
      have src5 := src4.same s5
      refine ⟨p, rfl, ⟨_, SqT.of hp⟩, fun D nD => lc_it (walk_tup (xs := xs.map V.int)) (fun i H' => Same H5 H' ∧ H' D = some (.lst (((xs.take i).map fun x => nm.getD x.toNat 0).map sg))) ?_ ?_ ?_ ?_⟩
      · exact ⟨same_new nD, upd_same⟩
      · exact fun i H' _ h => SqT.of (h.1 _ _ hp)
      · rintro i x H6 H6' hi ⟨s6, hD⟩ ⟨rfl, hx⟩
        rw [List.getElem?_map] at hx
        obtain ⟨n, hn, rfl⟩ := Option.map_eq_some_iff.mp hx
        obtain ⟨n0, n3⟩ := xr n (List.mem_of_getElem? hn)
        obtain ⟨m, rfl⟩ := nat_of n0
        refine ⟨rfl, _, rfl, _, rfl, _, _, nm.getD m 0, rfl, rfl, by rw [tx_len]; exact fits5 (by omega), ?_, _, hD, fitsLt (by rw [List.length_map, List.length_map, List.length_take]; omega), Same.put s6 nD, ?_⟩
        · rw [tx_list]
          refine atI_nat ?_
          rw [List.getD_eq_getElem?_getD, List.getElem?_eq_getElem (show m < nm.length by omega)]
          rfl
        · rw [upd_same, List.take_add_one, hn, List.map_append, List.map_append]
          rfl
      rintro H6 ⟨s6, hD⟩
      rw [List.length_map, List.take_length] at hD
      have wl : (xs.map fun x => nm.getD x.toNat 0).length = xs.length := List.length_map ..
      have win : ∀ y ∈ xs.map fun x => nm.getD x.toNat 0, y ∈ nm := fun y hy => by
        obtain ⟨x, hx, rfl⟩ := List.mem_map.mp hy
        obtain ⟨n0, n3⟩ := xr x hx
        rw [List.getD_eq_getElem?_getD, List.getElem?_eq_getElem (show x.toNat < nm.length by omega)]
        exact List.getElem_mem _
      generalize (xs.map fun x => nm.getD x.toNat 0) = zs at *
      refine ⟨_, D, zs.map fun c => (⟨#[c]⟩ : Str), rfl, rfl, .inl (SqL.of (by rw [← signs_map]; exact hD)), signs_room (by omega), ?_⟩
      rw [join_signs]
      have b6 := b5.trans (But.same s6)
      have src6 := src5.same s6
      clear hD s6 b5 src5 hp nD
      refine ⟨_, rfl, rfl, _, rfl, ite2 (fun e2 => ?_) (fun e2 => ?_)⟩
      · exact ⟨_, rfl, q H6 zs t4 b6 src6 (by omega) (pat_of low (by omega) (by omega) win) (by omega) win⟩
      refine ⟨_, rfl, rfl, _, rfl, ite2 (fun e3 => ?_) (fun e3 => ?_)⟩
      · -- the same ahead and behind
        have z3l : (zs.take 3).length ≤ 3 := by rw [List.length_take]; omega
        refine ⟨_, rfl, 3, rfl, _, rfl, by rw [tx_len]; exact fits5 (by omega), ?_⟩
        rw [show (3 : Int) = ((3 : Nat) : Int) from rfl, cut_txTo]
        refine ⟨_, rfl, _, 3, nm.getD 3 0, rfl, rfl, by rw [tx_len]; exact fits5 (by omega), ?_, _, _, rfl, rfl, by rw [tx_len]; exact fits5 (by show _ + 1 ≤ _; omega), ?_⟩
        · rw [tx_list, show (3 : Int) = ((3 : Nat) : Int) from rfl]
          refine atI_nat ?_
          rw [List.getD_eq_getElem?_getD, List.getElem?_eq_getElem (show 3 < nm.length by omega)]
          rfl
        rw [tx_app1]
        refine ⟨_, rfl, _, rfl, 3, rfl, _, rfl, by rw [tx_len]; exact fits5 (by omega), _, rfl, 3, rfl, _, rfl, by rw [tx_len]; exact fits5 (by omega), _, rfl, by rw [show (3 : Int) = ((3 : Nat) : Int) from rfl, cut_txTo, tx_len]; exact fits5 (by omega), _, rfl, 1, rfl, _, rfl, by rw [tx_len]; exact fits5 (by omega), by show 3 ≤ sizeLine; decide, fun L nL => ?_⟩
        rw [show (3 : Int) = ((3 : Nat) : Int) from rfl, cut_txTo, show (1 : Int) = ((1 : Nat) : Int) from rfl, cut_txTo, show revS (tx (zs.take 3)) = tx (zs.take 3).reverse from rfl] at *
        have sL := same_new (o := .lst [V.str (tx (zs.take 3)), .str (tx (zs.take 3).reverse), .str (tx (zs.take 1))]) nL
        refine ⟨d, c, t4, src6.same sL, by omega, .inl ⟨L, _, rfl, SqL.of upd_same, (src6.new nL).1, by show 0 < 3; decide, by show 3 < 1073741824; decide, fun H7 v7 t7 but7 src7 ht7 hv7 => ?_⟩⟩
        obtain ⟨ws, rfl, wsl, wsin⟩ : ∃ ws : List Nat, v7 = .str (tx ws) ∧ ws.length ≤ 3 ∧ ∀ x ∈ ws, x ∈ nm := by
          simp only [List.mem_cons, List.not_mem_nil, or_false] at hv7
          rcases hv7 with rfl | rfl | rfl
          · exact ⟨_, rfl, z3l, fun x hx => win x (List.mem_of_mem_take hx)⟩
          · exact ⟨_, rfl, by rw [List.length_reverse]; exact z3l, fun x hx => win x (List.mem_of_mem_take (List.mem_reverse.mp hx))⟩
          · exact ⟨_, rfl, by rw [List.length_take]; omega, fun x hx => win x (List.mem_of_mem_take hx)⟩
        refine ⟨_, _, rfl, rfl, fits5 (by rw [tx_len, tx_len, List.length_append]; show _ + 1 + _ ≤ _; omega), ?_⟩
        rw [tx_app]
        have zin : ∀ x ∈ (zs.take 3 ++ [nm.getD 3 0]) ++ ws, x ∈ nm := fun x hx => by
          rcases List.mem_append.mp hx with y | y
          · rcases List.mem_append.mp y with y | y
            · exact win x (List.mem_of_mem_take y)
            · rw [List.mem_singleton.mp y, List.getD_eq_getElem?_getD, List.getElem?_eq_getElem (show 3 < nm.length by omega)]
              exact List.getElem_mem _
          · exact wsin x y
        have zl : ((zs.take 3 ++ [nm.getD 3 0]) ++ ws).length ≤ 7 := by
          rw [List.length_append, List.length_append, List.length_singleton]
          omega
        exact q H7 _ t7 ((b6.trans (But.same sL)).trans but7) src7 (by omega) (pat_of low (by omega) (by omega) zin) zl zin
      · -- one letter otherwise
        refine ⟨_, rfl, _, rfl, _, rfl, by rw [tx_len]; exact fits5 (by omega), d, c, _, t4, rfl, src6, by rw [tx_len]; omega, by rw [tx_len]; omega, by omega, fun H7 a7 t7 but7 src7 ht7 a0 a1 => ?_⟩
        obtain ⟨a7, rfl⟩ := nat_of a0
        rw [tx_len] at a1
        refine ⟨_, rfl, _, rfl, _, rfl, _, rfl, by rw [tx_len]; exact fits5 (by omega), ?_⟩
        rw [cut_txTo]
        refine ⟨_, rfl, _, rfl, d, c, t7, src7, by omega, .inr ⟨nm, rfl, by omega, by omega, fun H8 x t8 but8 src8 ht8 hx => ?_⟩⟩
        have ztl : (zs.take a7).length ≤ a7 := by rw [List.length_take]; omega
        refine ⟨_, _, rfl, rfl, by rw [tx_len]; exact fits5 (by show _ + 1 ≤ _; omega), ?_⟩
        rw [tx_app1]
        refine ⟨_, rfl, _, rfl, _, _, rfl, rfl, _, rfl, _, rfl, by rw [tx_len]; exact fits5 (by omega), ?_⟩
        rw [show ((a7 : Nat) : Int) + 1 = ((a7 + 1 : Nat) : Int) by omega, cut_txOn]
        refine ⟨_, _, rfl, rfl, fits5 (by rw [tx_len, tx_len, List.length_append, List.length_drop, List.length_singleton]; omega), ?_⟩
        rw [tx_app]
        have zin : ∀ y ∈ (zs.take a7 ++ [x]) ++ zs.drop (a7 + 1), y ∈ nm := fun y hy => by
          rcases List.mem_append.mp hy with z | z
          · rcases List.mem_append.mp z with z | z
            · exact win y (List.mem_of_mem_take z)
            · rw [List.mem_singleton.mp z]
              exact hx
          · exact win y (List.mem_of_mem_drop z)
        have zl : ((zs.take a7 ++ [x]) ++ zs.drop (a7 + 1)).length ≤ 7 := by
          rw [List.length_append, List.length_append, List.length_singleton, List.length_drop]
          omega
        exact q H8 _ t8 ((b6.trans but7).trans but8) src8 (by omega) (pat_of low (by omega) (by omega) zin) zl zin
end
end Mo

namespace Mo
open PySem PySem.Spec PyProof.Rows L2
section
variable {P : Program} {w : World} {K : PySem.W.Frag} {mg : Str → Option Value} {base : Heap}
def spSource (K : PySem.W.Frag) : Sp := fun vs H Q _ => ∃ (a : Addr) (ns : List Int), vs = [.ref a] ∧ SqL K H a (ns.map V.int) ∧ ns.length ≤ 63 ∧ ∀ H' d c, Same H H' → H d = none → Src H' d c 0 → Q (.ref d) H'
theorem ok_source {k : Nat} (T : Txt K mg) : FnOk P w K mg base CX0 (k + 1) T.aLSource T.dLSource ["_law_script"] (spSource K) := by
  refine T.fLSource.ok scLSource (fun vs H Q E h => ?_) (fun cdv A outer s H vs Q E hr h => ?_)
  · obtain ⟨a, ns, rfl, _⟩ := h
    rfl
  · obtain ⟨a, ns, rfl, hs, hn, q⟩ := h
    refine ⟨_, (pss_one (ps_ret (pe_disp (pps_cons pe_str (pe_callTy call_list_of (by rfl) T.m_list (by decide +kernel) (pa_cons (pe_slice sl_list (pv 0) po_none (po_some pe_int)) pa_nil)) (pps_cons pe_str pe_int (pps_cons pe_str pe_int pps_nil))) (by rfl) (by rfl) (fun z => by cases z) (by decide)))), ?_⟩
    intro d nd
    have s1 := same_new (o := .dK []) nd
    refine ⟨_, rfl, 63, rfl, a, _, rfl, s1.seq hs, fun p np => ?_⟩
    have s2 := same_new (o := .lst (cutV (ns.map V.int) none (some 63))) np
    refine ⟨p, _, rfl, .inl (SqL.of upd_same), fun c nc => ?_⟩
    have s3 := same_new (o := .lst (cutV (ns.map V.int) none (some 63))) nc
    have ec : cutV (ns.map V.int) none (some 63) = ns.map V.int := by
      unfold cutV
      rw [HT.sIx_none, show (some (63 : Int)) = some ((63 : Nat) : Int) from rfl, HT.sIx_nat, List.drop_zero, Nat.sub_zero, List.length_map]
      exact List.take_of_length_le (by rw [List.length_map]; omega)
    rw [ec] at nc s2 s3 ⊢
    have hd3 := s3 _ _ (s2 _ _ (upd_same (H := H) (a := d) (o := .dK [])))
    refine ⟨hd3, srcD c 0 0, rfl, by show 3 ≤ 15; decide, ?_⟩
    rw [src_merge]
    have ncd : c ≠ d := (ne_of_none (s2 _ _ (upd_same (H := H) (a := d) (o := .dK []))) nc).symm
    refine q _ d c (Same.put ((s1.trans s2).trans s3) nd) nd ⟨ns, 0, upd_same, by rw [upd_ne ncd, upd_same], hn, Int.le_refl 0⟩
end
end Mo

set_option pp.maxSteps 300
namespace Mo
open PySem PySem.Spec PyProof.Rows L2
theorem But.sqL2 {K : PySem.W.Frag} {d a : Addr} {H H' : Hp} {xs : List V} (b : But d H H') (nd : H d = Option.none) (h : SqL K H a xs) : SqL K H' a xs := by
  rcases h with (e | ⟨o, e⟩) | e
  · exact .inl (.inl (b _ _ (ne_of_none e nd) e))
  · exact .inl (.inr ⟨o, b _ _ (ne_of_none e nd) e⟩)
  · exact .inr e
theorem inV_tzs (p : List Nat) (ds : List (List Nat)) : inV (.str (tx p)) (tzs ds) = decide (p ∈ ds) := by
  unfold inV tzs
  rw [List.any_map]
  rw [Bool.eq_iff_iff, List.any_eq_true, decide_eq_true_iff]
  constructor
  · rintro ⟨x, hx, e⟩
    have e : (tx x == tx p) = true := e
    rw [← tx_inj (eq_of_beq e)]
    exact hx
  · exact fun h => ⟨p, h, by show (tx p == tx p) = true; exact beq_self_eq_true _⟩
theorem flat_tzs (ds : List (List Nat)) : (tzs ds).all flatV = true := by
  unfold tzs
  rw [List.all_map, List.all_eq_true]
  exact fun _ _ => rfl
theorem putK_ln (c : List (Key × V)) (k : Key) (x : V) : (putK c k x).length ≤ c.length + 1 := by
  unfold putK
  split <;> simp
/-- a list of texts, as data -/
def txsD (w : List (List Nat)) : PyData := .list (w.map fun u => .str (tx u))
theorem txsD_dx {H : Hp} {a : Addr} {w : List (List Nat)} (h : H a = some (.lst (tzs w))) : Dx (fun _ => False) H (.ref a) (txsD w) := by
  have all : ∀ w : List (List Nat), DxAll (fun _ => False) H (tzs w) (w.map fun u => PyData.str (tx u)) := fun w => by
    induction w with
    | nil => exact .nil
    | cons u r ih => exact .cons (.str _) ih
  exact .lst h (fun z => z) (all w)
theorem fd_shw {n : Nat} (hn : n ≤ 3) : (txsD (fdN n 8)).showable = true ∧ (txsD (fdN n 8)).depth ≤ 40 ∧ (txsD (fdN n 8)).shown.length ≤ sizeLine := by
  have fa := fitAll_of (B := 20) (W := 7) (D := 1) (ds := (fdN n 8).map fun u => PyData.str (tx u)) fun e he => by
    obtain ⟨u, hu, rfl⟩ := List.mem_map.mp he
    obtain ⟨nu, uu, mu⟩ := (fd_mem hn).mp hu
    have a : ∀ c ∈ u, c ∈ abc n := fun c hc => by
      have := mem_met.mpr hc
      rw [nf_abc.mp nu, mu] at this
      exact this
    have l := una_len uu (abc n) a
    rw [abc_len] at l
    have pw : 2 ^ n ≤ 2 ^ 3 := Nat.pow_le_pow_right (by decide) hn
    exact fit_low (fun c hc => by have := mem_abc.mp (a c hc); omega) (by omega)
  have e : (7 + 1) * ((fdN n 8).map fun u => PyData.str (tx u)).length ≤ 300000 := by
    rw [List.length_map]
    have := fd_len hn 8
    omega
  exact (fa.lst.mono (by decide) e (by decide) : Fit 20 300000 3 (txsD (fdN n 8))).repr (by decide) (by decide) (by decide) (by decide)
theorem una_nf {p : List Nat} : Una (nf p) ↔ Una p := by
  constructor
  · intro h
    have e : ∀ c ∈ p, (met p).getD (nfc p c - 97) 0 = c := fun c hc => by
      have h1 := idx_at (mem_met.mpr hc)
      rw [show nfc p c - 97 = (met p).idxOf c by unfold nfc; omega, List.getD_eq_getElem?_getD, h1]
      rfl
    have h2 := una_map (f := fun x => (met p).getD (x - 97) 0) h fun x y hx hy exy => by
      obtain ⟨c, hc, rfl⟩ := List.mem_map.mp hx
      obtain ⟨d, hd, rfl⟩ := List.mem_map.mp hy
      have exy : (met p).getD (nfc p c - 97) 0 = (met p).getD (nfc p d - 97) 0 := exy
      rw [e c hc, e d hd] at exy
      rw [exy]
    have e2 : (nf p).map (fun x => (met p).getD (x - 97) 0) = p := by
      unfold nf
      rw [List.map_map]
      have : ∀ c ∈ p, ((fun x => (met p).getD (x - 97) 0) ∘ nfc p) c = id c := fun c hc => e c hc
      rw [List.map_congr_left this, List.map_id]
    rwa [e2] at h2
  · exact fun h => una_map h fun x y hx hy e => nfc_inj hx hy e
theorem met_nf (p : List Nat) : (met (nf p)).length = (met p).length := by
  unfold nf
  rw [met_map fun x y hx hy e => nfc_inj hx hy e, List.length_map]
section
variable {P : Program} {w : World} {K : PySem.W.Frag} {mg : Str → Option Value} {base : Heap}
/-- the law: True -/
def spLaw (K : PySem.W.Frag) : Sp := fun vs H Q _ => ∃ (a : Addr) (ns : List Int), vs = [.ref a] ∧ SqL K H a (ns.map V.int) ∧ ns.length ≤ 63 ∧ ∀ H', Q (.bl true) H'
/-- what is known stands -/
structure Kn (H : Hp) (D : Addr) (b : Nat) (kvs : List (Key × V)) : Prop where
  hD : H D = some (.dK kvs)
  len : kvs.length ≤ b
  val : ∀ m : Nat, valV kvs (Sum.inl ((m : Nat) : Int)) = none ∨ ∃ a, valV kvs (Sum.inl ((m : Nat) : Int)) = some (.ref a) ∧ H a = some (.lst (tzs (fdN m 8))) ∧ a ≠ D
theorem Kn.but {H H' : Hp} {D d : Addr} {b : Nat} {kvs ks : List (Key × V)} (h : Kn H D b kvs) (ne : D ≠ d) (hd : H d = some (.dK ks)) (bu : But d H H') : Kn H' D b kvs :=
  ⟨bu _ _ ne h.hD, h.len, fun m => by
    rcases h.val m with y | ⟨a, h1, h2, h3⟩
    · exact .inl y
    · exact .inr ⟨a, h1, bu _ _ (fun z => by rw [z, hd] at h2; cases h2) h2, h3⟩⟩
theorem Kn.same {H H' : Hp} {D : Addr} {b : Nat} {kvs : List (Key × V)} (h : Kn H D b kvs) (s : Same H H') : Kn H' D b kvs :=
  ⟨s _ _ h.hD, h.len, fun m => by
    rcases h.val m with y | ⟨a, h1, h2, h3⟩
    · exact .inl y
    · exact .inr ⟨a, h1, s _ _ h2, h3⟩⟩
theorem ok_law {k : Nat} (T : Txt K mg) (hbm : ∃ mm, base.Ns sysModules mm) : FnG P w K mg base CX0 (k + 11) T.aLaw T.dLaw ["_law_script"] (spLaw K) := by
  have GLSource : FnOk P w K mg base CX0 (k + 10) T.aLSource T.dLSource ["_law_script"] (spSource K) := ok_source T
  have GLDraw : FnOk P w K mg base CX0 (k + 10) T.aLDraw T.dLDraw ["_law_source_here", "_law_size"] spSDraw := ok_draw T
  have GLPick : FnOk P w K mg base CX0 (k + 10) T.aLPick T.dLPick ["_law_source_here", "_law_items"] (spSPick K) := ok_pick T
  have GLNames : FnOk P w K mg base CX0 (k + 10) T.aLNames T.dLNames ["_law_source_here", "_law_count"] spNames := ok_names T
  have GLPattern : FnOk P w K mg base CX0 (k + 10) T.aLPattern T.dLPattern ["_law_source_here", "_law_names_here"] spPtn := ok_ptn T
  have GLFewest : FnOk P w K mg base CX0 (k + 10) T.aLFewest T.dLFewest ["_law_pattern_here"] spFew := ok_few T
  have GLListed : FnOk P w K mg base CX0 (k + 10) T.aLListed T.dLListed ["_law_count"] spLst := ok_lst T
  have GNormal : FnOk P w K mg base CX0 (k + 10) T.aNormal T.dNormal ["pattern"] spNormal := ok_normal T
  have GUnavoidablePatterns : FnOk P w K mg base (L2.CX P w) (k + 10) T.aUnavoidablePatterns T.dUnavoidablePatterns ["count"] (spUps T.cInvalidCount) := ok_ups T
  refine okG T.fLaw scLaw (fun vs H Q E h => ?_) (fun cdv A outer s H vs Q E hr hgd h => ?_)
  · obtain ⟨a, ns, rfl, _⟩ := h
    rfl
  · obtain ⟨a, ns, rfl, hs, hn, q⟩ := h
    refine ⟨_, (pss_cons (ps_set (i := 1) scLaw.nd rfl (Or.inl rfl) (pe_call GLSource hr (by rfl) T.gLSource T.fLSource.kp T.bLSource .nil pass0 (pa_cons (pv 0) pa_nil)))
      (pss_cons (ps_set (i := 2) scLaw.nd rfl (Or.inl rfl) (pe_call GLDraw hr (by rfl) T.gLDraw T.fLDraw.kp T.bLDraw .nil pass0 (pa_cons (pv 1) (pa_cons pe_int pa_nil))))
      (pss_cons (ps_set (i := 3) scLaw.nd rfl (Or.inl rfl) (pe_call GLListed hr (by rfl) T.gLListed T.fLListed.kp T.bLListed .nil pass0 (pa_cons (pv 2) pa_nil)))
      (pss_cons (ps_set (i := 4) scLaw.nd rfl (Or.inl rfl) (pe_call GUnavoidablePatterns hr (by rfl) T.gUnavoidablePatterns T.fUnavoidablePatterns.kp T.bUnavoidablePatterns .nil passL (pa_cons (pv 2) pa_nil)))
      (pss_cons (ps_if (PW.pt (pw_or (pt_not (pt_val (pe_callB call_isi (by rfl) T.m_isinstance (by decide +kernel) (pa_cons (pv 4) (pa_cons (pe_bltn (v := .ty "list") (by rfl) T.m_list (by decide +kernel) rfl) pa_nil))))) (pw_or1 (pt_cmpR op_ne (pe_callB (Mo.cr_reprX hbm hgd hr.units) (by rfl) T.m_repr (by decide +kernel) (pa_cons (pv 4) pa_nil)) (pe_callB (Mo.cr_reprX hbm hgd hr.units) (by rfl) T.m_repr (by decide +kernel) (pa_cons (pv 3) pa_nil)) (nomark _))))) (pss_one (ps_ret pe_bl)) pss_nil)
      (pss_cons (ps_expr (pe_bm0 PySem.F.plainAttrs_list PySem.F.slot_list_clear PySem.F.type_list_clear mt_clear (pv 4)))
      (Evl.pss_cut (ps_if (PW.pt (pw_and (pt_cmpR op_lt (pv 2) pe_int (nomark _)) (pw_and1 (pt_cmpR (Mo.op_neFl hr.units) (pe_call GUnavoidablePatterns hr (by rfl) T.gUnavoidablePatterns T.fUnavoidablePatterns.kp T.bUnavoidablePatterns .nil passL (pa_cons (pv 2) pa_nil)) (pv 3) (nomark _))))) (pss_one (ps_ret pe_bl)) pss_nil)
      (pss_cons (ps_set (i := 5) scLaw.nd rfl (Or.inl rfl) (pe_disp (pps_cons (pv 2) (pv 3) pps_nil) (by rfl) (by rfl) (fun z => by cases z) (by decide)))
      (pss_cons (ps_for PassesOwn.never rfl (pi_range1 (by rfl) T.m_range (pa_cons (pe_op op_add pe_int (pe_callB (call_min2 rfl) (by rfl) T.m_min (by decide +kernel) (pa_cons pe_int (pa_cons (pe_callB call_len_seq (by rfl) T.m_len PySem.boot_len (pa_cons (pv 0) pa_nil)) pa_nil)))) pa_nil)) (pg_name (i := 6) scLaw.nd rfl (Or.inl rfl)) (pss_cons (ps_set (i := 7) scLaw.nd rfl (Or.inl rfl) (pe_call GLNames hr (by rfl) T.gLNames T.fLNames.kp T.bLNames .nil pass0 (pa_cons (pv 1) (pa_cons pe_int pa_nil))))
      (pss_cons (ps_set (i := 8) scLaw.nd rfl (Or.inl rfl) (pe_call GLPattern hr (by rfl) T.gLPattern T.fLPattern.kp T.bLPattern .nil pass0 (pa_cons (pv 1) (pa_cons (pe_op op_add_str (pv 7) (pe_slice sl_str (pv 7) po_none (po_some pe_int))) pa_nil))))
      (pss_cons (ps_set (i := 9) scLaw.nd rfl (Or.inl rfl) (pe_callB Mo.cr_lenK (by rfl) T.m_len PySem.boot_len (pa_cons (pe_callTy (Mo.cr_setS rfl) (by rfl) T.m_set (by decide +kernel) (pa_cons (pv 8) pa_nil)) pa_nil)))
      (Evl.pss_cut (ps_if (pt_cmp (pc_dnotin (Mo.room1 hr) (pv 9) (pv 5))) (pss_one (ps_dput (Mo.room1 hr) (pv 5) (pv 9) (pe_call GUnavoidablePatterns hr (by rfl) T.gUnavoidablePatterns T.fUnavoidablePatterns.kp T.bUnavoidablePatterns .nil passL (pa_cons (pv 9) pa_nil)) rfl)) pss_nil)
      (pss_one (ps_if (pt_cmpR op_ne (pe_cmpR op_in_seq (pe_call GNormal hr (by rfl) T.gNormal T.fNormal.kp T.bNormal .nil pass0 (pa_cons (pv 8) pa_nil)) (pe_dget (Mo.room1 hr) (pv 5) (pv 9) (fun _ _ => rfl)) rfl) (pe_cmpR op_notN (pe_call GLFewest hr (by rfl) T.gLFewest T.fLFewest.kp T.bLFewest .nil pass0 (pa_cons (pv 8) pa_nil)) pe_non (nomark _)) (nomark _)) (pss_one (ps_ret pe_bl)) pss_nil)))))))
      (pss_cons (ps_set (i := 10) scLaw.nd rfl (Or.inl rfl) (pe_call GLPick hr (by rfl) T.gLPick T.fLPick.kp T.bLPick .nil pass0 (pa_cons (pv 1) (pa_cons (pe_lst (pa_cons pe_int (pa_cons (pe_un un_neg pe_int) (pa_cons pe_bl (pa_cons pe_str (pa_cons pe_non (pa_cons (pe_lst (pa_cons pe_int pa_nil)) (pa_cons (pe_op op_pow pe_int pe_int) pa_nil)))))))) pa_nil))))
      (pss_cons (ps_set (i := 11) scLaw.nd rfl (Or.inl rfl) pe_non)
      (pss_cons (Mo.ps_try_keep (i := 12) (j := 11) rfl rfl scLaw.nd rfl rfl rfl rfl ⟨rfl, by decide, Or.inl T.eInvalidCount⟩ takes0 (fun W pn xe tk _ => (pss_one (ps_expr (pe_callS GUnavoidablePatterns hr rfl T.gUnavoidablePatterns T.fUnavoidablePatterns.kp T.bUnavoidablePatterns (fun σ => passAt tk σ) (pa_cons (pv 10) pa_nil))))) (fun a oe pn => pss_one (ps_set (i := 11) scLaw.nd rfl (Or.inl rfl) (pv 12))))
      (pss_one (ps_ret (pe_and (pe_callB Mo.cr_isX (by rfl) T.m_isinstance (by decide +kernel) (pa_cons (pv 11) (pa_cons (pe_bltn (v := .ty "ValueError") (by rfl) T.m_ValueError (by decide +kernel) rfl) pa_nil))) (pe_one (pe_cmpR op_eq (pe_callB (Mo.cr_reprX hbm hgd hr.units) (by rfl) T.m_repr (by decide +kernel) (pa_cons (Mo.pe_xv (pv 11)) pa_nil)) (pe_callB (Mo.cr_reprX hbm hgd hr.units) (by rfl) T.m_repr (by decide +kernel) (pa_cons (pv 10) pa_nil)) (nomark _)))))))))))))))))), ?_⟩
    refine ⟨_, rfl, a, ns, rfl, hs, hn, fun H0 d c s0 nd0 src0 => ?_⟩
    have b0 : But d H H0 := But.same s0
    have had : ∀ {H' : Hp}, But d H H' → SqL K H' a (ns.map V.int) := fun b => b.sqL2 nd0 hs
    refine ⟨_, rfl, d, c, 4, 0, rfl, src0, by decide, by decide, by decide, fun H1 n1 t1 but1 src1 ht1 k0 k1 => ?_⟩
    obtain ⟨n, rfl⟩ := nat_of k0
    have n3 : n ≤ 3 := by omega
    refine ⟨_, rfl, n, rfl, n3, fun H2 l s2 nl hl => ?_⟩
    refine ⟨_, rfl, .inl ⟨n, rfl, n3, fun H3 l3 s3 nl3 hl3 => ?_⟩⟩
    have b3 := ((b0.trans but1).trans (But.same s2)).trans (But.same s3)
    have src3 := (src1.same s2).same s3
    have hl3' := s3 _ _ hl
    obtain ⟨f1, f2, f3⟩ := fd_shw n3
    refine ⟨_, rfl, _, _, .type "list", .type "list", true, rfl, .ty "list", .base (.lst hl3), kit_ty (by decide +kernel), true, rfl, ?_⟩
    refine ⟨_, rfl, (fun _ => False), .ref l3, _, rfl, txsD_dx hl3, f1, f2, f3, _, rfl, (fun _ => False), .ref l, _, rfl, txsD_dx hl3', f1, f2, f3, rfl, false, same_ne _, iteF ?_⟩
    -- cleared
    refine ⟨_, rfl, .inl ⟨rfl, _, SqL.of hl3⟩, l3, _, rfl, rfl, hl3, ?_⟩
    have ll : l ≠ l3 := fun z => by rw [z] at hl; rw [hl] at nl3; cases nl3
    have l3d := (src1.same s2).new nl3
    have src4 := src3.upd (o := .lst []) l3d.1 l3d.2
    have hl4 : upd H3 l3 (.lst []) l = some (.lst (tzs (fdN n 8))) := by rw [upd_ne ll]; exact hl3'
    have b4 : But d H (upd H3 l3 (.lst [])) := fun x o ne e => by
      have h1 := b3 x o ne e
      have h2 := ((b0.trans but1).trans (But.same s2)) x o ne e
      rw [upd_ne fun z => by rw [z, nl3] at h2; cases h2]
      exact h1
    generalize upd H3 l3 (.lst []) = H4 at *
    refine ⟨fun σ' H' => σ' = [some (.ref a), some (.ref d), some (.int ((n : Nat) : Int)), some (.ref l), some (.ref l3), none, none, none, none, none, none, none, none] ∧ Same H4 H', ?_, ?_⟩
    · by_cases z : n < 3
      · refine ⟨_, rfl, _, _, rfl, rfl, true, congrArg V.bl (decide_eq_true (by omega)), ?_⟩
        refine ⟨_, rfl, .inl ⟨n, rfl, n3, fun H5 l5 s5 nl5 hl5 => ?_⟩⟩
        refine ⟨_, rfl, _, _, ⟨l5, l, rfl, rfl, flat_tzs _, flat_tzs _, .inl ⟨SqL.of hl5, SqL.of (s5 _ _ hl4)⟩⟩, false, ?_, iteF ?_⟩
        · rw [eqLs_self (flat_tzs _)]
          rfl
        · exact ⟨rfl, s5⟩
      · refine ⟨_, rfl, _, _, rfl, rfl, false, congrArg V.bl (decide_eq_false (by omega)), iteF ?_⟩
        exact ⟨rfl, .refl _⟩
    rintro σ' H5 ⟨rfl, s5⟩
    refine fun Kd nK => ?_
    refine ⟨_, rfl, _, rfl, upd_same, [(Sum.inl ((n : Nat) : Int), .ref l)], rfl, by show 1 ≤ 15; decide, ?_⟩
    have s6 : Same H4 (upd (upd H5 Kd (.dK [])) Kd (.dK (mergeK [] [((Sum.inl ((n : Nat) : Int) : Key), V.ref l)]))) := Same.put (s5.trans (same_new nK)) (s5.free nK)
    have hK6 : upd (upd H5 Kd (.dK [])) Kd (.dK (mergeK [] [((Sum.inl ((n : Nat) : Int) : Key), V.ref l)])) Kd = some (.dK [((Sum.inl ((n : Nat) : Int) : Key), V.ref l)]) := upd_same
    generalize upd (upd H5 Kd (.dK [])) Kd (.dK (mergeK [] [((Sum.inl ((n : Nat) : Int) : Key), V.ref l)])) = H6 at *
    have KdH : H4 Kd = none := s5.free nK
    have kn0 : Kn H6 Kd 1 [((Sum.inl ((n : Nat) : Int) : Key), V.ref l)] := ⟨hK6, Nat.le_refl _, fun m => by
      by_cases z : n = m
      · subst z
        exact .inr ⟨l, valV_pos rfl, s6 _ _ hl4, fun z => by rw [z, KdH] at hl4; cases hl4⟩
      · refine .inl ?_
        rw [valV_neg (fun y => z (by have := Sum.inl.inj y; omega))]
        rfl⟩
    have src6 := src4.same s6
    have b6 := b4.trans (But.same s6)
    have Kdd : Kd ≠ d := (src4.new KdH).1
    refine ⟨_, rfl, a, _, rfl, .inl (had b6), 6, _, rfl, 3, _, rfl, rfl, _, rfl, ?_, ?_, for_range (lo := 0) (fun i σ H' => ∃ (t : Nat) (kvs : List (Key × V)) (o6 o7 o8 o9 : Option V), σ = [some (.ref a), some (.ref d), some (.int ((n : Nat) : Int)), some (.ref l), some (.ref l3), some (.ref Kd), o6, o7, o8, o9, none, none, none] ∧ Src H' d c t ∧ t ≤ 50 + 100 * i ∧ Kn H' Kd (1 + i) kvs ∧ But d H H') ?_ ?_ ?_⟩
    · split <;> omega
    · split <;> omega
    · exact ⟨_, _, _, _, _, _, rfl, src6, by omega, kn0, b6⟩
    · rintro i σ Ha hi ⟨t, kvs, o6, o7, o8, o9, rfl, srca, ht, kna, ba⟩
      have hi2 : i < 10 := by
        revert hi
        split <;> omega
      clear hi
      refine ⟨_, rfl, d, c, 3, t, rfl, srca, by decide, by omega, fun Hb nm tb butb srcb htb nml nmd nmlow => ?_⟩
      refine ⟨_, rfl, _, rfl, _, rfl, _, rfl, _, rfl, by rw [tx_len, sizeLine_eq]; omega, ?_⟩
      rw [show cutS (tx nm) none (some 1) = tx (nm.take 1) from cut_txTo nm 1]
      refine ⟨_, _, rfl, rfl, fits5 (by rw [tx_len, tx_len, List.length_take]; omega), ?_⟩
      refine ⟨d, c, nm ++ nm.take 1, tb, by rw [← tx_app]; rfl, srcb, by rw [List.length_append, List.length_take]; omega, fun x hx => ?_, by omega, fun Hc p tc butc srcc htc pat pl pin => ?_⟩
      · rcases List.mem_append.mp hx with y | y
        · exact nmlow x y
        · exact nmlow x (List.mem_of_mem_take y)
      have m3 : (met p).length ≤ 3 := by
        have := nd_sub (met p) nm (met_nodup p) fun x hx => by
          rcases List.mem_append.mp (pin x (mem_met.mp hx)) with y | y
          · exact y
          · exact List.mem_of_mem_take y
        omega
      obtain ⟨kd1, hd1⟩ := srca.dk
      obtain ⟨kd2, hd2⟩ := srcb.dk
      have knc := (kna.but Kdd hd1 butb).but Kdd hd2 butc
      have bc := (ba.trans butb).trans butc
      have p40 := pat.len
      refine ⟨_, rfl, tx p, rfl, by rw [tx_size]; omega, fun S nS => ?_⟩
      have sS := same_new (o := SetK P w S (inS (tx p).cps.toList) (met (tx p).cps.toList).length) nS
      have hml : (met (tx p).cps.toList).length = (met p).length := by rw [tx_list]
      refine ⟨S, _, _, rfl, upd_same, by rw [hml]; omega, ?_⟩
      rw [hml]
      have knS := knc.same sS
      have srcS := srcc.same sS
      have bS := bc.trans (But.same sS)
      refine ⟨fun σ' H' => ∃ kvs' : List (Key × V), σ' = [some (.ref a), some (.ref d), some (.int ((n : Nat) : Int)), some (.ref l), some (.ref l3), some (.ref Kd), some (.int (0 + (i : Int))), some (.str (tx nm)), some (.str (tx p)), some (.int (((met p).length : Nat) : Int)), none, none, none] ∧ Src H' d c tc ∧ Kn H' Kd (1 + (i + 1)) kvs' ∧ (∃ a, valV kvs' (Sum.inl (((met p).length : Nat) : Int)) = some (.ref a) ∧ H' a = some (.lst (tzs (fdN (met p).length 8)))) ∧ But d H H', ?_, ?_⟩
      · have g := DGet.k (k := (Sum.inl (((met p).length : Nat) : Int) : Key)) knS.hD
        rcases knS.val (met p).length with y | ⟨a1, y1, y2, y3⟩
        · rw [y] at g
          refine ⟨_, rfl, _, rfl, Kd, _, rfl, g, true, rfl, iteT ?_⟩
          refine ⟨_, rfl, .inl ⟨(met p).length, rfl, m3, fun H7 l7 s7 nl7 hl7 => ?_⟩⟩
          have kn7 := knS.same s7
          have src7 := srcS.same s7
          have l7K : l7 ≠ Kd := fun z => by
            rw [z] at nl7
            exact absurd (nl7.symm.trans knS.hD) (by simp)
          have kl := knS.len
          refine ⟨_, rfl, _, rfl, Kd, _, rfl, DPut.k (k := (Sum.inl (((met p).length : Nat) : Int) : Key)) kn7.hD (fitsLt (by omega)), ?_⟩
          refine ⟨_, rfl, src7.upd Kdd (src4.new KdH).2, ⟨upd_same, by have := putK_ln kvs (Sum.inl (((met p).length : Nat) : Int) : Key) (.ref l7); omega, fun m => ?_⟩, ⟨l7, by rw [valV_put, if_pos rfl], by rw [upd_ne l7K]; exact hl7⟩, fun x o ne e => ?_⟩
          · rw [valV_put]
            by_cases z : (Sum.inl ((m : Nat) : Int) : Key) = Sum.inl (((met p).length : Nat) : Int)
            · rw [if_pos z]
              have : m = (met p).length := by have := Sum.inl.inj z; omega
              subst this
              exact .inr ⟨l7, rfl, by rw [upd_ne l7K]; exact hl7, l7K⟩
            · rw [if_neg z]
              rcases kn7.val m with y | ⟨a2, z1, z2, z3⟩
              · exact .inl y
              · exact .inr ⟨a2, z1, by rw [upd_ne z3]; exact z2, z3⟩
          · have h1 := (bS.trans (But.same s7)) x o ne e
            have h2 := b4 x o ne e
            rw [upd_ne fun z => by rw [z, KdH] at h2; cases h2]
            exact h1
        · rw [y1] at g
          refine ⟨_, rfl, _, rfl, Kd, _, rfl, g, false, rfl, iteF ?_⟩
          exact ⟨kvs, rfl, srcS, ⟨knS.hD, by have := knS.len; omega, knS.val⟩, ⟨a1, y1, y2⟩, bS⟩
      rintro σ' He ⟨kvs', rfl, srce, kne, ⟨a1, ha1, ha2⟩, be⟩
      have g := DGet.k (k := (Sum.inl (((met p).length : Nat) : Int) : Key)) kne.hD
      rw [ha1] at g
      clear g
      refine ⟨_, rfl, p, rfl, pat, fun Hn sn => ?_⟩
      have knn := kne.same sn
      have g := DGet.k (k := (Sum.inl (((met p).length : Nat) : Int) : Key)) knn.hD
      rw [ha1] at g
      have key : inV (.str (tx (nf p))) (tzs (fdN (met p).length 8)) = unaB p := by
        rw [inV_tzs, Bool.eq_iff_iff, decide_eq_true_iff, unaB_iff, fd_mem m3, nf_nf, una_nf, met_nf]
        exact ⟨fun h => h.2.1, fun h => ⟨rfl, h, rfl⟩⟩
      refine ⟨_, rfl, _, rfl, Kd, _, rfl, g, a1, _, rfl, .inl (SqL.of (sn _ _ ha2)), rfl, flat_tzs _, ?_⟩
      have fin : ∀ {H' : Hp}, Same He H' → ∃ (t' : Nat) (kvs'' : List (Key × V)) (o6 o7 o8 o9 : Option V), [some (V.ref a), some (.ref d), some (.int ((n : Nat) : Int)), some (.ref l), some (.ref l3), some (.ref Kd), some (.int (0 + (i : Int))), some (.str (tx nm)), some (.str (tx p)), some (.int (((met p).length : Nat) : Int)), none, none, none] = [some (V.ref a), some (.ref d), some (.int ((n : Nat) : Int)), some (.ref l), some (.ref l3), some (.ref Kd), o6, o7, o8, o9, none, none, none] ∧ Src H' d c t' ∧ t' ≤ 50 + 100 * (i + 1) ∧ Kn H' Kd (1 + (i + 1)) kvs'' ∧ But d H H' := fun s => ⟨tc, kvs', _, _, _, _, rfl, srce.same s, by omega, kne.same s, be.trans (But.same s)⟩
      refine ⟨_, rfl, p, rfl, pat, fun Hf sf no => ?_, fun Hf ws sf hw few => ?_⟩
      · have nu : unaB p = false := by
          cases h : unaB p with
          | false => rfl
          | true =>
            obtain ⟨w, hw⟩ := una_steps (unaB_iff.mp h)
            exact absurd hw (no w)
        refine ⟨rfl, rfl, false, ?_, iteF (fin (sn.trans sf))⟩
        rw [if_neg (by simp), key, nu]
        simp
      · have yu : unaB p = true := unaB_iff.mpr (steps_una hw)
        refine ⟨rfl, rfl, false, ?_, iteF (fin (sn.trans sf))⟩
        rw [if_neg (by simp), key, yu]
        simp
    · rintro σ Ha ⟨t, kvs, o6, o7, o8, o9, rfl, srca, ht, kna, ba⟩
      refine ⟨_, rfl, 1, rfl, by show 1 ≤ sizeLine; decide, fun E1 nE1 => ?_⟩
      have sE := same_new (o := .lst [V.int 1]) nE1
      have hE := upd_same (H := Ha) (a := E1) (o := .lst [V.int 1])
      refine ⟨10, 29, rfl, rfl, ⟨by decide, by decide, by decide⟩, by show 7 ≤ sizeLine; decide, fun L nL => ?_⟩
      have sL := same_new (o := .lst [V.int 4, .int (-1), .bl true, .str (Str.ofString "2"), .non, .ref E1, .int (10 ^ (29 : Int).toNat)]) nL
      have hL := upd_same (H := upd Ha E1 (.lst [V.int 1])) (a := L) (o := .lst [V.int 4, .int (-1), .bl true, .str (Str.ofString "2"), .non, .ref E1, .int (10 ^ (29 : Int).toNat)])
      have sEL := sE.trans sL
      have hE2 := sL _ _ hE
      have src2 := srca.same sEL
      have Ed := (srca.new nE1).1
      have Ld := ((srca.same sE).new nL).1
      have ba2 := ba.trans (But.same sEL)
      generalize upd (upd Ha E1 (.lst [V.int 1])) L (.lst [V.int 4, .int (-1), .bl true, .str (Str.ofString "2"), .non, .ref E1, .int (10 ^ (29 : Int).toNat)]) = Hb at *
      have hi6 : ns.length ≤ 63 := hn
      refine ⟨d, c, L, _, t, rfl, src2, SqL.of hL, Ld, by show 0 < 7; decide, by show 7 < 1073741824; decide, ?_, fun He v te bute srce hte hv => ?_⟩
      · revert ht
        split <;> intro ht <;> omega
      obtain ⟨dd, hdx, hc, hb, fit⟩ : ∃ dd : PyData, Dx (fun _ => False) He v dd ∧ cntB 0 3 dd = false ∧ dd.bulk ≤ 1000000 ∧ Fit 40 300 3 dd := by
        simp only [List.mem_cons, List.not_mem_nil, or_false] at hv
        rcases hv with rfl | rfl | rfl | rfl | rfl | rfl | rfl
        · exact ⟨.int 4, .int _, by decide, by simp [PyData.bulk], ⟨by simp only [okD]; decide, by simp [PyData.bulk], by simp [PyData.depth]⟩⟩
        · exact ⟨.int (-1), .int _, by decide, by simp [PyData.bulk], ⟨by simp only [okD]; decide, by simp [PyData.bulk], by simp [PyData.depth]⟩⟩
        · exact ⟨.bool true, .bl _, rfl, by simp [PyData.bulk], ⟨by simp [okD], by simp [PyData.bulk], by simp [PyData.depth]⟩⟩
        · exact ⟨.str (Str.ofString "2"), .str _, rfl, by simp only [PyData.bulk]; decide, ⟨by simp only [okD]; decide, by simp only [PyData.bulk]; decide, by simp [PyData.depth]⟩⟩
        · exact ⟨.none, .non, rfl, by simp [PyData.bulk], ⟨by simp [okD], by simp [PyData.bulk], by simp [PyData.depth]⟩⟩
        · exact ⟨.list [.int 1], .lst (bute _ _ Ed hE2) (fun z => z) (.cons (.int 1) .nil), rfl, by simp [PyData.bulk, PyData.bulkAll], ⟨by simp only [okD, okAll]; decide, by simp [PyData.bulk, PyData.bulkAll], by simp [PyData.depth, PyData.depthAll]⟩⟩
        · exact ⟨.int (10 ^ (29 : Int).toNat), .int _, by decide, by simp [PyData.bulk], ⟨by simp only [okD]; decide, by simp [PyData.bulk], by simp [PyData.depth]⟩⟩
      obtain ⟨g1, g2, g3⟩ := fit.repr (by decide) (by decide) (by decide) (by decide)
      refine ⟨_, rfl, .inr ⟨(fun _ => False), v, dd, rfl, hdx, hb, hc, fun d1 H1 nd1 s1 hd1 => ⟨true, T.xInvalidCount.te, fun _ a1 na => ?_, fun z => nomatch z⟩⟩⟩
      have s2e := same_new (o := exV a1 (.ref T.cInvalidCount) (some d1)) na
      have er : ErrAt (upd H1 a1 (exV a1 (.ref T.cInvalidCount) (some d1))) a1 T.cInvalidCount d1 [("value", v)] := ⟨upd_same, s2e _ _ hd1⟩
      have hdx2 := hdx.same (s1.trans s2e)
      generalize upd H1 a1 (exV a1 (.ref T.cInvalidCount) (some d1)) = H2 at *
      refine ⟨_, rfl, a1, T.cInvalidCount, d1, _, .ty "ValueError", .type "ValueError", true, rfl, er, T.xInvalidCount.exc, .ty _, T.oInvalidCountValueError, true, rfl, ?_⟩
      refine ⟨_, rfl, a1, T.cInvalidCount, d1, _, v, rfl, er, T.xInvalidCount.xf, T.xInvalidCount.no, by simp [List.lookup], (fun _ => False), v, dd, rfl, hdx2, g1, g2, g3, _, rfl, (fun _ => False), v, dd, rfl, hdx2, g1, g2, g3, ?_⟩
      refine ⟨rfl, ?_⟩
      rw [decide_eq_true rfl]
      exact q _
end
end Mo

namespace Mo
open PySem PySem.Spec PyProof.Rows L2
theorem txt_mk {K : PySem.W.Frag} {h : Heap} {mg : Str → Option Value} {fa : Addr} (X : K.In h) (G : h.Ns mainGlobals mg) (hfa : mg "law" = some (.ref fa))
    {cInvalidCount : Addr} (eInvalidCount : PySem.W.nsIn K mainGlobals "InvalidCount" = some (some (.ref cInvalidCount)))
    {nmInvalidCount qInvalidCount : Str} {NInvalidCount : Addr} {bsInvalidCount : List Value} {snInvalidCount : List Str} {subInvalidCount : List Value} {abInvalidCount : Bool} {colInvalidCount : Option Bool} {ddInvalidCount : Option Addr} {u0InvalidCount u1InvalidCount u2InvalidCount u3InvalidCount u5InvalidCount : Option Value}
    (xLInvalidCount : K.lookup cInvalidCount = some (excClassObj nmInvalidCount qInvalidCount cInvalidCount NInvalidCount bsInvalidCount [.type "ValueError", .type "Exception", .type "BaseException", .type "object"] true snInvalidCount subInvalidCount abInvalidCount colInvalidCount ddInvalidCount u0InvalidCount u1InvalidCount u2InvalidCount u3InvalidCount u5InvalidCount "ValueError.__new__"))
    (saInvalidCount : PySem.W.findIn K (.ref cInvalidCount) "__setattr__" = some (some (.builtin "object.__setattr__")))
    (gaInvalidCount : PySem.W.findIn K (.ref cInvalidCount) "__getattribute__" = some (some (.builtin "BaseException.__getattribute__")))
    (ggInvalidCount : PySem.W.findIn K (.ref cInvalidCount) "__getattr__" = some none)
    (nbInvalidCount : PySem.W.findIn K (.ref cInvalidCount) "value" = some none)
    (exInvalidCount : PySem.W.subIn K (.ref cInvalidCount) (.type "BaseException") = some true)
    (tyInvalidCount : PySem.W.typeIn K (.ref cInvalidCount) = some (.type "type"))
    (hdInvalidCount : PySem.W.hasDictIn K cInvalidCount = true)
    (kCInvalidCount : PySem.W.keepIn K (.ref cInvalidCount) = true)
    (sCInvalidCount : PySem.W.subIn K (.ref cInvalidCount) (.ref cInvalidCount) = some true)
    (caInvalidCount : PySem.W.findIn K (.ref cInvalidCount) "__class__" = some (some (.builtin "object.__class__")))
    (cnInvalidCount : PySem.W.specialIn K (.builtin "object.__class__") "__get__" = some (some (.builtin "getset_descriptor.__get__")))
    (ctInvalidCount : PySem.W.takesIn K (.builtin "object.__class__") = some true)
    (cmInvalidCount : PySem.W.mroIn K cInvalidCount (.type "object") = some true)
    {iInvalidCount : Addr} (iCInvalidCount : PySem.W.findIn K (.ref cInvalidCount) "__init__" = some (some (.ref iInvalidCount))) (tIInvalidCount : PySem.W.typeIn K (.ref iInvalidCount) = some (.type "function"))
    {iodInvalidCount ianInvalidCount : Option Addr} {islInvalidCount : Array (Option Value)} {iocInvalidCount ikVInvalidCount idcInvalidCount ipmInvalidCount icdInvalidCount ictInvalidCount : Value} (iLInvalidCount : K.lookup iInvalidCount = some ⟨iocInvalidCount, iodInvalidCount, .func (PySem.W.fnOf "__init__" "InvalidCount.__init__" (defArgs sInitInvalidCount) (defBody sInitInvalidCount) (defScope sInitInvalidCount) .none ikVInvalidCount idcInvalidCount ipmInvalidCount ianInvalidCount icdInvalidCount ictInvalidCount), islInvalidCount⟩) (iDInvalidCount : PySem.W.codeIn K icdInvalidCount "InvalidCount.__init__" = true) (iKInvalidCount : PySem.W.keepIn K (.ref iInvalidCount) = true)
    (suInvalidCountValueError : PySem.W.subIn K (.ref cInvalidCount) (.type "ValueError") = some true)
    {od0 an0 : Option Addr} {sl0 : Array (Option Value)} {oc0 kV0 dc0 pm0 cd0 ct0 : Value} {f0 : Addr}
    (a0 : PySem.W.nsIn K mainGlobals "is_pattern" = some (some (.ref f0))) (l0 : K.lookup f0 = some ⟨oc0, od0, .func (PySem.W.fnOf "is_pattern" "is_pattern" (defArgs sIsPattern) (defBody sIsPattern) (defScope sIsPattern) .none kV0 dc0 pm0 an0 cd0 ct0), sl0⟩) (c0 : PySem.W.codeIn K cd0 "is_pattern" = true) (k0 : PySem.W.keepIn K (.ref f0) = true)
    {od1 an1 : Option Addr} {sl1 : Array (Option Value)} {oc1 kV1 dc1 pm1 cd1 ct1 : Value} {f1 : Addr}
    (a1 : PySem.W.nsIn K mainGlobals "is_plain_integer" = some (some (.ref f1))) (l1 : K.lookup f1 = some ⟨oc1, od1, .func (PySem.W.fnOf "is_plain_integer" "is_plain_integer" (defArgs sIsPlainInteger) (defBody sIsPlainInteger) (defScope sIsPlainInteger) .none kV1 dc1 pm1 an1 cd1 ct1), sl1⟩) (c1 : PySem.W.codeIn K cd1 "is_plain_integer" = true) (k1 : PySem.W.keepIn K (.ref f1) = true)
    {od2 an2 : Option Addr} {sl2 : Array (Option Value)} {oc2 kV2 dc2 pm2 cd2 ct2 : Value} {f2 : Addr}
    (a2 : PySem.W.nsIn K mainGlobals "is_variable_set" = some (some (.ref f2))) (l2 : K.lookup f2 = some ⟨oc2, od2, .func (PySem.W.fnOf "is_variable_set" "is_variable_set" (defArgs sIsVariableSet) (defBody sIsVariableSet) (defScope sIsVariableSet) .none kV2 dc2 pm2 an2 cd2 ct2), sl2⟩) (c2 : PySem.W.codeIn K cd2 "is_variable_set" = true) (k2 : PySem.W.keepIn K (.ref f2) = true)
    {od3 an3 : Option Addr} {sl3 : Array (Option Value)} {oc3 kV3 dc3 pm3 cd3 ct3 : Value} {f3 : Addr}
    (a3 : PySem.W.nsIn K mainGlobals "check_pattern" = some (some (.ref f3))) (l3 : K.lookup f3 = some ⟨oc3, od3, .func (PySem.W.fnOf "check_pattern" "check_pattern" (defArgs sCheckPattern) (defBody sCheckPattern) (defScope sCheckPattern) .none kV3 dc3 pm3 an3 cd3 ct3), sl3⟩) (c3 : PySem.W.codeIn K cd3 "check_pattern" = true) (k3 : PySem.W.keepIn K (.ref f3) = true)
    {od4 an4 : Option Addr} {sl4 : Array (Option Value)} {oc4 kV4 dc4 pm4 cd4 ct4 : Value} {f4 : Addr}
    (a4 : PySem.W.nsIn K mainGlobals "check_variable_set" = some (some (.ref f4))) (l4 : K.lookup f4 = some ⟨oc4, od4, .func (PySem.W.fnOf "check_variable_set" "check_variable_set" (defArgs sCheckVariableSet) (defBody sCheckVariableSet) (defScope sCheckVariableSet) .none kV4 dc4 pm4 an4 cd4 ct4), sl4⟩) (c4 : PySem.W.codeIn K cd4 "check_variable_set" = true) (k4 : PySem.W.keepIn K (.ref f4) = true)
    {od5 an5 : Option Addr} {sl5 : Array (Option Value)} {oc5 kV5 dc5 pm5 cd5 ct5 : Value} {f5 : Addr}
    (a5 : PySem.W.nsIn K mainGlobals "check_count" = some (some (.ref f5))) (l5 : K.lookup f5 = some ⟨oc5, od5, .func (PySem.W.fnOf "check_count" "check_count" (defArgs sCheckCount) (defBody sCheckCount) (defScope sCheckCount) .none kV5 dc5 pm5 an5 cd5 ct5), sl5⟩) (c5 : PySem.W.codeIn K cd5 "check_count" = true) (k5 : PySem.W.keepIn K (.ref f5) = true)
    {od6 an6 : Option Addr} {sl6 : Array (Option Value)} {oc6 kV6 dc6 pm6 cd6 ct6 : Value} {f6 : Addr}
    (a6 : PySem.W.nsIn K mainGlobals "variables" = some (some (.ref f6))) (l6 : K.lookup f6 = some ⟨oc6, od6, .func (PySem.W.fnOf "variables" "variables" (defArgs sVariables) (defBody sVariables) (defScope sVariables) .none kV6 dc6 pm6 an6 cd6 ct6), sl6⟩) (c6 : PySem.W.codeIn K cd6 "variables" = true) (k6 : PySem.W.keepIn K (.ref f6) = true)
    {od7 an7 : Option Addr} {sl7 : Array (Option Value)} {oc7 kV7 dc7 pm7 cd7 ct7 : Value} {f7 : Addr}
    (a7 : PySem.W.nsIn K mainGlobals "normal" = some (some (.ref f7))) (l7 : K.lookup f7 = some ⟨oc7, od7, .func (PySem.W.fnOf "normal" "normal" (defArgs sNormal) (defBody sNormal) (defScope sNormal) .none kV7 dc7 pm7 an7 cd7 ct7), sl7⟩) (c7 : PySem.W.codeIn K cd7 "normal" = true) (k7 : PySem.W.keepIn K (.ref f7) = true)
    {od8 an8 : Option Addr} {sl8 : Array (Option Value)} {oc8 kV8 dc8 pm8 cd8 ct8 : Value} {f8 : Addr}
    (a8 : PySem.W.nsIn K mainGlobals "delete" = some (some (.ref f8))) (l8 : K.lookup f8 = some ⟨oc8, od8, .func (PySem.W.fnOf "delete" "delete" (defArgs sDelete) (defBody sDelete) (defScope sDelete) .none kV8 dc8 pm8 an8 cd8 ct8), sl8⟩) (c8 : PySem.W.codeIn K cd8 "delete" = true) (k8 : PySem.W.keepIn K (.ref f8) = true)
    {od9 an9 : Option Addr} {sl9 : Array (Option Value)} {oc9 kV9 dc9 pm9 cd9 ct9 : Value} {f9 : Addr}
    (a9 : PySem.W.nsIn K mainGlobals "links" = some (some (.ref f9))) (l9 : K.lookup f9 = some ⟨oc9, od9, .func (PySem.W.fnOf "links" "links" (defArgs sLinks) (defBody sLinks) (defScope sLinks) .none kV9 dc9 pm9 an9 cd9 ct9), sl9⟩) (c9 : PySem.W.codeIn K cd9 "links" = true) (k9 : PySem.W.keepIn K (.ref f9) = true)
    {od10 an10 : Option Addr} {sl10 : Array (Option Value)} {oc10 kV10 dc10 pm10 cd10 ct10 : Value} {f10 : Addr}
    (a10 : PySem.W.nsIn K mainGlobals "merged" = some (some (.ref f10))) (l10 : K.lookup f10 = some ⟨oc10, od10, .func (PySem.W.fnOf "merged" "merged" (defArgs sMerged) (defBody sMerged) (defScope sMerged) .none kV10 dc10 pm10 an10 cd10 ct10), sl10⟩) (c10 : PySem.W.codeIn K cd10 "merged" = true) (k10 : PySem.W.keepIn K (.ref f10) = true)
    {od11 an11 : Option Addr} {sl11 : Array (Option Value)} {oc11 kV11 dc11 pm11 cd11 ct11 : Value} {f11 : Addr}
    (a11 : PySem.W.nsIn K mainGlobals "linked_parts" = some (some (.ref f11))) (l11 : K.lookup f11 = some ⟨oc11, od11, .func (PySem.W.fnOf "linked_parts" "linked_parts" (defArgs sLinkedParts) (defBody sLinkedParts) (defScope sLinkedParts) .none kV11 dc11 pm11 an11 cd11 ct11), sl11⟩) (c11 : PySem.W.codeIn K cd11 "linked_parts" = true) (k11 : PySem.W.keepIn K (.ref f11) = true)
    {od12 an12 : Option Addr} {sl12 : Array (Option Value)} {oc12 kV12 dc12 pm12 cd12 ct12 : Value} {f12 : Addr}
    (a12 : PySem.W.nsIn K mainGlobals "components" = some (some (.ref f12))) (l12 : K.lookup f12 = some ⟨oc12, od12, .func (PySem.W.fnOf "components" "components" (defArgs sComponents) (defBody sComponents) (defScope sComponents) .none kV12 dc12 pm12 an12 cd12 ct12), sl12⟩) (c12 : PySem.W.codeIn K cd12 "components" = true) (k12 : PySem.W.keepIn K (.ref f12) = true)
    {od13 an13 : Option Addr} {sl13 : Array (Option Value)} {oc13 kV13 dc13 pm13 cd13 ct13 : Value} {f13 : Addr}
    (a13 : PySem.W.nsIn K mainGlobals "touches" = some (some (.ref f13))) (l13 : K.lookup f13 = some ⟨oc13, od13, .func (PySem.W.fnOf "touches" "touches" (defArgs sTouches) (defBody sTouches) (defScope sTouches) .none kV13 dc13 pm13 an13 cd13 ct13), sl13⟩) (c13 : PySem.W.codeIn K cd13 "touches" = true) (k13 : PySem.W.keepIn K (.ref f13) = true)
    {od14 an14 : Option Addr} {sl14 : Array (Option Value)} {oc14 kV14 dc14 pm14 cd14 ct14 : Value} {f14 : Addr}
    (a14 : PySem.W.nsIn K mainGlobals "keeps_sides" = some (some (.ref f14))) (l14 : K.lookup f14 = some ⟨oc14, od14, .func (PySem.W.fnOf "keeps_sides" "keeps_sides" (defArgs sKeepsSides) (defBody sKeepsSides) (defScope sKeepsSides) .none kV14 dc14 pm14 an14 cd14 ct14), sl14⟩) (c14 : PySem.W.codeIn K cd14 "keeps_sides" = true) (k14 : PySem.W.keepIn K (.ref f14) = true)
    {od15 an15 : Option Addr} {sl15 : Array (Option Value)} {oc15 kV15 dc15 pm15 cd15 ct15 : Value} {f15 : Addr}
    (a15 : PySem.W.nsIn K mainGlobals "free_among" = some (some (.ref f15))) (l15 : K.lookup f15 = some ⟨oc15, od15, .func (PySem.W.fnOf "free_among" "free_among" (defArgs sFreeAmong) (defBody sFreeAmong) (defScope sFreeAmong) .none kV15 dc15 pm15 an15 cd15 ct15), sl15⟩) (c15 : PySem.W.codeIn K cd15 "free_among" = true) (k15 : PySem.W.keepIn K (.ref f15) = true)
    {od16 an16 : Option Addr} {sl16 : Array (Option Value)} {oc16 kV16 dc16 pm16 cd16 ct16 : Value} {f16 : Addr}
    (a16 : PySem.W.nsIn K mainGlobals "free_sets" = some (some (.ref f16))) (l16 : K.lookup f16 = some ⟨oc16, od16, .func (PySem.W.fnOf "free_sets" "free_sets" (defArgs sFreeSets) (defBody sFreeSets) (defScope sFreeSets) .none kV16 dc16 pm16 an16 cd16 ct16), sl16⟩) (c16 : PySem.W.codeIn K cd16 "free_sets" = true) (k16 : PySem.W.keepIn K (.ref f16) = true)
    {od17 an17 : Option Addr} {sl17 : Array (Option Value)} {oc17 kV17 dc17 pm17 cd17 ct17 : Value} {f17 : Addr}
    (a17 : PySem.W.nsIn K mainGlobals "shortest_ways" = some (some (.ref f17))) (l17 : K.lookup f17 = some ⟨oc17, od17, .func (PySem.W.fnOf "shortest_ways" "shortest_ways" (defArgs sShortestWays) (defBody sShortestWays) (defScope sShortestWays) .none kV17 dc17 pm17 an17 cd17 ct17), sl17⟩) (c17 : PySem.W.codeIn K cd17 "shortest_ways" = true) (k17 : PySem.W.keepIn K (.ref f17) = true)
    {od18 an18 : Option Addr} {sl18 : Array (Option Value)} {oc18 kV18 dc18 pm18 cd18 ct18 : Value} {f18 : Addr}
    (a18 : PySem.W.nsIn K mainGlobals "chain" = some (some (.ref f18))) (l18 : K.lookup f18 = some ⟨oc18, od18, .func (PySem.W.fnOf "chain" "chain" (defArgs sChain) (defBody sChain) (defScope sChain) .none kV18 dc18 pm18 an18 cd18 ct18), sl18⟩) (c18 : PySem.W.codeIn K cd18 "chain" = true) (k18 : PySem.W.keepIn K (.ref f18) = true)
    {od19 an19 : Option Addr} {sl19 : Array (Option Value)} {oc19 kV19 dc19 pm19 cd19 ct19 : Value} {f19 : Addr}
    (a19 : PySem.W.nsIn K mainGlobals "is_avoidable" = some (some (.ref f19))) (l19 : K.lookup f19 = some ⟨oc19, od19, .func (PySem.W.fnOf "is_avoidable" "is_avoidable" (defArgs sIsAvoidable) (defBody sIsAvoidable) (defScope sIsAvoidable) .none kV19 dc19 pm19 an19 cd19 ct19), sl19⟩) (c19 : PySem.W.codeIn K cd19 "is_avoidable" = true) (k19 : PySem.W.keepIn K (.ref f19) = true)
    {od20 an20 : Option Addr} {sl20 : Array (Option Value)} {oc20 kV20 dc20 pm20 cd20 ct20 : Value} {f20 : Addr}
    (a20 : PySem.W.nsIn K mainGlobals "longer_by_one" = some (some (.ref f20))) (l20 : K.lookup f20 = some ⟨oc20, od20, .func (PySem.W.fnOf "longer_by_one" "longer_by_one" (defArgs sLongerByOne) (defBody sLongerByOne) (defScope sLongerByOne) .none kV20 dc20 pm20 an20 cd20 ct20), sl20⟩) (c20 : PySem.W.codeIn K cd20 "longer_by_one" = true) (k20 : PySem.W.keepIn K (.ref f20) = true)
    {od21 an21 : Option Addr} {sl21 : Array (Option Value)} {oc21 kV21 dc21 pm21 cd21 ct21 : Value} {f21 : Addr}
    (a21 : PySem.W.nsIn K mainGlobals "unavoidable_patterns" = some (some (.ref f21))) (l21 : K.lookup f21 = some ⟨oc21, od21, .func (PySem.W.fnOf "unavoidable_patterns" "unavoidable_patterns" (defArgs sUnavoidablePatterns) (defBody sUnavoidablePatterns) (defScope sUnavoidablePatterns) .none kV21 dc21 pm21 an21 cd21 ct21), sl21⟩) (c21 : PySem.W.codeIn K cd21 "unavoidable_patterns" = true) (k21 : PySem.W.keepIn K (.ref f21) = true)
    {od22 an22 : Option Addr} {sl22 : Array (Option Value)} {oc22 kV22 dc22 pm22 cd22 ct22 : Value} {f22 : Addr}
    (a22 : PySem.W.nsIn K mainGlobals "_law_source" = some (some (.ref f22))) (l22 : K.lookup f22 = some ⟨oc22, od22, .func (PySem.W.fnOf "_law_source" "_law_source" (defArgs sLSource) (defBody sLSource) (defScope sLSource) .none kV22 dc22 pm22 an22 cd22 ct22), sl22⟩) (c22 : PySem.W.codeIn K cd22 "_law_source" = true) (k22 : PySem.W.keepIn K (.ref f22) = true)
    {od23 an23 : Option Addr} {sl23 : Array (Option Value)} {oc23 kV23 dc23 pm23 cd23 ct23 : Value} {f23 : Addr}
    (a23 : PySem.W.nsIn K mainGlobals "_law_draw" = some (some (.ref f23))) (l23 : K.lookup f23 = some ⟨oc23, od23, .func (PySem.W.fnOf "_law_draw" "_law_draw" (defArgs sLDraw) (defBody sLDraw) (defScope sLDraw) .none kV23 dc23 pm23 an23 cd23 ct23), sl23⟩) (c23 : PySem.W.codeIn K cd23 "_law_draw" = true) (k23 : PySem.W.keepIn K (.ref f23) = true)
    {od24 an24 : Option Addr} {sl24 : Array (Option Value)} {oc24 kV24 dc24 pm24 cd24 ct24 : Value} {f24 : Addr}
    (a24 : PySem.W.nsIn K mainGlobals "_law_pick" = some (some (.ref f24))) (l24 : K.lookup f24 = some ⟨oc24, od24, .func (PySem.W.fnOf "_law_pick" "_law_pick" (defArgs sLPick) (defBody sLPick) (defScope sLPick) .none kV24 dc24 pm24 an24 cd24 ct24), sl24⟩) (c24 : PySem.W.codeIn K cd24 "_law_pick" = true) (k24 : PySem.W.keepIn K (.ref f24) = true)
    {od25 an25 : Option Addr} {sl25 : Array (Option Value)} {oc25 kV25 dc25 pm25 cd25 ct25 : Value} {f25 : Addr}
    (a25 : PySem.W.nsIn K mainGlobals "_law_names" = some (some (.ref f25))) (l25 : K.lookup f25 = some ⟨oc25, od25, .func (PySem.W.fnOf "_law_names" "_law_names" (defArgs sLNames) (defBody sLNames) (defScope sLNames) .none kV25 dc25 pm25 an25 cd25 ct25), sl25⟩) (c25 : PySem.W.codeIn K cd25 "_law_names" = true) (k25 : PySem.W.keepIn K (.ref f25) = true)
    {od26 an26 : Option Addr} {sl26 : Array (Option Value)} {oc26 kV26 dc26 pm26 cd26 ct26 : Value} {f26 : Addr}
    (a26 : PySem.W.nsIn K mainGlobals "_law_universal" = some (some (.ref f26))) (l26 : K.lookup f26 = some ⟨oc26, od26, .func (PySem.W.fnOf "_law_universal" "_law_universal" (defArgs sLUniversal) (defBody sLUniversal) (defScope sLUniversal) .none kV26 dc26 pm26 an26 cd26 ct26), sl26⟩) (c26 : PySem.W.codeIn K cd26 "_law_universal" = true) (k26 : PySem.W.keepIn K (.ref f26) = true)
    {od27 an27 : Option Addr} {sl27 : Array (Option Value)} {oc27 kV27 dc27 pm27 cd27 ct27 : Value} {f27 : Addr}
    (a27 : PySem.W.nsIn K mainGlobals "_law_pattern" = some (some (.ref f27))) (l27 : K.lookup f27 = some ⟨oc27, od27, .func (PySem.W.fnOf "_law_pattern" "_law_pattern" (defArgs sLPattern) (defBody sLPattern) (defScope sLPattern) .none kV27 dc27 pm27 an27 cd27 ct27), sl27⟩) (c27 : PySem.W.codeIn K cd27 "_law_pattern" = true) (k27 : PySem.W.keepIn K (.ref f27) = true)
    {od28 an28 : Option Addr} {sl28 : Array (Option Value)} {oc28 kV28 dc28 pm28 cd28 ct28 : Value} {f28 : Addr}
    (a28 : PySem.W.nsIn K mainGlobals "_law_components" = some (some (.ref f28))) (l28 : K.lookup f28 = some ⟨oc28, od28, .func (PySem.W.fnOf "_law_components" "_law_components" (defArgs sLComponents) (defBody sLComponents) (defScope sLComponents) .none kV28 dc28 pm28 an28 cd28 ct28), sl28⟩) (c28 : PySem.W.codeIn K cd28 "_law_components" = true) (k28 : PySem.W.keepIn K (.ref f28) = true)
    {od29 an29 : Option Addr} {sl29 : Array (Option Value)} {oc29 kV29 dc29 pm29 cd29 ct29 : Value} {f29 : Addr}
    (a29 : PySem.W.nsIn K mainGlobals "_law_is_free" = some (some (.ref f29))) (l29 : K.lookup f29 = some ⟨oc29, od29, .func (PySem.W.fnOf "_law_is_free" "_law_is_free" (defArgs sLIsFree) (defBody sLIsFree) (defScope sLIsFree) .none kV29 dc29 pm29 an29 cd29 ct29), sl29⟩) (c29 : PySem.W.codeIn K cd29 "_law_is_free" = true) (k29 : PySem.W.keepIn K (.ref f29) = true)
    {od30 an30 : Option Addr} {sl30 : Array (Option Value)} {oc30 kV30 dc30 pm30 cd30 ct30 : Value} {f30 : Addr}
    (a30 : PySem.W.nsIn K mainGlobals "_law_without" = some (some (.ref f30))) (l30 : K.lookup f30 = some ⟨oc30, od30, .func (PySem.W.fnOf "_law_without" "_law_without" (defArgs sLWithout) (defBody sLWithout) (defScope sLWithout) .none kV30 dc30 pm30 an30 cd30 ct30), sl30⟩) (c30 : PySem.W.codeIn K cd30 "_law_without" = true) (k30 : PySem.W.keepIn K (.ref f30) = true)
    {od31 an31 : Option Addr} {sl31 : Array (Option Value)} {oc31 kV31 dc31 pm31 cd31 ct31 : Value} {f31 : Addr}
    (a31 : PySem.W.nsIn K mainGlobals "_law_reached" = some (some (.ref f31))) (l31 : K.lookup f31 = some ⟨oc31, od31, .func (PySem.W.fnOf "_law_reached" "_law_reached" (defArgs sLReached) (defBody sLReached) (defScope sLReached) .none kV31 dc31 pm31 an31 cd31 ct31), sl31⟩) (c31 : PySem.W.codeIn K cd31 "_law_reached" = true) (k31 : PySem.W.keepIn K (.ref f31) = true)
    {od32 an32 : Option Addr} {sl32 : Array (Option Value)} {oc32 kV32 dc32 pm32 cd32 ct32 : Value} {f32 : Addr}
    (a32 : PySem.W.nsIn K mainGlobals "_law_distances" = some (some (.ref f32))) (l32 : K.lookup f32 = some ⟨oc32, od32, .func (PySem.W.fnOf "_law_distances" "_law_distances" (defArgs sLDistances) (defBody sLDistances) (defScope sLDistances) .none kV32 dc32 pm32 an32 cd32 ct32), sl32⟩) (c32 : PySem.W.codeIn K cd32 "_law_distances" = true) (k32 : PySem.W.keepIn K (.ref f32) = true)
    {od33 an33 : Option Addr} {sl33 : Array (Option Value)} {oc33 kV33 dc33 pm33 cd33 ct33 : Value} {f33 : Addr}
    (a33 : PySem.W.nsIn K mainGlobals "_law_fewest" = some (some (.ref f33))) (l33 : K.lookup f33 = some ⟨oc33, od33, .func (PySem.W.fnOf "_law_fewest" "_law_fewest" (defArgs sLFewest) (defBody sLFewest) (defScope sLFewest) .none kV33 dc33 pm33 an33 cd33 ct33), sl33⟩) (c33 : PySem.W.codeIn K cd33 "_law_fewest" = true) (k33 : PySem.W.keepIn K (.ref f33) = true)
    {od34 an34 : Option Addr} {sl34 : Array (Option Value)} {oc34 kV34 dc34 pm34 cd34 ct34 : Value} {f34 : Addr}
    (a34 : PySem.W.nsIn K mainGlobals "_law_listed" = some (some (.ref f34))) (l34 : K.lookup f34 = some ⟨oc34, od34, .func (PySem.W.fnOf "_law_listed" "_law_listed" (defArgs sLListed) (defBody sLListed) (defScope sLListed) .none kV34 dc34 pm34 an34 cd34 ct34), sl34⟩) (c34 : PySem.W.codeIn K cd34 "_law_listed" = true) (k34 : PySem.W.keepIn K (.ref f34) = true)
    {od35 an35 : Option Addr} {sl35 : Array (Option Value)} {oc35 kV35 dc35 pm35 cd35 ct35 : Value} {f35 : Addr}
    (a35 : PySem.W.nsIn K mainGlobals "law" = some (some (.ref f35))) (l35 : K.lookup f35 = some ⟨oc35, od35, .func (PySem.W.fnOf "law" "law" (defArgs sLaw) (defBody sLaw) (defScope sLaw) .none kV35 dc35 pm35 an35 cd35 ct35), sl35⟩) (c35 : PySem.W.codeIn K cd35 "law" = true) (k35 : PySem.W.keepIn K (.ref f35) = true)
    {t_VARIABLES : Tok} (z_VARIABLES : PySem.W.nsIn K mainGlobals "VARIABLES" = some (some (.str "abcdefghijklmnopqrstuvwxyz" t_VARIABLES)))
    {t_LONGEST_PATTERN : Tok} (z_LONGEST_PATTERN : PySem.W.nsIn K mainGlobals "LONGEST_PATTERN" = some (some (.int 40 t_LONGEST_PATTERN)))
    {t_MOST_VARIABLES : Tok} (z_MOST_VARIABLES : PySem.W.nsIn K mainGlobals "MOST_VARIABLES" = some (some (.int 8 t_MOST_VARIABLES)))
    {t_MOST_LISTED : Tok} (z_MOST_LISTED : PySem.W.nsIn K mainGlobals "MOST_LISTED" = some (some (.int 3 t_MOST_LISTED)))
    (z_all : PySem.W.nsIn K mainGlobals "all" = some none)
    (z_len : PySem.W.nsIn K mainGlobals "len" = some none)
    (z_set : PySem.W.nsIn K mainGlobals "set" = some none)
    (z_isinstance : PySem.W.nsIn K mainGlobals "isinstance" = some none)
    (z_str : PySem.W.nsIn K mainGlobals "str" = some none)
    (z_bool : PySem.W.nsIn K mainGlobals "bool" = some none)
    (z_int : PySem.W.nsIn K mainGlobals "int" = some none)
    (z_enumerate : PySem.W.nsIn K mainGlobals "enumerate" = some none)
    (z_sorted : PySem.W.nsIn K mainGlobals "sorted" = some none)
    (z_list : PySem.W.nsIn K mainGlobals "list" = some none)
    (z_zip : PySem.W.nsIn K mainGlobals "zip" = some none)
    (z_any : PySem.W.nsIn K mainGlobals "any" = some none)
    (z_abs : PySem.W.nsIn K mainGlobals "abs" = some none)
    (z_range : PySem.W.nsIn K mainGlobals "range" = some none)
    (z_min : PySem.W.nsIn K mainGlobals "min" = some none)
    (z_repr : PySem.W.nsIn K mainGlobals "repr" = some none)
    (z_ValueError : PySem.W.nsIn K mainGlobals "ValueError" = some none) :
    ∃ T : Txt K mg, T.aLaw = fa ∧ ∀ (s : Shared) (v : Value), BindsTo s T.dLaw ⟨[v], []⟩ [("_law_script", v)] := by
  have e := hfa.symm.trans (PySem.W.mg_of X G a35)
  cases e
  have F0 := fun_mk (st := sIsPattern) l0 c0 k0
  have F1 := fun_mk (st := sIsPlainInteger) l1 c1 k1
  have F2 := fun_mk (st := sIsVariableSet) l2 c2 k2
  have F3 := fun_mk (st := sCheckPattern) l3 c3 k3
  have F4 := fun_mk (st := sCheckVariableSet) l4 c4 k4
  have F5 := fun_mk (st := sCheckCount) l5 c5 k5
  have F6 := fun_mk (st := sVariables) l6 c6 k6
  have F7 := fun_mk (st := sNormal) l7 c7 k7
  have F8 := fun_mk (st := sDelete) l8 c8 k8
  have F9 := fun_mk (st := sLinks) l9 c9 k9
  have F10 := fun_mk (st := sMerged) l10 c10 k10
  have F11 := fun_mk (st := sLinkedParts) l11 c11 k11
  have F12 := fun_mk (st := sComponents) l12 c12 k12
  have F13 := fun_mk (st := sTouches) l13 c13 k13
  have F14 := fun_mk (st := sKeepsSides) l14 c14 k14
  have F15 := fun_mk (st := sFreeAmong) l15 c15 k15
  have F16 := fun_mk (st := sFreeSets) l16 c16 k16
  have F17 := fun_mk (st := sShortestWays) l17 c17 k17
  have F18 := fun_mk (st := sChain) l18 c18 k18
  have F19 := fun_mk (st := sIsAvoidable) l19 c19 k19
  have F20 := fun_mk (st := sLongerByOne) l20 c20 k20
  have F21 := fun_mk (st := sUnavoidablePatterns) l21 c21 k21
  have F22 := fun_mk (st := sLSource) l22 c22 k22
  have F23 := fun_mk (st := sLDraw) l23 c23 k23
  have F24 := fun_mk (st := sLPick) l24 c24 k24
  have F25 := fun_mk (st := sLNames) l25 c25 k25
  have F26 := fun_mk (st := sLUniversal) l26 c26 k26
  have F27 := fun_mk (st := sLPattern) l27 c27 k27
  have F28 := fun_mk (st := sLComponents) l28 c28 k28
  have F29 := fun_mk (st := sLIsFree) l29 c29 k29
  have F30 := fun_mk (st := sLWithout) l30 c30 k30
  have F31 := fun_mk (st := sLReached) l31 c31 k31
  have F32 := fun_mk (st := sLDistances) l32 c32 k32
  have F33 := fun_mk (st := sLFewest) l33 c33 k33
  have F34 := fun_mk (st := sLListed) l34 c34 k34
  have F35 := fun_mk (st := sLaw) l35 c35 k35
  have FIInvalidCount := fun_mk (st := sInitInvalidCount) iLInvalidCount iDInvalidCount iKInvalidCount
  exact ⟨⟨_, PySem.W.mg_of X G eInvalidCount, _, _, FIInvalidCount, FIInvalidCount.binds (ps := ["self", "value"]) fun _ _ _ _ _ _ us hl => match us, hl with | [_, _], _ => rfl, ⟨⟨⟨_, _, _, _, _, _, _, _, _, _, _, _, _, _, _, xLInvalidCount, by decide +kernel⟩, saInvalidCount, exInvalidCount, tyInvalidCount, kCInvalidCount⟩, ⟨gaInvalidCount, ggInvalidCount, exInvalidCount, hdInvalidCount⟩, ⟨gaInvalidCount, ggInvalidCount, exInvalidCount, hdInvalidCount, caInvalidCount, cnInvalidCount, ctInvalidCount, cmInvalidCount⟩, nbInvalidCount, PySem.W.exm_ref exInvalidCount hdInvalidCount tyInvalidCount sCInvalidCount, iCInvalidCount, tIInvalidCount⟩, kit1_type suInvalidCountValueError (by decide +kernel), _, _, F0, F0.binds (ps := ["value"]) fun _ _ _ _ _ _ us hl => match us, hl with | [_], _ => rfl, PySem.W.mg_of X G a0, _, _, F1, F1.binds (ps := ["value"]) fun _ _ _ _ _ _ us hl => match us, hl with | [_], _ => rfl, PySem.W.mg_of X G a1, _, _, F2, F2.binds (ps := ["value"]) fun _ _ _ _ _ _ us hl => match us, hl with | [_], _ => rfl, PySem.W.mg_of X G a2, _, _, F3, F3.binds (ps := ["value"]) fun _ _ _ _ _ _ us hl => match us, hl with | [_], _ => rfl, PySem.W.mg_of X G a3, _, _, F4, F4.binds (ps := ["value"]) fun _ _ _ _ _ _ us hl => match us, hl with | [_], _ => rfl, PySem.W.mg_of X G a4, _, _, F5, F5.binds (ps := ["value", "least", "most"]) fun _ _ _ _ _ _ us hl => match us, hl with | [_, _, _], _ => rfl, PySem.W.mg_of X G a5, _, _, F6, F6.binds (ps := ["pattern"]) fun _ _ _ _ _ _ us hl => match us, hl with | [_], _ => rfl, PySem.W.mg_of X G a6, _, _, F7, F7.binds (ps := ["pattern"]) fun _ _ _ _ _ _ us hl => match us, hl with | [_], _ => rfl, PySem.W.mg_of X G a7, _, _, F8, F8.binds (ps := ["pattern", "letters"]) fun _ _ _ _ _ _ us hl => match us, hl with | [_, _], _ => rfl, PySem.W.mg_of X G a8, _, _, F9, F9.binds (ps := ["pattern"]) fun _ _ _ _ _ _ us hl => match us, hl with | [_], _ => rfl, PySem.W.mg_of X G a9, _, _, F10, F10.binds (ps := ["parts", "first", "second"]) fun _ _ _ _ _ _ us hl => match us, hl with | [_, _, _], _ => rfl, PySem.W.mg_of X G a10, _, _, F11, F11.binds (ps := ["names", "edges"]) fun _ _ _ _ _ _ us hl => match us, hl with | [_, _], _ => rfl, PySem.W.mg_of X G a11, _, _, F12, F12.binds (ps := ["pattern"]) fun _ _ _ _ _ _ us hl => match us, hl with | [_], _ => rfl, PySem.W.mg_of X G a12, _, _, F13, F13.binds (ps := ["names", "letters"]) fun _ _ _ _ _ _ us hl => match us, hl with | [_, _], _ => rfl, PySem.W.mg_of X G a13, _, _, F14, F14.binds (ps := ["parts", "letters"]) fun _ _ _ _ _ _ us hl => match us, hl with | [_, _], _ => rfl, PySem.W.mg_of X G a14, _, _, F15, F15.binds (ps := ["names", "parts"]) fun _ _ _ _ _ _ us hl => match us, hl with | [_, _], _ => rfl, PySem.W.mg_of X G a15, _, _, F16, F16.binds (ps := ["pattern"]) fun _ _ _ _ _ _ us hl => match us, hl with | [_], _ => rfl, PySem.W.mg_of X G a16, _, _, F17, F17.binds (ps := ["whole", "list_free", "remove"]) fun _ _ _ _ _ _ us hl => match us, hl with | [_, _, _], _ => rfl, PySem.W.mg_of X G a17, _, _, F18, F18.binds (ps := ["pattern"]) fun _ _ _ _ _ _ us hl => match us, hl with | [_], _ => rfl, PySem.W.mg_of X G a18, _, _, F19, F19.binds (ps := ["pattern"]) fun _ _ _ _ _ _ us hl => match us, hl with | [_], _ => rfl, PySem.W.mg_of X G a19, _, _, F20, F20.binds (ps := ["pattern", "names"]) fun _ _ _ _ _ _ us hl => match us, hl with | [_, _], _ => rfl, PySem.W.mg_of X G a20, _, _, F21, F21.binds (ps := ["count"]) fun _ _ _ _ _ _ us hl => match us, hl with | [_], _ => rfl, PySem.W.mg_of X G a21, _, _, F22, F22.binds (ps := ["_law_script"]) fun _ _ _ _ _ _ us hl => match us, hl with | [_], _ => rfl, PySem.W.mg_of X G a22, _, _, F23, F23.binds (ps := ["_law_source_here", "_law_size"]) fun _ _ _ _ _ _ us hl => match us, hl with | [_, _], _ => rfl, PySem.W.mg_of X G a23, _, _, F24, F24.binds (ps := ["_law_source_here", "_law_items"]) fun _ _ _ _ _ _ us hl => match us, hl with | [_, _], _ => rfl, PySem.W.mg_of X G a24, _, _, F25, F25.binds (ps := ["_law_source_here", "_law_count"]) fun _ _ _ _ _ _ us hl => match us, hl with | [_, _], _ => rfl, PySem.W.mg_of X G a25, _, _, F26, F26.binds (ps := ["_law_count"]) fun _ _ _ _ _ _ us hl => match us, hl with | [_], _ => rfl, PySem.W.mg_of X G a26, _, _, F27, F27.binds (ps := ["_law_source_here", "_law_names_here"]) fun _ _ _ _ _ _ us hl => match us, hl with | [_, _], _ => rfl, PySem.W.mg_of X G a27, _, _, F28, F28.binds (ps := ["_law_pattern_here"]) fun _ _ _ _ _ _ us hl => match us, hl with | [_], _ => rfl, PySem.W.mg_of X G a28, _, _, F29, F29.binds (ps := ["_law_pattern_here", "_law_letters"]) fun _ _ _ _ _ _ us hl => match us, hl with | [_, _], _ => rfl, PySem.W.mg_of X G a29, _, _, F30, F30.binds (ps := ["_law_pattern_here", "_law_letters"]) fun _ _ _ _ _ _ us hl => match us, hl with | [_, _], _ => rfl, PySem.W.mg_of X G a30, _, _, F31, F31.binds (ps := ["_law_pattern_here"]) fun _ _ _ _ _ _ us hl => match us, hl with | [_], _ => rfl, PySem.W.mg_of X G a31, _, _, F32, F32.binds (ps := ["_law_successors"]) fun _ _ _ _ _ _ us hl => match us, hl with | [_], _ => rfl, PySem.W.mg_of X G a32, _, _, F33, F33.binds (ps := ["_law_pattern_here"]) fun _ _ _ _ _ _ us hl => match us, hl with | [_], _ => rfl, PySem.W.mg_of X G a33, _, _, F34, F34.binds (ps := ["_law_count"]) fun _ _ _ _ _ _ us hl => match us, hl with | [_], _ => rfl, PySem.W.mg_of X G a34, _, _, F35, F35.binds (ps := ["_law_script"]) fun _ _ _ _ _ _ us hl => match us, hl with | [_], _ => rfl, PySem.W.mg_of X G a35, _, PySem.W.mg_of X G z_VARIABLES, _, PySem.W.mg_of X G z_LONGEST_PATTERN, _, PySem.W.mg_of X G z_MOST_VARIABLES, _, PySem.W.mg_of X G z_MOST_LISTED, PySem.W.mg_none_of X G z_all, PySem.W.mg_none_of X G z_len, PySem.W.mg_none_of X G z_set, PySem.W.mg_none_of X G z_isinstance, PySem.W.mg_none_of X G z_str, PySem.W.mg_none_of X G z_bool, PySem.W.mg_none_of X G z_int, PySem.W.mg_none_of X G z_enumerate, PySem.W.mg_none_of X G z_sorted, PySem.W.mg_none_of X G z_list, PySem.W.mg_none_of X G z_zip, PySem.W.mg_none_of X G z_any, PySem.W.mg_none_of X G z_abs, PySem.W.mg_none_of X G z_range, PySem.W.mg_none_of X G z_min, PySem.W.mg_none_of X G z_repr, PySem.W.mg_none_of X G z_ValueError⟩, rfl, fun s v => .of_eq rfl⟩
theorem all_mk {l : PySem.W.OpenLaw} {w : World} {K : PySem.W.Frag} {mg : Str → Option Value} {fa : Addr} (hT : ∃ T : Txt K mg, T.aLaw = fa ∧ ∀ (s : Shared) (v : Value), BindsTo s T.dLaw ⟨[v], []⟩ [("_law_script", v)]) :
    ∃ fd : FuncData, (∀ (s : Shared) (v : Value), BindsTo s fd ⟨[v], []⟩ [("_law_script", v)]) ∧ ∀ base : Heap, K.In base → base.Ns mainGlobals mg → (∃ mm, base.Ns sysModules mm) → FnG l.prog w K mg base CX0 11 fa fd ["_law_script"] (spLaw K) := by
  obtain ⟨T, rfl, hb⟩ := hT
  exact ⟨T.dLaw, hb, fun base _ _ hm => ok_law (k := 0) T hm⟩
end Mo
open PySem PySem.W PyProof.Rows
set_option maxHeartbeats 0 in
theorem PySem.Challenge.cw_mustoccur_k46_whole_lists_of_unavoidable_holds : PySem.Challenge.rw_mustoccur_k46_whole_lists_of_unavoidable.Holds := by
  w_on; o_law; k_head; (case hw => w_witness2)
  k_fill
  refine Mo.walkM (l := PySem.Challenge.rw_mustoccur_k46_whole_lists_of_unavoidable) (n := 63) (k := 11) (x := "_law_script") (CX := fun _ => L2.CX0) (sp := fun w => Mo.spLaw _) rfl (by decide) rfl ⟨rfl, by decide, by decide⟩ (fun w h Y => PySem.W.kIn_of Y) (by decide +kernel) ?F (fun _ _ a ns hl _ hS => ⟨a, ns, rfl, hS, hl, fun _ => rfl⟩) (fun _ _ _ _ _ h => h)
  case F =>
    intro w mg fa h KX G hmg
    refine Mo.all_mk ?_
    refine' Mo.txt_mk KX G hmg ?eInvalidCount ?xLInvalidCount ?saInvalidCount ?gaInvalidCount ?ggInvalidCount ?nbInvalidCount ?exInvalidCount ?tyInvalidCount ?hdInvalidCount ?kCInvalidCount ?sCInvalidCount ?caInvalidCount ?cnInvalidCount ?ctInvalidCount ?cmInvalidCount ?iCInvalidCount ?tIInvalidCount ?iLInvalidCount ?iDInvalidCount ?iKInvalidCount ?suInvalidCountValueError ?a0 ?l0 ?c0 ?k0 ?a1 ?l1 ?c1 ?k1 ?a2 ?l2 ?c2 ?k2 ?a3 ?l3 ?c3 ?k3 ?a4 ?l4 ?c4 ?k4 ?a5 ?l5 ?c5 ?k5 ?a6 ?l6 ?c6 ?k6 ?a7 ?l7 ?c7 ?k7 ?a8 ?l8 ?c8 ?k8 ?a9 ?l9 ?c9 ?k9 ?a10 ?l10 ?c10 ?k10 ?a11 ?l11 ?c11 ?k11 ?a12 ?l12 ?c12 ?k12 ?a13 ?l13 ?c13 ?k13 ?a14 ?l14 ?c14 ?k14 ?a15 ?l15 ?c15 ?k15 ?a16 ?l16 ?c16 ?k16 ?a17 ?l17 ?c17 ?k17 ?a18 ?l18 ?c18 ?k18 ?a19 ?l19 ?c19 ?k19 ?a20 ?l20 ?c20 ?k20 ?a21 ?l21 ?c21 ?k21 ?a22 ?l22 ?c22 ?k22 ?a23 ?l23 ?c23 ?k23 ?a24 ?l24 ?c24 ?k24 ?a25 ?l25 ?c25 ?k25 ?a26 ?l26 ?c26 ?k26 ?a27 ?l27 ?c27 ?k27 ?a28 ?l28 ?c28 ?k28 ?a29 ?l29 ?c29 ?k29 ?a30 ?l30 ?c30 ?k30 ?a31 ?l31 ?c31 ?k31 ?a32 ?l32 ?c32 ?k32 ?a33 ?l33 ?c33 ?k33 ?a34 ?l34 ?c34 ?k34 ?a35 ?l35 ?c35 ?k35 ?z_VARIABLES ?z_LONGEST_PATTERN ?z_MOST_VARIABLES ?z_MOST_LISTED ?z_all ?z_len ?z_set ?z_isinstance ?z_str ?z_bool ?z_int ?z_enumerate ?z_sorted ?z_list ?z_zip ?z_any ?z_abs ?z_range ?z_min ?z_repr ?z_ValueError
    (case eInvalidCount => k_is); (case xLInvalidCount => k_is); (case saInvalidCount => k_is); (case gaInvalidCount => k_is); (case ggInvalidCount => k_is); (case nbInvalidCount => k_is); (case exInvalidCount => k_is); (case tyInvalidCount => k_is); (case hdInvalidCount => k_is); (case kCInvalidCount => k_is); (case sCInvalidCount => k_is); (case caInvalidCount => k_is); (case cnInvalidCount => k_is); (case ctInvalidCount => k_is); (case cmInvalidCount => k_is); (case iCInvalidCount => k_is); (case tIInvalidCount => k_is); (case iLInvalidCount => k_is); (case iDInvalidCount => k_is); (case iKInvalidCount => k_is); (case suInvalidCountValueError => k_is); (case a0 => k_is); (case l0 => k_is); (case c0 => k_is); (case k0 => k_is); (case a1 => k_is); (case l1 => k_is); (case c1 => k_is); (case k1 => k_is); (case a2 => k_is); (case l2 => k_is); (case c2 => k_is); (case k2 => k_is); (case a3 => k_is); (case l3 => k_is); (case c3 => k_is); (case k3 => k_is); (case a4 => k_is); (case l4 => k_is); (case c4 => k_is); (case k4 => k_is); (case a5 => k_is); (case l5 => k_is); (case c5 => k_is); (case k5 => k_is); (case a6 => k_is); (case l6 => k_is); (case c6 => k_is); (case k6 => k_is); (case a7 => k_is); (case l7 => k_is); (case c7 => k_is); (case k7 => k_is); (case a8 => k_is); (case l8 => k_is); (case c8 => k_is); (case k8 => k_is); (case a9 => k_is); (case l9 => k_is); (case c9 => k_is); (case k9 => k_is); (case a10 => k_is); (case l10 => k_is); (case c10 => k_is); (case k10 => k_is); (case a11 => k_is); (case l11 => k_is); (case c11 => k_is); (case k11 => k_is); (case a12 => k_is); (case l12 => k_is); (case c12 => k_is); (case k12 => k_is); (case a13 => k_is); (case l13 => k_is); (case c13 => k_is); (case k13 => k_is); (case a14 => k_is); (case l14 => k_is); (case c14 => k_is); (case k14 => k_is); (case a15 => k_is); (case l15 => k_is); (case c15 => k_is); (case k15 => k_is); (case a16 => k_is); (case l16 => k_is); (case c16 => k_is); (case k16 => k_is); (case a17 => k_is); (case l17 => k_is); (case c17 => k_is); (case k17 => k_is); (case a18 => k_is); (case l18 => k_is); (case c18 => k_is); (case k18 => k_is); (case a19 => k_is); (case l19 => k_is); (case c19 => k_is); (case k19 => k_is); (case a20 => k_is); (case l20 => k_is); (case c20 => k_is); (case k20 => k_is); (case a21 => k_is); (case l21 => k_is); (case c21 => k_is); (case k21 => k_is); (case a22 => k_is); (case l22 => k_is); (case c22 => k_is); (case k22 => k_is); (case a23 => k_is); (case l23 => k_is); (case c23 => k_is); (case k23 => k_is); (case a24 => k_is); (case l24 => k_is); (case c24 => k_is); (case k24 => k_is); (case a25 => k_is); (case l25 => k_is); (case c25 => k_is); (case k25 => k_is); (case a26 => k_is); (case l26 => k_is); (case c26 => k_is); (case k26 => k_is); (case a27 => k_is); (case l27 => k_is); (case c27 => k_is); (case k27 => k_is); (case a28 => k_is); (case l28 => k_is); (case c28 => k_is); (case k28 => k_is); (case a29 => k_is); (case l29 => k_is); (case c29 => k_is); (case k29 => k_is); (case a30 => k_is); (case l30 => k_is); (case c30 => k_is); (case k30 => k_is); (case a31 => k_is); (case l31 => k_is); (case c31 => k_is); (case k31 => k_is); (case a32 => k_is); (case l32 => k_is); (case c32 => k_is); (case k32 => k_is); (case a33 => k_is); (case l33 => k_is); (case c33 => k_is); (case k33 => k_is); (case a34 => k_is); (case l34 => k_is); (case c34 => k_is); (case k34 => k_is); (case a35 => k_is); (case l35 => k_is); (case c35 => k_is); (case k35 => k_is); (case z_VARIABLES => k_is); (case z_LONGEST_PATTERN => k_is); (case z_MOST_VARIABLES => k_is); (case z_MOST_LISTED => k_is); (case z_all => k_is); (case z_len => k_is); (case z_set => k_is); (case z_isinstance => k_is); (case z_str => k_is); (case z_bool => k_is); (case z_int => k_is); (case z_enumerate => k_is); (case z_sorted => k_is); (case z_list => k_is); (case z_zip => k_is); (case z_any => k_is); (case z_abs => k_is); (case z_range => k_is); (case z_min => k_is); (case z_repr => k_is); (case z_ValueError => k_is)
